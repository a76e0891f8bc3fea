/- The law ConfTells, walked. -/
import Derived.Test.YthocmnfmialcaaaRD
namespace Go.Proofs.Ythocmnfmialcaaa.Cn
open Go.RowKit Go.ChangeAt By CoP Co Mo Kd Go.Shelf
variable {w W w' : World} {A A2 : Option Addr} {n c m c2 : Nat} {vs ls : List Int}
theorem take_at {P : Program} {ops : Array Oper} {Q : Exit → Act → World → Prop} {md : Region.Mode} {S : World → Prop} {i : Nat} {oi : Oper} {d : Option Tmp} {v : Value} {fuel : Nat} {listed : Array Bool} {a : Act} {w : World} (hi : ops[i]? = some oi) (hd : oi.dst = d)
    (hs : Region.noSelect ops = true) (hf : Region.free md ops listed i = true) (hr : (Region.ready md ops listed).contains i = true)
    (hQ : ∀ c a w, Q (.panic c) (a.put d v) w → Q (.panic c) a w) (hy : YieldsIf P ops S oi v a) (hS : S w)
    (h : wpAnyH P md ops Q S fuel (listed.setIfInBounds i true) (a.put d v) w) : wpAnyH P md ops Q S (fuel + 1) listed a w := by
  subst hd
  exact wpAnyH_take hi hs hf hr hQ hy hS h
theorem keep_alloc {W w' : World} (h : Below W.heap.size W w') (o : Obj) : Below W.heap.size W (w'.alloc o) := h.alloc h.size o
theorem keep_drew {W w' : World} (h : Below W.heap.size W w') : Below W.heap.size W w'.drew := h.drew
/-- Ints behind no ints, in a row just made. -/
theorem own_made (w : World) : (w.alloc (.cells #[] 3)).ownsRow w.heap.size 3 1 (.slice (some ⟨w.heap.size, 0, none⟩) 0 0) 0 [] :=
  World.ownsRow_made (base := w.heap.size) (e := 3) (size := 1) w #[] 0 (Nat.le_refl _) (by decide) rfl
/-- append([]int{}, l...): what it gives. -/
theorem step_copyI {ops : Array Oper} {o : Oper} {a : Act} {w w1 : World} {K : Act → World → Prop} {Q : Exit → Act → World → Prop} {E : Prop}
    (hw1 : w1 = w.alloc (.cells #[] 3) ∨ w1 = (w.alloc (.cells #[] 3)).drew)
    (s x : Operand) (hop : o.op = .call { callee := .builtin .append, args := #[s, x], argTypes := #[22, 22] }) (hwt : Region.wanted o (yielded ops a.tmps) = true)
    (hs : a.eval s = .slice (some ⟨w.heap.size, 0, none⟩) 0 0) {A : Option Addr} {m c : Nat} {l : List Int} (hx : a.eval x = .slice A m c) (hm : m = l.length) (hr : LiesI w w.heap.size A l) (hsz : l.length ≤ 9437184)
    (hK : ∀ A9 c9 w9, Ls w9 (NewF w w9) A9 l → Below w.heap.size w w9 → K (a.put o.dst (.slice A9 l.length c9)) w9) :
    if Region.wanted o (yielded ops a.tmps) = true then Oper.wp Try.prog o a w1 K Q else E := by
  rw [if_pos hwt]
  have hb : Below w.heap.size w w1 := by
    rcases hw1 with rfl | rfl
    · exact (Below.refl _ _).alloc (Nat.le_refl _) _
    · exact ((Below.refl _ _).alloc (Nat.le_refl _) _).drew
  have ho : w1.ownsRow w.heap.size 3 1 (.slice (some ⟨w.heap.size, 0, none⟩) 0 0) 0 [] := by
    rcases hw1 with rfl | rfl
    · exact own_made w
    · exact own_made w
  obtain ⟨v', w', hrun, h2, h3, h4, h5⟩ := run_appI0 ho hm (hr.below hb) hsz hb.size o.type
  obtain ⟨A9, c9, rfl, _, h7⟩ := OwnZ.ls (w := w) (l := l) h2 (Nat.le_refl _) (LiesI.i64 hr)
  exact wp_app_run s x _ hop hs hx hrun (hK _ _ _ h7 (hb.trans h3))
set_option maxHeartbeats 4000000 in
theorem confTells_walk (h : CfAt w (Old w) A n c A2 m c2 vs ls) (x : Int) (hx : I64 x) (A9 : Option Addr) (n9 c9 : Nat) (ids : List Int) (hn9 : n9 = ids.length) (hm9 : n9 ≤ 9437184) (hr9 : LiesI w w.heap.size A9 ids) :
    Calls Try.prog 3 #[cfV A n c A2 m c2, .int .i64 x, .slice A9 n9 c9] w (Says true w) := by
  obtain ⟨W, hW⟩ : ∃ W, W = w.alloc (.cells #[.slice A n c, .slice A2 m c2] 24) := ⟨_, rfl⟩
  have hbW : Below w.heap.size w W := by rw [hW]; exact (Below.refl _ _).alloc (Nat.le_refl _) _
  have hrow : W.heap[w.heap.size]? = some (.cells #[.slice A n c, .slice A2 m c2] 24 (0, 0)) := by rw [hW]; exact heap_alloc_new w _
  have hcf : ∀ w', Below W.heap.size W w' → CfAt w' (Old w') A n c A2 m c2 vs ls := fun w' hb => h.below (By.ext hbW hb)
  have hxc : ∀ w', Below W.heap.size W w' → w'.cell? ⟨w.heap.size, 0, none⟩ = some (.slice A n c) := fun w' hb => (box_cells ((hb.block _ (row_lt hrow)).trans hrow)).1
  have hxd : ∀ w', Below W.heap.size W w' → w'.cell? ⟨w.heap.size, 1, none⟩ = some (.slice A2 m c2) := fun w' hb => (box_cells ((hb.block _ (row_lt hrow)).trans hrow)).2
  have hli : ∀ w', Below W.heap.size W w' → LiesI w' w'.heap.size A9 ids := fun w' hb => (hr9.below (hbW.trans (hb.mono hbW.size))).more (Nat.le_trans hbW.size hb.size)
  have HO := Lib.hid (fun (w' : World) (hb : Below W.heap.size W w') => ownC_any (hcf w' hb))
  have HOK := Lib.hid (fun (w' : World) (hb : Below W.heap.size W w') => confOKc_any (hcf w' hb) w' (Below.refl _ _))
  have HM := Lib.hid (fun (w' : World) (hb : Below W.heap.size W w') => member_any (hcf w' hb) x)
  have HRM := Lib.hid (fun (w' : World) (hb : Below W.heap.size W w') => rMember_any (hcf w' hb) x hx.1 hx.2)
  have HV := Lib.hid (fun (w' : World) (hb : Below W.heap.size W w') => voter_any (hcf w' hb) x)
  have HRV := Lib.hid (fun (w' : World) (hb : Below W.heap.size W w') => rVoter_any (hcf w' hb) x hx.1 hx.2)
  have HQ := Lib.hid (fun (w' : World) (hb : Below W.heap.size W w') (A3 : Option Addr) (c3 : Nat) (hr : LiesI w' w'.heap.size A3 ids) => quorum_any (hcf w' hb) A3 ids.length c3 ids rfl (by omega) hr)
  have HRQ := Lib.hid (fun (w' : World) (hb : Below W.heap.size W w') => rQuorum_any (hcf w' hb) A9 n9 c9 ids hn9 (by omega) (hli w' hb))
  have HCK := Lib.hid (fun (w' : World) (A : Option Addr) (n c : Nat) (A2 : Option Addr) (m c2 : Nat) (h : CfAt w' (Old w') A n c A2 m c2 vs ls) => check_any h)
  have hck : chk vs ls = if confB vs ls = true then 0 else 2 := rfl
  generalize chk vs ls = z at HCK hck
  generalize (confB vs ls && (decide (x ∈ vs) || decide (x ∈ ls))) = bm at HM HRM
  generalize (confB vs ls && decide (x ∈ vs)) = bv at HV HRV
  generalize quorB vs ls ids = bq at HQ HRQ
  generalize confB vs ls = bc at HOK hck
  have HLI := Lib.hid hli
  have HBW := Lib.hid hbW
  have HN9 := Lib.hid hn9
  have HM9 := Lib.hid hm9
  have hs0 : Below W.heap.size W W := Below.refl _ _
  have e1 : (bm == bm) = true := beq_self_eq_true bm
  have e2 : (bv == bv) = true := beq_self_eq_true bv
  have e3 : (bq == bq) = true := beq_self_eq_true bq
  clear h hcf hrow hbW hx hr9 hli hn9 hm9
  cases bc with
  | true =>
    obtain rfl : z = 0 := hck
    go_enter Try.func3, Try.ntmps3
    go_wp2_with fail
    rw [← hW]
    clear hW
    refine (HO.out W hs0).mono ?_
    rintro e w1 ⟨A', n', c', A2', m', c2', rfl, h1, hb1⟩
    have H1 := Lib.hid (h1.less (fun b hb => hb.2 : ∀ b, New W w1 b → Old w1 b))
    have hs1 := By.ext hs0 hb1
    clear h1 hb1
    go_wp2_with fail
    refine (HCK.out w1 _ _ _ _ _ _ H1.out).mono ?_
    rintro e w2 ⟨rfl, hb2⟩
    have hs2 := By.ext hs1 hb2
    clear hb2
    go_wp2_with fail
    refine (HOK.out w2 hs2).mono ?_
    rintro e w3 ⟨rfl, hb3⟩
    have hs3 := By.ext hs2 hb3
    clear hb3
    go_upto_region 3 with fail
    refine wp_region_held_drew (S := fun w' => Below W.heap.size W w') (by kernel_rfl) (hs3.drew) (fun hHeld => ?_)
    refine wpAnyH_ready (rs := [0]) (by kernel_rfl) (by simp) ?_
    refine AllReadyH.cons rfl (fun K hK => ?_) AllReadyH.nil
    go_simp
    go_wp2_with (go_at_call 12; refine (answers_any _).mono ?_; rintro e wa ⟨rfl, hbwa⟩)
    refine hK.out _ _ (By.ext hHeld hbwa) (fun hHeld => ?_)
    clear hK K
    try simp only [Act.put, List.setIfInBounds_toArray, List.set_cons_zero, List.set_cons_succ]
    refine take_at (i := 1) (d := some 15) (v := ?_) rfl rfl (by kernel_rfl) (by kernel_rfl) (by kernel_rfl) (fun _ _ _ h => h) (Or.inl ⟨by rfl, ?_⟩) hHeld ?_
    rotate_left
    · (intro w hSw; (try dsimp only at hSw); first | (go_simp; done) | (go_simp; with_reducible rfl))
    try simp only [Act.put, List.setIfInBounds_toArray, List.set_cons_zero, List.set_cons_succ]
    refine take_at (i := 2) (d := some 16) (v := ?_) rfl rfl (by kernel_rfl) (by kernel_rfl) (by kernel_rfl) (fun _ _ _ h => h) (Or.inl ⟨by rfl, ?_⟩) hHeld ?_
    rotate_left
    · (intro w hSw; (try dsimp only at hSw); first | (go_simp; done) | (go_simp; with_reducible rfl))
    try simp only [Act.put, List.setIfInBounds_toArray, List.set_cons_zero, List.set_cons_succ]
    refine take_at (i := 3) (d := some 17) (v := ?_) rfl rfl (by kernel_rfl) (by kernel_rfl) (by kernel_rfl) (fun _ _ _ h => h) (Or.inl ⟨by rfl, ?_⟩) hHeld ?_
    rotate_left
    · (intro w hSw; (try dsimp only at hSw); first | (go_simp; done) | (go_simp; with_reducible rfl))
    try simp only [Act.put, List.setIfInBounds_toArray, List.set_cons_zero, List.set_cons_succ]
    refine take_at (i := 4) (d := some 18) (v := ?_) rfl rfl (by kernel_rfl) (by kernel_rfl) (by kernel_rfl) (fun _ _ _ h => h) (Or.inl ⟨by rfl, ?_⟩) hHeld ?_
    rotate_left
    · (intro w hSw; (try dsimp only at hSw); first | (go_simp; done) | (go_simp; with_reducible rfl))
    try simp only [Act.put, List.setIfInBounds_toArray, List.set_cons_zero, List.set_cons_succ]
    refine take_at (i := 5) (d := some 19) (v := ?_) rfl rfl (by kernel_rfl) (by kernel_rfl) (by kernel_rfl) (fun _ _ _ h => h) (Or.inl ⟨by rfl, ?_⟩) hHeld ?_
    rotate_left
    · (intro w hSw; (try dsimp only at hSw); first | (go_simp; done) | (go_simp; with_reducible rfl))
    try simp only [Act.put, List.setIfInBounds_toArray, List.set_cons_zero, List.set_cons_succ]
    refine take_at (i := 6) (d := some 20) (v := ?_) rfl rfl (by kernel_rfl) (by kernel_rfl) (by kernel_rfl) (fun _ _ _ h => h) (Or.inl ⟨by rfl, ?_⟩) hHeld ?_
    rotate_left
    · (intro w hSw; (try dsimp only at hSw); first | (go_simp; done) | (go_simp; with_reducible rfl))
    try simp only [Act.put, List.setIfInBounds_toArray, List.set_cons_zero, List.set_cons_succ]
    refine take_at (i := 7) (d := some 21) (v := ?_) rfl rfl (by kernel_rfl) (by kernel_rfl) (by kernel_rfl) (fun _ _ _ h => h) (Or.inl ⟨by rfl, ?_⟩) hHeld ?_
    rotate_left
    · (intro w hSw; (try dsimp only at hSw); first | (go_simp; done) | (go_simp; with_reducible rfl))
    try simp only [Act.put, List.setIfInBounds_toArray, List.set_cons_zero, List.set_cons_succ]
    refine take_at (i := 8) (d := some 22) (v := ?_) rfl rfl (by kernel_rfl) (by kernel_rfl) (by kernel_rfl) (fun _ _ _ h => h) (Or.inl ⟨by rfl, ?_⟩) hHeld ?_
    rotate_left
    · (intro w hSw; (try dsimp only at hSw); first | (go_simp; done) | (go_simp; with_reducible rfl))
    try simp only [Act.put, List.setIfInBounds_toArray, List.set_cons_zero, List.set_cons_succ]
    refine take_at (i := 9) (d := some 23) (v := ?_) rfl rfl (by kernel_rfl) (by kernel_rfl) (by kernel_rfl) (fun _ _ _ h => h) (Or.inl ⟨by rfl, ?_⟩) hHeld ?_
    rotate_left
    · (intro w hSw; (try dsimp only at hSw); first | (go_simp; done) | (go_simp; with_reducible rfl))
    try simp only [Act.put, List.setIfInBounds_toArray, List.set_cons_zero, List.set_cons_succ]
    refine take_at (i := 10) (d := some 24) (v := undef) rfl rfl (by kernel_rfl) (by kernel_rfl) (by kernel_rfl) (fun _ _ _ h => h) (Or.inr ⟨by rfl, rfl⟩) hHeld ?_
    try simp only [Act.put, List.setIfInBounds_toArray, List.set_cons_zero, List.set_cons_succ]
    refine take_at (i := 11) (d := some 25) (v := undef) rfl rfl (by kernel_rfl) (by kernel_rfl) (by kernel_rfl) (fun _ _ _ h => h) (Or.inr ⟨by rfl, rfl⟩) hHeld ?_
    try simp only [Act.put, List.setIfInBounds_toArray, List.set_cons_zero, List.set_cons_succ]
    refine take_at (i := 12) (d := some 26) (v := ?_) rfl rfl (by kernel_rfl) (by kernel_rfl) (by kernel_rfl) (fun _ _ _ h => h) (Or.inl ⟨by rfl, ?_⟩) hHeld ?_
    rotate_left
    · (intro w hSw; (try dsimp only at hSw); first | (go_simp; done) | (go_simp; with_reducible rfl))
    try simp only [Act.put, List.setIfInBounds_toArray, List.set_cons_zero, List.set_cons_succ]
    refine take_at (i := 13) (d := some 27) (v := ?_) rfl rfl (by kernel_rfl) (by kernel_rfl) (by kernel_rfl) (fun _ _ _ h => h) (Or.inl ⟨by rfl, ?_⟩) hHeld ?_
    rotate_left
    · (intro w hSw; (try dsimp only at hSw); first | (go_simp; done) | (go_simp; with_reducible rfl))
    try simp only [Act.put, List.setIfInBounds_toArray, List.set_cons_zero, List.set_cons_succ]
    refine take_at (i := 14) (d := some 28) (v := ?_) rfl rfl (by kernel_rfl) (by kernel_rfl) (by kernel_rfl) (fun _ _ _ h => h) (Or.inl ⟨by rfl, ?_⟩) hHeld ?_
    rotate_left
    · (intro w hSw; (try dsimp only at hSw); first | (go_simp; done) | (go_simp; with_reducible rfl))
    try simp only [Act.put, List.setIfInBounds_toArray, List.set_cons_zero, List.set_cons_succ]
    refine take_at (i := 15) (d := some 29) (v := ?_) rfl rfl (by kernel_rfl) (by kernel_rfl) (by kernel_rfl) (fun _ _ _ h => h) (Or.inl ⟨by rfl, ?_⟩) hHeld ?_
    rotate_left
    · (intro w hSw; (try dsimp only at hSw); first | (go_simp; done) | (go_simp; with_reducible rfl))
    try simp only [Act.put, List.setIfInBounds_toArray, List.set_cons_zero, List.set_cons_succ]
    refine take_at (i := 16) (d := some 30) (v := ?_) rfl rfl (by kernel_rfl) (by kernel_rfl) (by kernel_rfl) (fun _ _ _ h => h) (Or.inl ⟨by rfl, ?_⟩) hHeld ?_
    rotate_left
    · (intro w hSw; (try dsimp only at hSw); first | (go_simp; done) | (go_simp; with_reducible rfl))
    try simp only [Act.put, List.setIfInBounds_toArray, List.set_cons_zero, List.set_cons_succ]
    refine take_at (i := 18) (d := some 32) (v := ?_) rfl rfl (by kernel_rfl) (by kernel_rfl) (by kernel_rfl) (fun _ _ _ h => h) (Or.inl ⟨by rfl, ?_⟩) hHeld ?_
    rotate_left
    · (intro w hSw; (try dsimp only at hSw); first | (go_simp; done) | (go_simp; with_reducible rfl))
    try simp only [Act.put, List.setIfInBounds_toArray, List.set_cons_zero, List.set_cons_succ]
    refine take_at (i := 19) (d := some 33) (v := ?_) rfl rfl (by kernel_rfl) (by kernel_rfl) (by kernel_rfl) (fun _ _ _ h => h) (Or.inl ⟨by rfl, ?_⟩) hHeld ?_
    rotate_left
    · (intro w hSw; (try dsimp only at hSw); first | (go_simp; done) | (go_simp; with_reducible rfl))
    try simp only [Act.put, List.setIfInBounds_toArray, List.set_cons_zero, List.set_cons_succ]
    refine wpAnyH_ready (rs := [17]) (by kernel_rfl) (by simp) ?_
    refine AllReadyH.cons rfl (fun K hK => ?_) AllReadyH.nil
    go_simp
    go_wp2_with (go_at_call 13; refine (HM.out _ hHeld).mono ?_; rintro e wm ⟨rfl, hbwm⟩)
    refine hK.out _ _ (By.ext hHeld hbwm) (fun hHeld => ?_)
    clear hK K
    try simp only [Act.put, List.setIfInBounds_toArray, List.set_cons_zero, List.set_cons_succ]
    refine wpAnyH_ready (rs := [20]) (by kernel_rfl) (by simp) ?_
    refine AllReadyH.cons rfl (fun K hK => ?_) AllReadyH.nil
    go_simp
    go_wp2_with (go_at_call 14; refine (HRM.out _ hHeld).mono ?_; rintro e wrm ⟨rfl, hbwrm⟩)
    refine hK.out _ _ (By.ext hHeld hbwrm) (fun hHeld => ?_)
    clear hK K
    try simp only [Act.put, List.setIfInBounds_toArray, List.set_cons_zero, List.set_cons_succ]
    refine take_at (i := 21) (d := some 35) (v := ?_) rfl rfl (by kernel_rfl) (by kernel_rfl) (by kernel_rfl) (fun _ _ _ h => h) (Or.inl ⟨by rfl, ?_⟩) hHeld ?_
    rotate_left
    · (intro w hSw; (try dsimp only at hSw); first | (go_simp; done) | (go_simp; with_reducible rfl))
    try simp only [Act.put, List.setIfInBounds_toArray, List.set_cons_zero, List.set_cons_succ]
    refine take_at (i := 22) (d := some 36) (v := ?_) rfl rfl (by kernel_rfl) (by kernel_rfl) (by kernel_rfl) (fun _ _ _ h => h) (Or.inl ⟨by rfl, ?_⟩) hHeld ?_
    rotate_left
    · (intro w hSw; (try dsimp only at hSw); first | (go_simp; done) | (go_simp; with_reducible rfl))
    try simp only [Act.put, List.setIfInBounds_toArray, List.set_cons_zero, List.set_cons_succ]
    refine take_at (i := 23) (d := some 37) (v := ?_) rfl rfl (by kernel_rfl) (by kernel_rfl) (by kernel_rfl) (fun _ _ _ h => h) (Or.inl ⟨by rfl, ?_⟩) hHeld ?_
    rotate_left
    · (intro w hSw; (try dsimp only at hSw); first | (go_simp; done) | (go_simp; with_reducible rfl))
    try simp only [Act.put, List.setIfInBounds_toArray, List.set_cons_zero, List.set_cons_succ]
    refine take_at (i := 24) (d := some 38) (v := ?_) rfl rfl (by kernel_rfl) (by kernel_rfl) (by kernel_rfl) (fun _ _ _ h => h) (Or.inl ⟨by rfl, ?_⟩) hHeld ?_
    rotate_left
    · (intro w hSw; (try dsimp only at hSw); first | (go_simp; done) | (go_simp; with_reducible rfl))
    try simp only [Act.put, List.setIfInBounds_toArray, List.set_cons_zero, List.set_cons_succ]
    refine take_at (i := 25) (d := some 39) (v := ?_) rfl rfl (by kernel_rfl) (by kernel_rfl) (by kernel_rfl) (fun _ _ _ h => h) (Or.inl ⟨by rfl, ?_⟩) hHeld ?_
    rotate_left
    · (intro w hSw; (try dsimp only at hSw); first | (go_simp; done) | (go_simp; with_reducible rfl))
    try simp only [Act.put, List.setIfInBounds_toArray, List.set_cons_zero, List.set_cons_succ]
    refine take_at (i := 27) (d := some 41) (v := ?_) rfl rfl (by kernel_rfl) (by kernel_rfl) (by kernel_rfl) (fun _ _ _ h => h) (Or.inl ⟨by rfl, ?_⟩) hHeld ?_
    rotate_left
    · (intro w hSw; (try dsimp only at hSw); first | (go_simp; done) | (go_simp; with_reducible rfl))
    try simp only [Act.put, List.setIfInBounds_toArray, List.set_cons_zero, List.set_cons_succ]
    refine take_at (i := 28) (d := some 42) (v := ?_) rfl rfl (by kernel_rfl) (by kernel_rfl) (by kernel_rfl) (fun _ _ _ h => h) (Or.inl ⟨by rfl, ?_⟩) hHeld ?_
    rotate_left
    · (intro w hSw; (try dsimp only at hSw); first | (go_simp; done) | (go_simp; with_reducible rfl))
    try simp only [Act.put, List.setIfInBounds_toArray, List.set_cons_zero, List.set_cons_succ]
    refine wpAnyH_ready (rs := [26]) (by kernel_rfl) (by simp) ?_
    refine AllReadyH.cons rfl (fun K hK => ?_) AllReadyH.nil
    go_simp
    go_wp2_with (go_at_call 15; refine (HV.out _ hHeld).mono ?_; rintro e wv ⟨rfl, hbwv⟩)
    refine hK.out _ _ (By.ext hHeld hbwv) (fun hHeld => ?_)
    clear hK K
    try simp only [Act.put, List.setIfInBounds_toArray, List.set_cons_zero, List.set_cons_succ]
    refine wpAnyH_ready (rs := [29]) (by kernel_rfl) (by simp) ?_
    refine AllReadyH.cons rfl (fun K hK => ?_) AllReadyH.nil
    go_simp
    go_wp2_with (go_at_call 16; refine (HRV.out _ hHeld).mono ?_; rintro e wrv ⟨rfl, hbwrv⟩)
    refine hK.out _ _ (By.ext hHeld hbwrv) (fun hHeld => ?_)
    have hswrv := hHeld
    clear hK K
    try simp only [Act.put, List.setIfInBounds_toArray, List.set_cons_zero, List.set_cons_succ]
    refine take_at (i := 30) (d := some 44) (v := ?_) rfl rfl (by kernel_rfl) (by kernel_rfl) (by kernel_rfl) (fun _ _ _ h => h) (Or.inl ⟨by rfl, ?_⟩) hHeld ?_
    rotate_left
    · (intro w hSw; (try dsimp only at hSw); first | (go_simp; done) | (go_simp; with_reducible rfl))
    try simp only [Act.put, List.setIfInBounds_toArray, List.set_cons_zero, List.set_cons_succ]
    refine take_at (i := 31) (d := some 45) (v := ?_) rfl rfl (by kernel_rfl) (by kernel_rfl) (by kernel_rfl) (fun _ _ _ h => h) (Or.inl ⟨by rfl, ?_⟩) hHeld ?_
    rotate_left
    · (intro w hSw; (try dsimp only at hSw); first | (go_simp; done) | (go_simp; with_reducible rfl))
    try simp only [Act.put, List.setIfInBounds_toArray, List.set_cons_zero, List.set_cons_succ]
    refine take_at (i := 32) (d := some 46) (v := ?_) rfl rfl (by kernel_rfl) (by kernel_rfl) (by kernel_rfl) (fun _ _ _ h => h) (Or.inl ⟨by rfl, ?_⟩) hHeld ?_
    rotate_left
    · (intro w hSw; (try dsimp only at hSw); first | (go_simp; done) | (go_simp; with_reducible rfl))
    try simp only [Act.put, List.setIfInBounds_toArray, List.set_cons_zero, List.set_cons_succ]
    refine take_at (i := 33) (d := some 47) (v := ?_) rfl rfl (by kernel_rfl) (by kernel_rfl) (by kernel_rfl) (fun _ _ _ h => h) (Or.inl ⟨by rfl, ?_⟩) hHeld ?_
    rotate_left
    · (intro w hSw; (try dsimp only at hSw); first | (go_simp; done) | (go_simp; with_reducible rfl))
    try simp only [Act.put, List.setIfInBounds_toArray, List.set_cons_zero, List.set_cons_succ]
    refine take_at (i := 35) (d := some 49) (v := ?_) rfl rfl (by kernel_rfl) (by kernel_rfl) (by kernel_rfl) (fun _ _ _ h => h) (Or.inl ⟨by rfl, ?_⟩) hHeld ?_
    rotate_left
    · (intro w hSw; (try dsimp only at hSw); first | (go_simp; done) | (go_simp; with_reducible rfl))
    try simp only [Act.put, List.setIfInBounds_toArray, List.set_cons_zero, List.set_cons_succ]
    refine take_at (i := 38) (d := some 52) (v := ?_) rfl rfl (by kernel_rfl) (by kernel_rfl) (by kernel_rfl) (fun _ _ _ h => h) (Or.inl ⟨by rfl, ?_⟩) hHeld ?_
    rotate_left
    · (intro w hSw; (try dsimp only at hSw); first | (go_simp; done) | (go_simp; with_reducible rfl))
    try simp only [Act.put, List.setIfInBounds_toArray, List.set_cons_zero, List.set_cons_succ]
    refine take_at (i := 39) (d := some 53) (v := ?_) rfl rfl (by kernel_rfl) (by kernel_rfl) (by kernel_rfl) (fun _ _ _ h => h) (Or.inl ⟨by rfl, ?_⟩) hHeld ?_
    rotate_left
    · (intro w hSw; (try dsimp only at hSw); first | (go_simp; done) | (go_simp; with_reducible rfl))
    try simp only [Act.put, List.setIfInBounds_toArray, List.set_cons_zero, List.set_cons_succ]
    refine wpAnyH_ready (rs := [34]) (by kernel_rfl) (by simp) ?_
    refine AllReadyH.cons rfl (fun K hK => ?_) AllReadyH.nil
    go_simp
    refine hK.out _ _ (keep_alloc hHeld _) (fun hHeld => ?_)
    clear hK K
    try simp only [Act.put, List.setIfInBounds_toArray, List.set_cons_zero, List.set_cons_succ]
    refine wpAnyH_ready (rs := [36]) (by kernel_rfl) (by simp) ?_
    refine AllReadyH.cons rfl (fun K hK => ?_) AllReadyH.nil
    refine step_copyI (w := wrv) (by first | exact .inl rfl | exact .inr rfl) (.tmp 48) (.tmp 49) rfl rfl (by simp [Act.eval]) (A := A9) (m := n9) (c := c9) (by simp [Act.eval]) HN9.out (HLI.out wrv hswrv) (by have h1 := HN9.out; have h2 := HM9.out; omega) ?_
    intro Ap cp wp hlp hbp
    have HLP := Lib.hid (hlp.less (fun b hb => hb.1.2 : ∀ b, NewF wrv wp b → Old wp b))
    clear hlp
    refine hK.out _ _ (By.ext hswrv hbp) (fun hHeld => ?_)
    clear hK K
    try simp only [Act.put, List.setIfInBounds_toArray, List.set_cons_zero, List.set_cons_succ]
    refine wpAnyH_ready (rs := [37]) (by kernel_rfl) (by simp) ?_
    refine AllReadyH.cons rfl (fun K hK => ?_) AllReadyH.nil
    go_simp
    go_wp2_with (go_at_call 17; refine (HQ.out _ hHeld _ _ HLP.out).mono ?_; rintro e wq ⟨rfl, hbwq⟩)
    refine hK.out _ _ (By.ext hHeld hbwq) (fun hHeld => ?_)
    clear hK K
    try simp only [Act.put, List.setIfInBounds_toArray, List.set_cons_zero, List.set_cons_succ]
    refine wpAnyH_ready (rs := [40]) (by kernel_rfl) (by simp) ?_
    refine AllReadyH.cons rfl (fun K hK => ?_) AllReadyH.nil
    go_simp
    go_wp2_with (go_at_call 18; refine (HRQ.out _ hHeld).mono ?_; rintro e wrq ⟨rfl, hbwrq⟩)
    refine hK.out _ _ (By.ext hHeld hbwrq) (fun hHeld => ?_)
    clear hK K
    try simp only [Act.put, List.setIfInBounds_toArray, List.set_cons_zero, List.set_cons_succ]
    refine take_at (i := 41) (d := some 55) (v := ?_) rfl rfl (by kernel_rfl) (by kernel_rfl) (by kernel_rfl) (fun _ _ _ h => h) (Or.inl ⟨by rfl, ?_⟩) hHeld ?_
    rotate_left
    · (intro w hSw; (try dsimp only at hSw); first | (go_simp; done) | (go_simp; with_reducible rfl))
    try simp only [Act.put, List.setIfInBounds_toArray, List.set_cons_zero, List.set_cons_succ]
    refine take_at (i := 42) (d := some 56) (v := ?_) rfl rfl (by kernel_rfl) (by kernel_rfl) (by kernel_rfl) (fun _ _ _ h => h) (Or.inl ⟨by rfl, ?_⟩) hHeld ?_
    rotate_left
    · (intro w hSw; (try dsimp only at hSw); first | (go_simp; done) | (go_simp; with_reducible rfl))
    try simp only [Act.put, List.setIfInBounds_toArray, List.set_cons_zero, List.set_cons_succ]
    refine take_at (i := 43) (d := some 6) (v := ?_) rfl rfl (by kernel_rfl) (by kernel_rfl) (by kernel_rfl) (fun _ _ _ h => h) (Or.inl ⟨by rfl, ?_⟩) hHeld ?_
    rotate_left
    · (intro w hSw; (try dsimp only at hSw); first | (go_simp; done) | (go_simp; with_reducible rfl))
    try simp only [Act.put, List.setIfInBounds_toArray, List.set_cons_zero, List.set_cons_succ]
    refine wpAnyH_done (by kernel_rfl) ?_ _
    all_goals
      go_wp2
      go_ret
      exact ⟨rfl, By.ext HBW.out (by first | exact hHeld | exact hswrq)⟩
  | false =>
    obtain rfl : z = 2 := hck
    go_enter Try.func3, Try.ntmps3
    go_wp2_with fail
    rw [← hW]
    clear hW
    refine (HO.out W hs0).mono ?_
    rintro e w1 ⟨A', n', c', A2', m', c2', rfl, h1, hb1⟩
    have H1 := Lib.hid (h1.less (fun b hb => hb.2 : ∀ b, New W w1 b → Old w1 b))
    have hs1 := By.ext hs0 hb1
    clear h1 hb1
    go_wp2_with fail
    refine (HCK.out w1 _ _ _ _ _ _ H1.out).mono ?_
    rintro e w2 ⟨rfl, hb2⟩
    have hs2 := By.ext hs1 hb2
    clear hb2
    go_wp2_with fail
    refine (HOK.out w2 hs2).mono ?_
    rintro e w3 ⟨rfl, hb3⟩
    have hs3 := By.ext hs2 hb3
    clear hb3
    go_upto_region 3 with fail
    go_region_held3 (fun w' => Below W.heap.size W w')
      (first
        | with_reducible assumption
        | with_reducible exact keep_drew (by with_reducible assumption)
        | with_reducible exact keep_alloc (by with_reducible assumption) _
        | with_reducible exact keep_drew (keep_alloc (by with_reducible assumption) _))
      (first
        | (go_at_call 12
           refine (answers_any _).mono ?_
           rintro e wa ⟨rfl, hbwa⟩
           have hswa : Below W.heap.size W wa := By.ext (by with_reducible first | assumption | exact keep_drew (by with_reducible assumption)) hbwa
           clear hbwa)
        | (go_at_call 13
           refine (HM.out _ ?_).mono ?_
           · with_reducible first | assumption | exact keep_drew (by with_reducible assumption)
           rintro e wm ⟨rfl, hbwm⟩
           have hswm : Below W.heap.size W wm := By.ext (by with_reducible first | assumption | exact keep_drew (by with_reducible assumption)) hbwm
           clear hbwm)
        | (go_at_call 14
           refine (HRM.out _ ?_).mono ?_
           · with_reducible first | assumption | exact keep_drew (by with_reducible assumption)
           rintro e wrm ⟨rfl, hbwrm⟩
           have hswrm : Below W.heap.size W wrm := By.ext (by with_reducible first | assumption | exact keep_drew (by with_reducible assumption)) hbwrm
           clear hbwrm)
        | (go_at_call 15
           refine (HV.out _ ?_).mono ?_
           · with_reducible first | assumption | exact keep_drew (by with_reducible assumption)
           rintro e wv ⟨rfl, hbwv⟩
           have hswv : Below W.heap.size W wv := By.ext (by with_reducible first | assumption | exact keep_drew (by with_reducible assumption)) hbwv
           clear hbwv)
        | (go_at_call 16
           refine (HRV.out _ ?_).mono ?_
           · with_reducible first | assumption | exact keep_drew (by with_reducible assumption)
           rintro e wrv ⟨rfl, hbwrv⟩
           have hswrv : Below W.heap.size W wrv := By.ext (by with_reducible first | assumption | exact keep_drew (by with_reducible assumption)) hbwrv
           clear hbwrv)
        | (go_at_call 18
           refine (HRQ.out _ ?_).mono ?_
           · with_reducible first | assumption | exact keep_drew (by with_reducible assumption)
           rintro e wrq ⟨rfl, hbwrq⟩
           have hswrq : Below W.heap.size W wrq := By.ext (by with_reducible first | assumption | exact keep_drew (by with_reducible assumption)) hbwrq
           clear hbwrq)
        | (go_at_call 17
           refine (HQ.out _ ?_ _ _ ?_).mono ?_
           · with_reducible first | assumption | exact keep_drew (by with_reducible assumption)
           · exact HLP.out
           rintro e wq ⟨rfl, hbwq⟩
           have hswq : Below W.heap.size W wq := By.ext (by with_reducible first | assumption | exact keep_drew (by with_reducible assumption)) hbwq
           clear hbwq)
        | (refine step_copyI (w := wrv) (by first | exact .inl rfl | exact .inr rfl) (.tmp 48) (.tmp 49) rfl rfl (by simp [Act.eval]) (A := A9) (m := n9) (c := c9) (by simp [Act.eval]) HN9.out (HLI.out wrv hswrv) (by have h1 := HN9.out; have h2 := HM9.out; omega) ?_
           intro Ap cp wp hlp hbp
           have hswp : Below W.heap.size W wp := By.ext hswrv hbp
           have HLP := Lib.hid (hlp.less (fun b hb => hb.1.2 : ∀ b, NewF wrv wp b → Old wp b))
           clear hlp hbp))
    all_goals
      go_wp2
      go_ret
      exact ⟨rfl, By.ext HBW.out hswrq⟩
end Go.Proofs.Ythocmnfmialcaaa.Cn
