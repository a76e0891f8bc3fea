/- The law ConfReached, walked. -/
import Derived.Test.YthocmnfmialcaaaRE
namespace Go.Proofs.Ythocmnfmialcaaa.Cn
open Go.RowKit Go.ChangeAt By CoP Co Mo Kd Go.Shelf Su
variable {w W w' : World} {A A2 : Option Addr} {n c m c2 : Nat} {vs ls : List Int}
theorem infoU : (Try.prog.info? 40).map (fun i => (i.zero, i.size, i.bytes)) = some (some (.int .u64 0), 1, 8) := by kernel_rfl
def zus (l : List Nat) : List Value := l.map fun (x : Nat) => .int .u64 (x : Int)
theorem zus_get {l : List Nat} {j : Nat} {u : Value} (h : (zus l)[j]? = some u) : ∃ x : Nat, l[j]? = some x ∧ u = .int .u64 (x : Int) := by
  unfold zus at h
  rw [List.getElem?_map, Option.map_eq_some_iff] at h
  obtain ⟨x, h1, h2⟩ := h
  exact ⟨x, h1, h2.symm⟩
/-- append([]uint64{}, l...): what it gives. -/
theorem wpList_copyU {ops : Array Oper} {rest : List Oper} {o : Oper} {a : Act} {w : World} {Q : Exit → Act → World → Prop} (hgd : o.guard = none)
    (s x : Operand) (hop : o.op = .call { callee := .builtin .append, args := #[s, x], argTypes := #[39, 39] })
    (hs : a.eval s = .slice (some ⟨w.heap.size, 0, none⟩) 0 0) {A : Option Addr} {m c : Nat} {l : List Nat} (hx : a.eval x = .slice A m c) (hm : m = l.length) (hr : LiesU w w.heap.size A l) (hsz : l.length ≤ 9437184)
    (hK : ∀ A9 c9 w9, LiesU w9 w9.heap.size A9 l → Below w.heap.size w w9 → wpList Try.prog ops Q rest (a.put o.dst (.slice A9 l.length c9)) w9) : wpList Try.prog ops Q (o :: rest) a (w.alloc (.cells #[] 40)) :=
  wpList_plain hgd fun K hK2 => by
    obtain ⟨i0, hi, hz0, hz1, hz2⟩ := info_parts infoU
    have hb : Below w.heap.size w (w.alloc (.cells #[] 40)) := (Below.refl _ _).alloc (Nat.le_refl _) _
    have hown : (w.alloc (.cells #[] 40)).ownsRow w.heap.size 40 1 (.slice (some ⟨w.heap.size, 0, none⟩) 0 0) 0 [] := World.ownsRow_made (base := w.heap.size) (e := 40) (size := 1) w #[] 0 (Nat.le_refl _) (by decide) rfl
    have hlt := hr.1
    have hr2 := hr.below hb
    subst hm
    rcases A with _ | ad
    · have h0 : l = [] := by
        rcases Nat.eq_zero_or_pos l.length with h0 | h0
        · exact List.length_eq_zero_iff.1 h0
        · obtain ⟨g, o, e, _⟩ := hr2.2 h0
          cases e
      subst h0
      exact wp_app_run s x _ hop hs hx (run_append_none _ w.heap.size _ o.type _ i0 1 Try.underlying39 hi _ _ _ hown c) (hK2 _ _ (hK _ _ _ ⟨fun x hx => (by cases hx), fun h => absurd h (by simp)⟩ hb))
    · have hcells : ∀ j u, (zus l)[j]? = some u → (w.alloc (.cells #[] 40)).cell? (ad.add j) = some u := by
        intro j u hu
        obtain ⟨y9, hy9, rfl⟩ := zus_get hu
        have hj : j < l.length := (List.getElem?_eq_some_iff.1 hy9).1
        obtain ⟨g, o, e, _, hc⟩ := hr2.2 (by omega)
        obtain rfl : ad = ⟨g, o, none⟩ := Option.some.inj e
        rw [plainAdd]
        exact hc j y9 hy9
      have hone : ∀ u ∈ zus l, u.oneCell' = true := by
        intro u hu
        unfold zus at hu
        rw [List.mem_map] at hu
        obtain ⟨x, _, rfl⟩ := hu
        rfl
      obtain ⟨v', w', hrun, h2, h3, _, h5⟩ := run_append_own_at (P := Try.prog) _ w.heap.size 39 o.type 40 i0 (.int .u64 0) 1 8 Try.underlying39 hi hz0 hz1 hz2 rfl (by decide) _ 0 [] hown ad l.length c (zus l) (by unfold zus; rw [List.length_map]; omega) hcells hone
        (by unfold maxLen; omega) (by omega) hb.size
      rw [Nat.zero_add, List.nil_append] at h2
      obtain ⟨A9, c9, rfl, _, _, hn⟩ := owns_form h2
      refine wp_app_run s x _ hop hs hx hrun (hK2 _ _ (hK _ _ _ ⟨hlt, fun hp => ?_⟩ ?_))
      · obtain ⟨g, rfl, _, _, hg, hc⟩ := hn hp
        refine ⟨g, 0, rfl, hg, fun j x hx => ?_⟩
        rw [Nat.zero_add]
        exact hc j _ (by unfold zus; rw [List.getElem?_map, hx]; rfl)
      · exact hb.grown h3 hb.size (fun k hk => by
          have : k = w.heap.size := (Option.some.inj hk).symm
          omega)
/-- Two lists of the call's own share no block. -/
def Apart (v u : Value) : Prop := ∀ b, v.ownBlock = some b → u.ownBlock ≠ some b
theorem Apart.symm {v u : Value} (h : Apart v u) : Apart u v := fun b hb e => h b e hb
theorem apart_nil (u : Value) : Apart (.slice none 0 0) u := fun b hb => by cases hb
theorem OwnZ.other {base : Nat} {w w' : World} {v u : Value} {l : List Int} {X : Obj} (h : OwnZ base w u l) (ha : Apart v u) (hg : (w.alloc X).grownBy w' v.ownBlock) : OwnZ base w' u l :=
  World.ownsRow.kept (World.ownsRow.alloc h X) hg (by
    cases e : u.ownBlock with
    | none => exact .inl rfl
    | some b => exact .inr (fun h => ha b h.symm e))
theorem apart_push {base : Nat} {w : World} {v u v' : Value} {l : List Int} (h : Apart v u) (hu : OwnZ base w u l) (hk : v'.ownBlock = v.ownBlock ∨ v'.ownBlock = some (w.heap.size + 1)) : Apart v' u := fun b hb e => by
  rcases hk with h1 | h1
  · exact h b (h1 ▸ hb) e
  · have h2 := (World.ownsRow.lt hu b e).2
    rw [h1] at hb
    have := Option.some.inj hb
    omega
set_option maxHeartbeats 4000000 in
theorem confReached_walk (h : CfAt w (Old w) A n c A2 m c2 vs ls) (A9 : Option Addr) (q c9 : Nat) (ps : List Nat) (hq : q = ps.length) (hq47 : q ≤ 9437184) (hr : LiesU w w.heap.size A9 ps) :
    Calls Try.prog 6 #[cfV A n c A2 m c2, .slice A9 q c9] w (Says true w) := by
  obtain ⟨W, hW⟩ : ∃ W, W = w.alloc (.cells #[.slice A n c, .slice A2 m c2] 24) := ⟨_, rfl⟩
  have hbW : Below w.heap.size w W := by rw [hW]; exact (Below.refl _ _).alloc (Nat.le_refl _) _
  have hrow : W.heap[w.heap.size]? = some (.cells #[.slice A n c, .slice A2 m c2] 24 (0, 0)) := by rw [hW]; exact heap_alloc_new w _
  have hcf : ∀ w', Below W.heap.size W w' → CfAt w' (Old w') A n c A2 m c2 vs ls := fun w' hb => h.below (By.ext hbW hb)
  have hcl : ∀ w', Below W.heap.size W w' → w'.cell? ⟨w.heap.size, 0, none⟩ = some (.slice A n c) ∧ w'.cell? ⟨w.heap.size, 1, none⟩ = some (.slice A2 m c2) := fun w' hb => box_cells ((hb.block _ (row_lt hrow)).trans hrow)
  have hli : ∀ w', Below W.heap.size W w' → LiesU w' w'.heap.size A9 ps := fun w' hb => by
    have h1 := hr.below (hbW.trans (hb.mono hbW.size))
    exact ⟨h1.1, fun hp => by
      obtain ⟨g, o, e, hg, hc⟩ := h1.2 hp
      exact ⟨g, o, e, by have h1 := hbW.size; have h2 := hb.size; omega, hc⟩⟩
  have HO := Lib.hid (fun (w' : World) (hb : Below W.heap.size W w') => ownC_any (hcf w' hb))
  have HOK := Lib.hid (fun (w' : World) (hb : Below W.heap.size W w') => confOKc_any (hcf w' hb) w' (Below.refl _ _))
  have HRE := Lib.hid (fun (w' : World) (A : Option Addr) (n c : Nat) (A2 : Option Addr) (m c2 : Nat) (h : CfAt w' (Old w') A n c A2 m c2 vs ls) (A3 : Option Addr) (c3 : Nat) (hr : LiesU w' w'.heap.size A3 ps) => reached_any h A3 ps.length c3 ps rfl (by omega) hr)
  have HRR := Lib.hid (fun (w' : World) (hb : Below W.heap.size W w') => rReached_any A9 q c9 ps hq (by omega) w' (hli w' hb))
  have HQU := Lib.hid (fun (w' : World) (hb : Below W.heap.size W w') (A3 : Option Addr) (c3 : Nat) (ids : List Int) (hsz : ids.length ≤ 140737488355328) (hr : LiesI w' w'.heap.size A3 ids) => quorum_any (hcf w' hb) A3 ids.length c3 ids rfl hsz hr)
  have hE : reE vs ls ps = if confB vs ls = true then (if ps.length = vs.length then 0 else 1) else 2 := rfl
  have hN : reN vs ls ps = if confB vs ls = true then (if ps.length = vs.length then reachU ps else 0) else 0 := rfl
  have hyes := reach_yes (vs := vs) (ls := ls) (ps := ps)
  have hno := reach_no (vs := vs) (ls := ls) (ps := ps)
  have HCL := Lib.hid hcl
  have HLI := Lib.hid hli
  have HBW := Lib.hid hbW
  have HCF := Lib.hid hcf
  have HQ := Lib.hid hq
  have HQ47 := Lib.hid hq47
  have HN := Lib.hid h.hn
  have HNV := Lib.hid h.nv
  obtain ⟨k0, k1⟩ := hcl W (Below.refl _ _)
  have ha := fun w' (hb : Below W.heap.size W w') => answers_any w'
  generalize reE vs ls ps = er at hE HRE
  generalize reN vs ls ps = G at hN HRE
  have HE := Lib.hid hE
  have HNN := Lib.hid hN
  have HYES := Lib.hid hyes
  have HNO := Lib.hid hno
  clear h hcf hcl hli hrow hbW hr hq hq47 hE hN hyes hno ha
  go_enter Try.func6, Try.ntmps6
  go_wp2_with fail
  rw [← hW]
  clear hW
  refine (HO.out W (Below.refl _ _)).mono ?_
  rintro e w1 ⟨A', n', c', A2', m', c2', rfl, h1, hb1⟩
  have H1 := Lib.hid (h1.less (fun b hb => hb.2 : ∀ b, New W w1 b → Old w1 b))
  have HB1 := Lib.hid hb1
  clear h1 hb1 k0 k1
  go_wp2_with (at_builtin; refine wpList_copyU rfl (.tmp 13) (.tmp 14) rfl rfl (A := A9) (m := q) (c := c9) rfl HQ.out (HLI.out w1 HB1.out) (by have h1 := HQ.out; have h2 := HQ47.out; omega) ?_; intro Ap cp w2 hlp hbp; have HLP := Lib.hid hlp; have HBP := Lib.hid hbp; clear hlp hbp)
  refine (HRE.out w2 _ _ _ _ _ _ (H1.out.below HBP.out) _ _ HLP.out).mono ?_
  rintro e w3 ⟨rfl, hb3⟩
  have HB3 := Lib.hid (By.ext (By.ext HB1.out HBP.out) hb3)
  clear hb3
  go_wp2_with fail
  refine (answers_any w3).mono ?_
  rintro e w4 ⟨rfl, hb4⟩
  have HB4 := Lib.hid (By.ext HB3.out hb4)
  obtain ⟨k0, k1⟩ := HCL.out w4 HB4.out
  clear hb4
  by_cases hs : confB vs ls = true
  case neg =>
    have hsf : confB vs ls = false := by simpa using hs
    have hok := HOK.out w4 HB4.out
    rw [hsf] at hok
    have hE := HE.out
    have hN := HNN.out
    rw [if_neg hs] at hE hN
    subst hE hN
    have HOK4 := Lib.hid hok
    clear hok hs hsf
    go_wp2_with fail
    refine HOK4.out.mono ?_
    rintro e w5 ⟨rfl, hb5⟩
    have HB5 := Lib.hid (By.ext HB4.out hb5)
    clear hb5
    go_wp2
    go_ret
    exact ⟨rfl, By.ext HBW.out HB5.out⟩
  have hok := HOK.out w4 HB4.out
  rw [hs] at hok
  have HOK4 := Lib.hid hok
  clear hok
  by_cases hl : ps.length = vs.length
  case neg =>
    have hE := HE.out
    have hN := HNN.out
    rw [if_pos hs, if_neg hl] at hE hN
    subst hE hN
    have e1 : ((q : Int) == (n : Int)) = false := by rw [beq_eq_false_iff_ne]; have h1 := HQ.out; have h2 := HN.out; omega
    have e2 : (q == n) = false := by rw [beq_eq_false_iff_ne]; have h1 := HQ.out; have h2 := HN.out; omega
    clear hs hl
    go_wp2_with fail
    refine HOK4.out.mono ?_
    rintro e w5 ⟨rfl, hb5⟩
    have HB5 := Lib.hid (By.ext HB4.out hb5)
    obtain ⟨k0, k1⟩ := HCL.out w5 HB5.out
    clear hb5
    go_wp2
    go_ret
    exact ⟨rfl, By.ext HBW.out HB5.out⟩
  have hE := HE.out
  have hN := HNN.out
  rw [if_pos hs, if_pos hl] at hE hN
  subst hE
  have HGR := Lib.hid hN
  have HYES2 := Lib.hid (HYES.out hs hl)
  have HNO2 := Lib.hid (HNO.out hs hl)
  obtain rfl : q = n := by have h1 := HQ.out; have h2 := HN.out; omega
  clear hs hl hN
  go_wp2_with fail
  refine HOK4.out.mono ?_
  rintro e w5 ⟨rfl, hb5⟩
  have HB5 := Lib.hid (By.ext HB4.out hb5)
  obtain ⟨k0, k1⟩ := HCL.out w5 HB5.out
  clear hb5
  go_wp2
  clear k0 k1
  go_loopw [7, 8, 9] (fun sv gv i wr => ∃ (k : Nat) (F M : List Int), k ≤ q ∧ i = .int .i64 k ∧ Below W.heap.size W wr ∧ OwnZ W.heap.size wr sv F ∧ OwnZ W.heap.size wr gv M ∧ Apart sv gv ∧ F = pickL (fun x => decide (G ≤ x)) (vs.take k) (ps.take k) ∧ M = pickL (fun x => decide (G < x)) (vs.take k) (ps.take k) ∧ F.length ≤ k ∧ M.length ≤ k) (fun _ _ i _ => q - (intOf i).toNat)
  case atStart => exact ⟨0, [], [], Nat.zero_le _, rfl, HB5.out, OwnZ.nil _ _, OwnZ.nil _ _, apart_nil _, rfl, rfl, Nat.le_refl _, Nat.le_refl _⟩
  case round =>
    obtain ⟨k, F, M, hk, rfl, hb, hoF, hoM, hap, hF, hM, hlF, hlM⟩ := hrel
    have HB := Lib.hid hb
    have HOF := Lib.hid hoF
    have HOM := Lib.hid hoM
    have HAP := Lib.hid hap
    have HFF := Lib.hid hF
    have HMM := Lib.hid hM
    have HLF := Lib.hid hlF
    have HLM := Lib.hid hlM
    obtain ⟨AF, cF, rfl⟩ := hoF.form
    obtain ⟨AM, cM, rfl⟩ := hoM.form
    clear hoF hoM hap hF hM hlF hlM
    have hq47 : q ≤ 9437184 := HQ47.out
    by_cases hkq : k < q
    · have hkl : k < ps.length := by have := HQ.out; omega
      have hkv : k < vs.length := by have := HN.out; omega
      obtain ⟨g1, o1, rfl, hg1, hyc, hylt⟩ := (HLI.out wr hb).at_ hkl
      obtain ⟨g2, o2, rfl, hg2, hvc, hv0, hv1⟩ := (HCF.out wr hb).v.lies.at_ hkv
      have HYC := Lib.hid (fun (w' : World) (hb' : Below W.heap.size W w') => show w'.cell? ⟨g1, o1 + k, none⟩ = some (.int .u64 (ps[k] : Nat)) from by
        obtain ⟨g3, o3, e3, _, h3, _⟩ := (HLI.out w' hb').at_ hkl
        injection e3 with e3
        injection e3 with e4 e5
        subst e4 e5
        exact h3)
      have HVC := Lib.hid (fun (w' : World) (hb' : Below W.heap.size W w') => show w'.cell? ⟨g2, o2 + k, none⟩ = some (.int .i64 vs[k]) from by
        obtain ⟨g3, o3, e3, _, h3, _⟩ := (HCF.out w' hb').v.lies.at_ hkv
        injection e3 with e3
        injection e3 with e4 e5
        subst e4 e5
        exact h3)
      have hPF := pick_step (p := fun x => decide (G ≤ x)) (List.getElem?_eq_getElem hkv) (List.getElem?_eq_getElem hkl)
      have hPM := pick_step (p := fun x => decide (G < x)) (List.getElem?_eq_getElem hkv) (List.getElem?_eq_getElem hkl)
      rw [← HFF.out] at hPF
      rw [← HMM.out] at hPM
      generalize ps[k] = y at hyc hylt HYC hPF hPM
      generalize vs[k] = v at hvc hv0 hv1 HVC hPF hPM
      obtain ⟨k0, k1⟩ := HCL.out wr hb
      have HPF := Lib.hid hPF
      have HPM := Lib.hid hPM
      clear hkl hkv hylt hv0 hv1 hPF hPM hb
      by_cases c1 : G < y
      · have d1 : decide (G ≤ y) = true := decide_eq_true (Nat.le_of_lt c1)
        have d2 : decide (G < y) = true := decide_eq_true c1
        have d3 : decide ((G : Int) ≤ (y : Int)) = true := decide_eq_true (by omega)
        have d4 : decide ((G : Int) < (y : Int)) = true := decide_eq_true (by omega)
        rw [d1] at HPF
        rw [d2] at HPM
        clear c1
        go_wp2_with (first
          | (at_builtin; refine wpList_pushI rfl (.tmp 54) (.tmp 60) rfl (news := [.int .i64 v]) rfl HOF.out rfl rfl (fun u hu => by rw [List.mem_singleton] at hu; subst hu; rfl) (by have h1 := HLF.out; have h2 := HQ47.out; omega) HB.out.size ?_; intro v6 w6 ho6 hg6 hk6; obtain ⟨F2, HF2, HLF2, HOF2, HB6⟩ := own_push2 HB.out HB.out.size HOF.out ho6 hg6; have HOM6 := Lib.hid (HOM.out.other HAP.out hg6); have HAP6 := Lib.hid (apart_push HAP.out HOM.out hk6); obtain ⟨A6, c6, rfl⟩ := HOF2.out.form; obtain ⟨k0, k1⟩ := HCL.out w6 HB6.out; have hyc := HYC.out w6 HB6.out; have hvc := HVC.out w6 HB6.out; clear ho6 hg6 hk6)
          | (at_builtin; refine wpList_pushI rfl (.tmp 68) (.tmp 74) rfl (news := [.int .i64 v]) rfl HOM6.out rfl rfl (fun u hu => by rw [List.mem_singleton] at hu; subst hu; rfl) (by have h1 := HLM.out; have h2 := HQ47.out; omega) HB6.out.size ?_; intro v7 w7 ho7 hg7 hk7; obtain ⟨M2, HM2, HLM2, HOM7, HB7⟩ := own_push2 HB6.out HB6.out.size HOM6.out ho7 hg7; have HOF7 := Lib.hid (HOF2.out.other HAP6.out.symm hg7); have HAP7 := Lib.hid (apart_push HAP6.out.symm HOF2.out hk7).symm; obtain ⟨A7, c7, rfl⟩ := HOM7.out.form; clear ho7 hg7 hk7))
        go_roundw
        case rel => exact ⟨k + 1, F2, M2, by omega, by go_num, HB7.out, HOF7.out, HOM7.out, HAP7.out, by rw [HF2.out]; exact HPF.out.symm, by rw [HM2.out]; exact HPM.out.symm, by have h1 := HLF2.out; have h2 := HLF.out; omega, by have h1 := HLM2.out; have h2 := HLM.out; omega⟩
        case measure => simp [intOf]; omega
      · by_cases c2 : G ≤ y
        · have d1 : decide (G ≤ y) = true := decide_eq_true c2
          have d2 : decide (G < y) = false := decide_eq_false c1
          have d3 : decide ((G : Int) ≤ (y : Int)) = true := decide_eq_true (by omega)
          have d4 : decide ((G : Int) < (y : Int)) = false := decide_eq_false (by omega)
          rw [d1] at HPF
          rw [d2] at HPM
          clear c1 c2
          go_wp2_with (at_builtin; refine wpList_pushI rfl (.tmp 54) (.tmp 60) rfl (news := [.int .i64 v]) rfl HOF.out rfl rfl (fun u hu => by rw [List.mem_singleton] at hu; subst hu; rfl) (by have h1 := HLF.out; have h2 := HQ47.out; omega) HB.out.size ?_; intro v6 w6 ho6 hg6 hk6; obtain ⟨F2, HF2, HLF2, HOF2, HB6⟩ := own_push2 HB.out HB.out.size HOF.out ho6 hg6; have HOM6 := Lib.hid (HOM.out.other HAP.out hg6); have HAP6 := Lib.hid (apart_push HAP.out HOM.out hk6); obtain ⟨A6, c6, rfl⟩ := HOF2.out.form; obtain ⟨k0, k1⟩ := HCL.out w6 HB6.out; have hyc := HYC.out w6 HB6.out; have hvc := HVC.out w6 HB6.out; clear ho6 hg6 hk6)
          go_roundw
          case rel => exact ⟨k + 1, F2, M, by omega, by go_num, HB6.out, HOF2.out, HOM6.out, HAP6.out, by rw [HF2.out]; exact HPF.out.symm, by have h1 := HPM.out; rw [h1]; exact (List.append_nil M).symm, by have h1 := HLF2.out; have h2 := HLF.out; omega, by have h2 := HLM.out; omega⟩
          case measure => simp [intOf]; omega
        · have d1 : decide (G ≤ y) = false := decide_eq_false c2
          have d2 : decide (G < y) = false := decide_eq_false c1
          have d3 : decide ((G : Int) ≤ (y : Int)) = false := decide_eq_false (by omega)
          have d4 : decide ((G : Int) < (y : Int)) = false := decide_eq_false (by omega)
          rw [d1] at HPF
          rw [d2] at HPM
          clear c1 c2
          go_wp2
          go_roundw
          case rel => exact ⟨k + 1, F, M, by omega, by go_num, HB.out, HOF.out, HOM.out, HAP.out, by have h1 := HPF.out; rw [h1]; exact (List.append_nil F).symm, by have h1 := HPM.out; rw [h1]; exact (List.append_nil M).symm, by have h2 := HLF.out; omega, by have h2 := HLM.out; omega⟩
          case measure => simp [intOf]; omega
    · obtain rfl : k = q := by omega
      have hk1 : vs.take k = vs := List.take_of_length_le (by have := HN.out; omega)
      have hk2 : ps.take k = ps := List.take_of_length_le (by have := HQ.out; omega)
      have hF := HFF.out
      have hM := HMM.out
      rw [hk1, hk2] at hF hM
      have hi : ∀ x ∈ vs, I64 x := LiesI.i64 (HCF.out wr hb).v.lies
      have hpi : ∀ (p : Nat → Bool), ∀ x ∈ pickL p vs ps, I64 x := fun p x hx => by
        obtain ⟨y, h1, _⟩ := pick_mem.1 hx
        exact hi x (List.of_mem_zip h1).1
      have hLF : LiesI wr wr.heap.size AF F := by
        obtain ⟨A8, c8, e8, _, h8⟩ := OwnZ.ls (w := W) HOF.out (Nat.le_refl _) (by rw [hF]; exact hpi _)
        injection e8 with e8 e9 e10
        subst e8
        exact h8.less (fun b hb => hb.1.2)
      have hLM : LiesI wr wr.heap.size AM M := by
        obtain ⟨A8, c8, e8, _, h8⟩ := OwnZ.ls (w := W) HOM.out (Nat.le_refl _) (by rw [hM]; exact hpi _)
        injection e8 with e8 e9 e10
        subst e8
        exact h8.less (fun b hb => hb.1.2)
      have hy1 := HYES2.out
      have hn1 := HNO2.out
      rw [← HGR.out] at hy1 hn1
      rw [← hF] at hy1
      rw [← hM] at hn1
      have hq1 := fun w' (hb : Below wr.heap.size wr w') => HQU.out w' (By.ext HB.out hb) AF cF F (by have h1 := HLF.out; have h2 := HQ47.out; omega) ((hLF.below hb).more hb.size)
      have hq2 := fun w' (hb : Below wr.heap.size wr w') => HQU.out w' (By.ext HB.out hb) AM cM M (by have h1 := HLM.out; have h2 := HQ47.out; omega) ((hLM.below hb).more hb.size)
      rw [hy1] at hq1
      rw [hn1] at hq2
      have hrr := HRR.out wr HB.out
      rw [← HGR.out] at hrr
      have HQ1 := Lib.hid hq1
      have HQ2 := Lib.hid hq2
      have HRR2 := Lib.hid hrr
      have e1 : ((G : Int) == (G : Int)) = true := beq_self_eq_true _
      have e2 : (G == G) = true := beq_self_eq_true _
      clear hk1 hk2 hF hM hi hpi hLF hLM hy1 hn1 hq1 hq2 hrr hb
      go_wp2_with fail
      refine HRR2.out.mono ?_
      rintro e w6 ⟨rfl, hb6⟩
      have HB6 := Lib.hid hb6
      obtain ⟨k0, k1⟩ := HCL.out w6 (By.ext HB.out hb6)
      clear hb6
      go_wp2_with fail
      refine (HQ1.out w6 HB6.out).mono ?_
      rintro e w7 ⟨rfl, hb7⟩
      have HB7 := Lib.hid (By.ext HB6.out hb7)
      obtain ⟨k0, k1⟩ := HCL.out w7 (By.ext HB.out HB7.out)
      clear hb7
      go_wp2_with fail
      refine (HQ2.out w7 HB7.out).mono ?_
      rintro e w8 ⟨rfl, hb8⟩
      have HB8 := Lib.hid (By.ext HB7.out hb8)
      clear hb8
      go_wp2
      go_ret
      exact ⟨rfl, By.ext HBW.out (By.ext HB.out HB8.out)⟩
end Go.Proofs.Ythocmnfmialcaaa.Cn
