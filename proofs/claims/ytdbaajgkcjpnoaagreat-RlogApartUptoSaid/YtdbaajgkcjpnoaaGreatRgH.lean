/- Package rlog's replace, as a contract of a call. -/
import Derived.Test.YtdbaajgkcjpnoaaGreatQc
import Derived.Test.YtdbaajgkcjpnoaaGreatQd
namespace Go.Proofs.YtdbaajgkcjpnoaaGreat.Rg
open Go.RowKit By CoP Co Mo Kd

theorem take_at {P : Program} {ops : Array Oper} {Q : Exit → Act → World → Prop} {md : Region.Mode} {S : World → Prop} {i : Nat} {oi : Oper} {d : Option Tmp} {v : Value} {fuel : Nat} {listed : Array Bool} {a : Act} {w : World} (hi : ops[i]? = some oi) (hd : oi.dst = d)
    (hs : Region.noSelect ops = true) (hf : Region.free md ops listed i = true) (hr : (Region.ready md ops listed).contains i = true)
    (hQ : ∀ c a w, Q (.panic c) (a.put d v) w → Q (.panic c) a w) (hy : YieldsIf P ops S oi v a) (hS : S w)
    (h : wpAnyH P md ops Q S fuel (listed.setIfInBounds i true) (a.put d v) w) : wpAnyH P md ops Q S (fuel + 1) listed a w := by
  subst hd
  exact wpAnyH_take hi hs hf hr hQ hy hS h
/-- The log behind a call that changes it. -/
def LStep (g : Nat) (s' : Lg) (S : Nat → Prop) (w w' : World) : Prop := ∃ v' S', LogIs w' g s' v' S' ∧ (∀ b, S' b → S b ∨ w.heap.size ≤ b) ∧ Kept S w w'
theorem wrap_i {x : Int} (h0 : -9223372036854775808 ≤ x) (h1 : x ≤ 9223372036854775807) : IntKind.i64.wrap x = x := by simp [IntKind.wrap, IntKind.bits, IntKind.signed]; omega
/-- The log amid a replacement. -/
def RepMid (g : Nat) (s : Lg) (S : Nat → Prop) (es : List En) (w wr : World) : Prop :=
  ∃ v1, wr.heap[g]? = some (.cells #[.int .u64 (s.ix : Int), .int .u64 (s.tm : Int), v1] tLog (0, 0)) ∧ wr.ownsRow 0 tEnt 4 v1 es.length (eRow es) ∧ (∀ b, v1.ownBlock = some b → (S b ∨ w.heap.size ≤ b) ∧ b ≠ g) ∧ Kept S w wr
theorem RepMid.done {g : Nat} {s : Lg} {S : Nat → Prop} {es : List En} {w wr : World} (h : RepMid g s S es w wr) (hg : S g) (hS : ∀ b, S b → b < w.heap.size) (hok : Ok ⟨s.ix, s.tm, es⟩) : LStep g ⟨s.ix, s.tm, es⟩ S w wr := by
  obtain ⟨v1, h1, h2, h3, h4⟩ := h
  refine ⟨v1, fun b => (S b ∨ w.heap.size ≤ b) ∧ b < wr.heap.size, ⟨h1, h2, ⟨.inl hg, Nat.lt_of_lt_of_le (hS g hg) h4.size⟩, fun b hb => ⟨⟨(h3 b hb).1, (ownsRow_lt h2 hb).2⟩, (h3 b hb).2⟩, fun b hb => hb.2, hok⟩, fun b hb => hb.1, h4⟩
theorem RepMid.push {g : Nat} {s : Lg} {S : Nat → Prop} {es : List En} {w wr wa w5 : World} {v1 v5 : Value} {x : En} (hgS : S g) (hS : ∀ b, S b → b < w.heap.size) (hv : ∀ b, v1.ownBlock = some b → (S b ∨ w.heap.size ≤ b) ∧ b ≠ g) (hk : Kept S w wr) (hb : Below wr.heap.size wr wa)
    (hrow : w5.heap[g]? = some (.cells #[.int .u64 (s.ix : Int), .int .u64 (s.tm : Int), v1] tLog (0, 0))) (ho : w5.ownsRow 0 tEnt 4 v5 (es.length + 1) (eRow es ++ eC x)) (hg : wa.grownBy w5 v1.ownBlock) (hv5 : ∀ b, v5.ownBlock = some b → v1.ownBlock = some b ∨ wa.heap.size ≤ b) :
    RepMid g s S (es ++ [x]) w (w5.setCell ⟨g, 2, none⟩ v5) := by
  have hz1 := hk.size
  have hz2 := hb.size
  have hz3 := hg.size
  have hglt := hS g hgS
  have hne : ∀ b, v5.ownBlock = some b → (S b ∨ w.heap.size ≤ b) ∧ b ≠ g := fun b hb => by
    rcases hv5 b hb with h1 | h1
    · exact hv b h1
    · exact ⟨.inr (by omega), by omega⟩
  refine ⟨v5, heap_setCell_same w5 g 2 _ _ _ hrow, ?_, hne, ?_⟩
  · have e1 : eRow [x] = eC x := by simp [eRow]
    rw [List.length_append, List.length_singleton, eRow_app, e1]
    exact ownsRow_keep ho (fun b hb => Below.heap_setCell w5 ⟨g, 2, none⟩ v5 b (hne b hb).2)
  · have h5 : Kept S w w5 := (hk.step (Kept.of_below (M := S) hb) (fun b _ e => e)).step (M1 := fun b => v1.ownBlock = some b) ⟨hg.os, hg.tape, hg.output, hg.size, fun b hb hn => hg.block b hb (fun e => hn e.symm)⟩ (fun b hb e => by
      rcases (hv b e).1 with h | h
      · exact h
      · omega)
    exact h5.setCell (fun _ => hgS) v5
theorem strV (l : List UInt8) : (str l).data.toList = l := by simp [str]
set_option maxRecDepth 100000 in
set_option maxHeartbeats 1600000 in
theorem replace_any {g : Nat} {s : Lg} {v : Value} {S R : Nat → Prop} (w : World) (h : LogIs w g s v S) (k : Nat) (hk : k ≤ s.es.length) {A : Option Addr} {n c : Nat} {l : List En} {most : Int}
    (hl : (listK entryK most).rep w R [.slice A n c] (.agg (l.map eD))) (hR : ∀ b, R b → b < w.heap.size ∧ ¬ S b) (hok : Ok ⟨s.ix, s.tm, s.es.take k ++ l⟩) (hn : s.es.length + l.length ≤ 1073741823) (F : Int) (hF : F = s.ix + 1 + k) :
    Calls Tryz.prog 39 #[ptr g, .int .u64 F, .slice A n c] w (fun e w' => (∃ x, e = .returned x) ∧ LStep g ⟨s.ix, s.tm, s.es.take k ++ l⟩ S w w') := by
  obtain ⟨c0, c1, c2⟩ := h.cells
  obtain ⟨Av, cv, rfl⟩ := ownsRow_form h.own
  have hend := h.ok.end_
  have hglt := h.lt g h.ing
  have HD := Lib.hid (fun (w' : World) (hb : Below w.heap.size w w') => delete_any (.slice Av s.es.length cv) s.es k s.es.length (k : Int) (s.es.length : Nat) rfl rfl w' hk (Nat.le_refl _) (h.below hb).own)
  have HH := Lib.hid h
  have W1 : IntKind.u64.wrap (F - (s.ix : Int)) = F - (s.ix : Int) := wrap_u (by omega) (by omega)
  have W2 : IntKind.u64.wrap (F - (s.ix : Int) - 1) = (k : Int) := by rw [show F - (s.ix : Int) - 1 = (k : Int) by omega]; exact wrap_u (by omega) (by omega)
  have W3 : IntKind.i64.wrap (k : Int) = (k : Int) := wrap_i (by omega) (by omega)
  have hk64 : (k : Int) ≤ 4611686018427387904 := by omega
  clear hF hend
  go_enter Tryz.func39, Tryz.ntmps39
  go_upto_region 0 with fail
  go_cut [0] from 8 to 29 (fun p wx => p = ptr g ∧ RepMid g s S (s.es.take k) w wx)
  case first =>
    have c2' : w.drew.cell? ⟨g, 2, none⟩ = some (.slice Av s.es.length cv) := c2
    have HS0 := Lib.hid (show ∀ W : World, W.heap[g]? = w.heap[g]? → W.cell? ⟨g, 0, none⟩ = some (.int .u64 (s.ix : Int)) from fun W hW => by rw [cell_of_row W g 0 _ _ _ (hW.trans h.row)]; rfl)
    refine wp_region_held_drew (S := fun w' => w'.cell? ⟨g, 0, none⟩ = some (.int .u64 (s.ix : Int))) (by kernel_rfl) (HS0.out _ rfl) (fun hHeld => ?_)
    refine take_at (i := 0) (d := some 8) (v := ?_) rfl rfl (by kernel_rfl) (by kernel_rfl) (by kernel_rfl) (fun _ _ _ h => h) (Or.inl ⟨by rfl, ?_⟩) hHeld ?_
    rotate_left
    · (intro w hSw; (try dsimp only at hSw); first | (go_simp; done) | (go_simp; with_reducible rfl))
    ((try simp only [Act.put]); (try simp only [List.setIfInBounds_toArray]); (try simp only [List.set_cons_succ]); (try simp only [List.set_cons_zero]))
    refine take_at (i := 1) (d := some 9) (v := ?_) rfl rfl (by kernel_rfl) (by kernel_rfl) (by kernel_rfl) (fun _ _ _ h => h) (Or.inl ⟨by rfl, ?_⟩) hHeld ?_
    rotate_left
    · (intro w hSw; (try dsimp only at hSw); first | (go_simp; done) | (go_simp; with_reducible rfl))
    ((try simp only [Act.put]); (try simp only [List.setIfInBounds_toArray]); (try simp only [List.set_cons_succ]); (try simp only [List.set_cons_zero]))
    refine take_at (i := 2) (d := some 10) (v := ?_) rfl rfl (by kernel_rfl) (by kernel_rfl) (by kernel_rfl) (fun _ _ _ h => h) (Or.inl ⟨by rfl, ?_⟩) hHeld ?_
    rotate_left
    · (intro w hSw; (try dsimp only at hSw); first | (go_simp; done) | (go_simp; with_reducible rfl))
    ((try simp only [Act.put]); (try simp only [List.setIfInBounds_toArray]); (try simp only [List.set_cons_succ]); (try simp only [List.set_cons_zero]))
    refine take_at (i := 3) (d := some 11) (v := ?_) rfl rfl (by kernel_rfl) (by kernel_rfl) (by kernel_rfl) (fun _ _ _ h => h) (Or.inl ⟨by rfl, ?_⟩) hHeld ?_
    rotate_left
    · (intro w hSw; (try dsimp only at hSw); first | (go_simp; done) | (go_simp; with_reducible rfl))
    ((try simp only [Act.put]); (try simp only [List.setIfInBounds_toArray]); (try simp only [List.set_cons_succ]); (try simp only [List.set_cons_zero]))
    refine take_at (i := 5) (d := some 13) (v := ?_) rfl rfl (by kernel_rfl) (by kernel_rfl) (by kernel_rfl) (fun _ _ _ h => h) (Or.inl ⟨by rfl, ?_⟩) hHeld ?_
    rotate_left
    · (intro w hSw; (try dsimp only at hSw); first | (go_simp; done) | (go_simp; with_reducible rfl))
    ((try simp only [Act.put]); (try simp only [List.setIfInBounds_toArray]); (try simp only [List.set_cons_succ]); (try simp only [List.set_cons_zero]))
    refine take_at (i := 6) (d := some 14) (v := ?_) rfl rfl (by kernel_rfl) (by kernel_rfl) (by kernel_rfl) (fun _ _ _ h => h) (Or.inl ⟨by rfl, ?_⟩) hHeld ?_
    rotate_left
    · (intro w hSw; (try dsimp only at hSw); first | (go_simp; done) | (go_simp; with_reducible rfl))
    ((try simp only [Act.put]); (try simp only [List.setIfInBounds_toArray]); (try simp only [List.set_cons_succ]); (try simp only [List.set_cons_zero]))
    refine take_at (i := 7) (d := some 15) (v := ?_) rfl rfl (by kernel_rfl) (by kernel_rfl) (by kernel_rfl) (fun _ _ _ h => h) (Or.inl ⟨by rfl, ?_⟩) hHeld ?_
    rotate_left
    · (intro w hSw; (try dsimp only at hSw); first | (go_simp; done) | (go_simp; with_reducible rfl))
    ((try simp only [Act.put]); (try simp only [List.setIfInBounds_toArray]); (try simp only [List.set_cons_succ]); (try simp only [List.set_cons_zero]))
    refine take_at (i := 8) (d := some 16) (v := ?_) rfl rfl (by kernel_rfl) (by kernel_rfl) (by kernel_rfl) (fun _ _ _ h => h) (Or.inl ⟨by rfl, ?_⟩) hHeld ?_
    rotate_left
    · (intro w hSw; (try dsimp only at hSw); first | (go_simp; done) | (go_simp; with_reducible rfl))
    ((try simp only [Act.put]); (try simp only [List.setIfInBounds_toArray]); (try simp only [List.set_cons_succ]); (try simp only [List.set_cons_zero]))
    refine take_at (i := 9) (d := some 17) (v := ?_) rfl rfl (by kernel_rfl) (by kernel_rfl) (by kernel_rfl) (fun _ _ _ h => h) (Or.inl ⟨by rfl, ?_⟩) hHeld ?_
    rotate_left
    · (intro w hSw; (try dsimp only at hSw); first | (go_simp; done) | (go_simp; with_reducible rfl))
    ((try simp only [Act.put]); (try simp only [List.setIfInBounds_toArray]); (try simp only [List.set_cons_succ]); (try simp only [List.set_cons_zero]))
    refine take_at (i := 10) (d := some 18) (v := ?_) rfl rfl (by kernel_rfl) (by kernel_rfl) (by kernel_rfl) (fun _ _ _ h => h) (Or.inl ⟨by rfl, ?_⟩) hHeld ?_
    rotate_left
    · (intro w hSw; (try dsimp only at hSw); first | (go_simp; done) | (go_simp; with_reducible rfl))
    ((try simp only [Act.put]); (try simp only [List.setIfInBounds_toArray]); (try simp only [List.set_cons_succ]); (try simp only [List.set_cons_zero]))
    refine take_at (i := 11) (d := some 19) (v := ?_) rfl rfl (by kernel_rfl) (by kernel_rfl) (by kernel_rfl) (fun _ _ _ h => h) (Or.inl ⟨by rfl, ?_⟩) hHeld ?_
    rotate_left
    · (intro w hSw; (try dsimp only at hSw); first | (go_simp; done) | (go_simp; with_reducible rfl))
    ((try simp only [Act.put]); (try simp only [List.setIfInBounds_toArray]); (try simp only [List.set_cons_succ]); (try simp only [List.set_cons_zero]))
    refine take_at (i := 12) (d := some 20) (v := ?_) rfl rfl (by kernel_rfl) (by kernel_rfl) (by kernel_rfl) (fun _ _ _ h => h) (Or.inl ⟨by rfl, ?_⟩) hHeld ?_
    rotate_left
    · (intro w hSw; (try dsimp only at hSw); first | (go_simp; done) | (go_simp; with_reducible rfl))
    ((try simp only [Act.put]); (try simp only [List.setIfInBounds_toArray]); (try simp only [List.set_cons_succ]); (try simp only [List.set_cons_zero]))
    refine take_at (i := 13) (d := some 21) (v := ?_) rfl rfl (by kernel_rfl) (by kernel_rfl) (by kernel_rfl) (fun _ _ _ h => h) (Or.inl ⟨by rfl, ?_⟩) hHeld ?_
    rotate_left
    · (intro w hSw; (try dsimp only at hSw); first | (go_simp; done) | (go_simp; with_reducible rfl))
    ((try simp only [Act.put]); (try simp only [List.setIfInBounds_toArray]); (try simp only [List.set_cons_succ]); (try simp only [List.set_cons_zero]))
    refine take_at (i := 14) (d := some 22) (v := ?_) rfl rfl (by kernel_rfl) (by kernel_rfl) (by kernel_rfl) (fun _ _ _ h => h) (Or.inl ⟨by rfl, ?_⟩) hHeld ?_
    rotate_left
    · (intro w hSw; (try dsimp only at hSw); first | (go_simp; done) | (go_simp; with_reducible rfl))
    ((try simp only [Act.put]); (try simp only [List.setIfInBounds_toArray]); (try simp only [List.set_cons_succ]); (try simp only [List.set_cons_zero]))
    refine take_at (i := 15) (d := some 23) (v := ?_) rfl rfl (by kernel_rfl) (by kernel_rfl) (by kernel_rfl) (fun _ _ _ h => h) (Or.inl ⟨by rfl, ?_⟩) hHeld ?_
    rotate_left
    · (intro w hSw; (try dsimp only at hSw); first | (go_simp; done) | (go_simp; with_reducible rfl))
    ((try simp only [Act.put]); (try simp only [List.setIfInBounds_toArray]); (try simp only [List.set_cons_succ]); (try simp only [List.set_cons_zero]))
    refine take_at (i := 16) (d := some 24) (v := ?_) rfl rfl (by kernel_rfl) (by kernel_rfl) (by kernel_rfl) (fun _ _ _ h => h) (Or.inl ⟨by rfl, ?_⟩) hHeld ?_
    rotate_left
    · (intro w hSw; (try dsimp only at hSw); first | (go_simp; done) | (go_simp; with_reducible rfl))
    ((try simp only [Act.put]); (try simp only [List.setIfInBounds_toArray]); (try simp only [List.set_cons_succ]); (try simp only [List.set_cons_zero]))
    refine wpAnyH_ready (rs := [4, 17]) (by kernel_rfl) (by simp) ?_
    refine AllReadyH.cons rfl (fun K hK => ?_) (AllReadyH.cons rfl (fun K hK => ?_) AllReadyH.nil)
    · go_simp
      refine hK.out _ _ (hHeld) (fun hHeld => ?_)
      clear hK K
      ((try simp only [Act.put]); (try simp only [List.setIfInBounds_toArray]); (try simp only [List.set_cons_succ]); (try simp only [List.set_cons_zero]))
      refine wpAnyH_ready (rs := [17]) (by kernel_rfl) (by simp) ?_
      refine AllReadyH.cons rfl (fun K hK => ?_) AllReadyH.nil
      go_simp
      refine hK.out _ _ (hHeld) (fun hHeld => ?_)
      clear hK K
      ((try simp only [Act.put]); (try simp only [List.setIfInBounds_toArray]); (try simp only [List.set_cons_succ]); (try simp only [List.set_cons_zero]))
      refine take_at (i := 18) (d := some 26) (v := ?_) rfl rfl (by kernel_rfl) (by kernel_rfl) (by kernel_rfl) (fun _ _ _ h => h) (Or.inl ⟨by rfl, ?_⟩) hHeld ?_
      rotate_left
      · (intro w hSw; (try dsimp only at hSw); first | (go_simp; done) | (go_simp; with_reducible rfl))
      ((try simp only [Act.put]); (try simp only [List.setIfInBounds_toArray]); (try simp only [List.set_cons_succ]); (try simp only [List.set_cons_zero]))
      refine wpAnyH_ready (rs := [19]) (by kernel_rfl) (by simp) ?_
      refine AllReadyH.cons rfl (fun K hK => ?_) AllReadyH.nil
      go_simp
      refine (HD.out _ (Below.refl _ _).drew).mono ?_
      rintro e w2 ⟨v2, rfl, hv2, ho2, hk2⟩
      rw [List.drop_length, List.append_nil, List.length_take, Nat.min_eq_left hk] at ho2
      obtain ⟨A2, k2, rfl⟩ := ownsRow_form ho2
      have hg2 := hk2.block g hglt (fun e => (HH.out.inv g e).2 rfl)
      have hrow2 := hg2.trans HH.out.row
      have z2 : w2.cell? ⟨g, 2, none⟩ = some (.slice Av s.es.length cv) := by rw [cell_of_row w2 g 2 _ _ _ hrow2]; rfl
      have f2 := frozen_of_row w2 g 2 _ _ hrow2
      dsimp only
      refine hK.out _ _ (HS0.out _ hg2) (fun hHeld => ?_)
      clear hK K
      ((try simp only [Act.put]); (try simp only [List.setIfInBounds_toArray]); (try simp only [List.set_cons_succ]); (try simp only [List.set_cons_zero]))
      refine take_at (i := 20) (d := some 28) (v := ?_) rfl rfl (by kernel_rfl) (by kernel_rfl) (by kernel_rfl) (fun _ _ _ h => h) (Or.inl ⟨by rfl, ?_⟩) hHeld ?_
      rotate_left
      · (intro w hSw; (try dsimp only at hSw); first | (go_simp; done) | (go_simp; with_reducible rfl))
      ((try simp only [Act.put]); (try simp only [List.setIfInBounds_toArray]); (try simp only [List.set_cons_succ]); (try simp only [List.set_cons_zero]))
      refine take_at (i := 21) (d := some 29) (v := ?_) rfl rfl (by kernel_rfl) (by kernel_rfl) (by kernel_rfl) (fun _ _ _ h => h) (Or.inl ⟨by rfl, ?_⟩) hHeld ?_
      rotate_left
      · (intro w hSw; (try dsimp only at hSw); first | (go_simp; done) | (go_simp; with_reducible rfl))
      ((try simp only [Act.put]); (try simp only [List.setIfInBounds_toArray]); (try simp only [List.set_cons_succ]); (try simp only [List.set_cons_zero]))
      refine wpAnyH_ready (rs := [22]) (by kernel_rfl) (by simp) ?_
      refine AllReadyH.cons rfl (fun K hK => ?_) AllReadyH.nil
      go_simp
      refine hK.out _ _ ((by rw [World.cell?_setCell_other _ _ _ _ (by simp)]; exact HS0.out _ hg2)) (fun hHeld => ?_)
      clear hK K
      ((try simp only [Act.put]); (try simp only [List.setIfInBounds_toArray]); (try simp only [List.set_cons_succ]); (try simp only [List.set_cons_zero]))
      refine wpAnyH_done (by kernel_rfl) ?_ _
      go_wp2
      go_meet
      refine ⟨rfl, _, heap_setCell_same w2 g 2 _ _ _ hrow2, (by rw [List.length_take, Nat.min_eq_left hk]; exact ownsRow_keep ho2 (fun b hb => Below.heap_setCell w2 ⟨g, 2, none⟩ _ b (fun e => (HH.out.inv b (hv2 ▸ hb)).2 e))), fun b hb => ⟨.inl (HH.out.inv b (hv2 ▸ hb)).1, (HH.out.inv b (hv2 ▸ hb)).2⟩, ?_⟩
      exact ((Kept.of_below (M := S) ((Below.refl w.heap.size w).drew)).step hk2 (fun b _ e => (HH.out.inv b e).1)).setCell (fun _ => HH.out.ing) _
    · go_simp
      refine hK.out _ _ (hHeld) (fun hHeld => ?_)
      clear hK K
      ((try simp only [Act.put]); (try simp only [List.setIfInBounds_toArray]); (try simp only [List.set_cons_succ]); (try simp only [List.set_cons_zero]))
      refine take_at (i := 18) (d := some 26) (v := ?_) rfl rfl (by kernel_rfl) (by kernel_rfl) (by kernel_rfl) (fun _ _ _ h => h) (Or.inl ⟨by rfl, ?_⟩) hHeld ?_
      rotate_left
      · (intro w hSw; (try dsimp only at hSw); first | (go_simp; done) | (go_simp; with_reducible rfl))
      ((try simp only [Act.put]); (try simp only [List.setIfInBounds_toArray]); (try simp only [List.set_cons_succ]); (try simp only [List.set_cons_zero]))
      refine wpAnyH_ready (rs := [4]) (by kernel_rfl) (by simp) ?_
      refine AllReadyH.cons rfl (fun K hK => ?_) AllReadyH.nil
      go_simp
      refine hK.out _ _ (hHeld) (fun hHeld => ?_)
      clear hK K
      ((try simp only [Act.put]); (try simp only [List.setIfInBounds_toArray]); (try simp only [List.set_cons_succ]); (try simp only [List.set_cons_zero]))
      refine wpAnyH_ready (rs := [19]) (by kernel_rfl) (by simp) ?_
      refine AllReadyH.cons rfl (fun K hK => ?_) AllReadyH.nil
      go_simp
      refine (HD.out _ (Below.refl _ _).drew).mono ?_
      rintro e w2 ⟨v2, rfl, hv2, ho2, hk2⟩
      rw [List.drop_length, List.append_nil, List.length_take, Nat.min_eq_left hk] at ho2
      obtain ⟨A2, k2, rfl⟩ := ownsRow_form ho2
      have hg2 := hk2.block g hglt (fun e => (HH.out.inv g e).2 rfl)
      have hrow2 := hg2.trans HH.out.row
      have z2 : w2.cell? ⟨g, 2, none⟩ = some (.slice Av s.es.length cv) := by rw [cell_of_row w2 g 2 _ _ _ hrow2]; rfl
      have f2 := frozen_of_row w2 g 2 _ _ hrow2
      dsimp only
      refine hK.out _ _ (HS0.out _ hg2) (fun hHeld => ?_)
      clear hK K
      ((try simp only [Act.put]); (try simp only [List.setIfInBounds_toArray]); (try simp only [List.set_cons_succ]); (try simp only [List.set_cons_zero]))
      refine take_at (i := 20) (d := some 28) (v := ?_) rfl rfl (by kernel_rfl) (by kernel_rfl) (by kernel_rfl) (fun _ _ _ h => h) (Or.inl ⟨by rfl, ?_⟩) hHeld ?_
      rotate_left
      · (intro w hSw; (try dsimp only at hSw); first | (go_simp; done) | (go_simp; with_reducible rfl))
      ((try simp only [Act.put]); (try simp only [List.setIfInBounds_toArray]); (try simp only [List.set_cons_succ]); (try simp only [List.set_cons_zero]))
      refine take_at (i := 21) (d := some 29) (v := ?_) rfl rfl (by kernel_rfl) (by kernel_rfl) (by kernel_rfl) (fun _ _ _ h => h) (Or.inl ⟨by rfl, ?_⟩) hHeld ?_
      rotate_left
      · (intro w hSw; (try dsimp only at hSw); first | (go_simp; done) | (go_simp; with_reducible rfl))
      ((try simp only [Act.put]); (try simp only [List.setIfInBounds_toArray]); (try simp only [List.set_cons_succ]); (try simp only [List.set_cons_zero]))
      refine wpAnyH_ready (rs := [22]) (by kernel_rfl) (by simp) ?_
      refine AllReadyH.cons rfl (fun K hK => ?_) AllReadyH.nil
      go_simp
      refine hK.out _ _ ((by rw [World.cell?_setCell_other _ _ _ _ (by simp)]; exact HS0.out _ hg2)) (fun hHeld => ?_)
      clear hK K
      ((try simp only [Act.put]); (try simp only [List.setIfInBounds_toArray]); (try simp only [List.set_cons_succ]); (try simp only [List.set_cons_zero]))
      refine wpAnyH_done (by kernel_rfl) ?_ _
      go_wp2
      go_meet
      refine ⟨rfl, _, heap_setCell_same w2 g 2 _ _ _ hrow2, (by rw [List.length_take, Nat.min_eq_left hk]; exact ownsRow_keep ho2 (fun b hb => Below.heap_setCell w2 ⟨g, 2, none⟩ _ b (fun e => (HH.out.inv b (hv2 ▸ hb)).2 e))), fun b hb => ⟨.inl (HH.out.inv b (hv2 ▸ hb)).1, (HH.out.inv b (hv2 ▸ hb)).2⟩, ?_⟩
      exact ((Kept.of_below (M := S) ((Below.refl w.heap.size w).drew)).step hk2 (fun b _ e => (HH.out.inv b e).1)).setCell (fun _ => HH.out.ing) _
  case rest =>
    obtain ⟨rfl, hmid⟩ := hcut
    obtain ⟨hnl, -, hn47, hr⟩ := ents_at hl
    have HMID := Lib.hid hmid
    have HR := Lib.hid hr
    have HRS := Lib.hid hR
    have HNL := Lib.hid hnl
    have HN := Lib.hid hn
    have HOK := Lib.hid hok
    have HK := Lib.hid hk
    clear hmid hr hl hR hnl hn hok hk h c0 c1 c2 HD W1 W2 W3
    go_wp2
    go_loopw [32] (fun i wr => ∃ j : Nat, j ≤ n ∧ i = .int .i64 (j : Int) ∧ RepMid g s S (s.es.take k ++ l.take j) w wr) (fun i _ => n - (intOf i).toNat)
    case atStart => exact ⟨0, Nat.zero_le _, rfl, by rw [List.take_zero, List.append_nil]; exact HMID.out⟩
    case round =>
      obtain ⟨j, hj, rfl, v1, hrow, hown, hvb, hkk⟩ := hrel
      by_cases hjn : j < n
      · obtain ⟨x, hx⟩ : ∃ x, l[j]? = some x := ⟨_, List.getElem?_eq_getElem (by have := HNL.out; omega)⟩
        obtain ⟨b, o, rfl, hb, hcell⟩ := HR.out (by omega)
        obtain ⟨Ad, cd, ⟨e0, e1, e2, e3, e4⟩, hv⟩ := hcell j x hx
        have hbw : ∀ q, R q → wr.heap[q]? = w.heap[q]? := fun q hq => hkk.block q (HRS.out q hq).1 (HRS.out q hq).2
        have x0 := (World.cell?_of_block (w := w) (a := ⟨b, o + j * 5, none⟩) (hbw b hb)).trans e0
        have x1 := (World.cell?_of_block (w := w) (a := ⟨b, o + j * 5 + 1, none⟩) (hbw b hb)).trans e1
        have x2 := (World.cell?_of_block (w := w) (a := ⟨b, o + j * 5 + 2, none⟩) (hbw b hb)).trans e2
        have x3 := (World.cell?_of_block (w := w) (a := ⟨b, o + j * 5 + 3, none⟩) (hbw b hb)).trans e3
        have x4 := (World.cell?_of_block (w := w) (a := ⟨b, o + j * 5 + 4, none⟩) (hbw b hb)).trans e4
        have hv2 : EnV wr (Old wr) x Ad cd := (hv.keep hbw (fun q hq => (Nat.lt_of_lt_of_le (HRS.out q hq).1 hkk.size)))
        have hj1 : (j : Int) < (n : Int) := by omega
        have HTK := Lib.hid (show s.es.take k ++ l.take (j + 1) = (s.es.take k ++ l.take j) ++ [x] by rw [List.take_add_one, hx, List.append_assoc]; rfl)
        have HLEN := Lib.hid (show (s.es.take k ++ l.take j).length + 1 ≤ 1073741824 by rw [List.length_append, List.length_take, List.length_take]; have := HN.out; have := HNL.out; omega)
        obtain ⟨A1, k1, rfl⟩ := ownsRow_form hown
        generalize s.es.take k ++ l.take j = E at hown HTK HLEN hrow hvb ⊢
        have HV2 := Lib.hid hv2
        have HROW := Lib.hid hrow
        have HOWN := Lib.hid hown
        have HVB := Lib.hid hvb
        have HKK := Lib.hid hkk
        have hgw : g < wr.heap.size := row_lt hrow
        clear e0 e1 e2 e3 e4 hv hv2 hbw hcell hx hb hvb hkk hown hrow
        go_upto_region 4 with fail
        have hr1 := heap_alloc_new wr (.cells #[.int .u64 (x.ix : Int), .int .u64 (x.tm : Int), .int .i64 x.kd, .int .i64 x.dl, .slice Ad x.da.length cd] tApi)
        have hb1 : Below wr.heap.size wr (wr.alloc (.cells #[.int .u64 (x.ix : Int), .int .u64 (x.tm : Int), .int .i64 x.kd, .int .i64 x.dl, .slice Ad x.da.length cd] tApi)) := (Below.refl _ _).alloc (Nat.le_refl _) _
        change Code.wp _ _ _ _ (wr.alloc (.cells #[.int .u64 (x.ix : Int), .int .u64 (x.tm : Int), .int .i64 x.kd, .int .i64 x.dl, .slice Ad x.da.length cd] tApi))
        generalize wr.alloc (.cells #[.int .u64 (x.ix : Int), .int .u64 (x.tm : Int), .int .i64 x.kd, .int .i64 x.dl, .slice Ad x.da.length cd] tApi) = wa at hr1 hb1 ⊢
        have hrg : wa.heap[g]? = some (.cells #[.int .u64 (s.ix : Int), .int .u64 (s.tm : Int), .slice A1 E.length k1] tLog (0, 0)) := (hb1.block g hgw).trans HROW.out
        have HALL := Lib.hid (show ∀ W, Below wa.heap.size wa W → W.cell? ⟨g, 2, none⟩ = some (.slice A1 E.length k1) ∧ W.cell? ⟨wr.heap.size, 1, none⟩ = some (.int .u64 (x.tm : Int)) ∧ W.cell? ⟨wr.heap.size, 2, none⟩ = some (.int .i64 x.kd) ∧ W.cell? ⟨wr.heap.size, 3, none⟩ = some (.int .i64 x.dl) ∧ W.cell? ⟨wr.heap.size, 4, none⟩ = some (.slice Ad x.da.length cd) ∧
            (convert 37 9 (.slice Ad x.da.length cd)).run Tryz.prog W = .ok (.string (str x.da)) W from fun W hW => by
          have h1 := (hW.block _ (row_lt hr1)).trans hr1
          have h2 := (hW.block _ (row_lt hrg)).trans hrg
          exact ⟨by rw [cell_of_row W _ 2 _ _ _ h2]; rfl, by rw [cell_of_row W _ 1 _ _ _ h1]; rfl, by rw [cell_of_row W _ 2 _ _ _ h1]; rfl, by rw [cell_of_row W _ 3 _ _ _ h1]; rfl, by rw [cell_of_row W _ 4 _ _ _ h1]; rfl, run_text W cd rfl (((HV2.out.below hb1).below hW).lies.lies)⟩)
        have HSC := Lib.hid (show ∀ W : World, W.heap[wr.heap.size]? = wa.heap[wr.heap.size]? → W.cell? ⟨wr.heap.size, 1, none⟩ = some (.int .u64 (x.tm : Int)) ∧ W.cell? ⟨wr.heap.size, 2, none⟩ = some (.int .i64 x.kd) ∧ W.cell? ⟨wr.heap.size, 3, none⟩ = some (.int .i64 x.dl) ∧ W.cell? ⟨wr.heap.size, 4, none⟩ = some (.slice Ad x.da.length cd) from fun W hW => by
          have h1 := hW.trans hr1
          exact ⟨by rw [cell_of_row W _ 1 _ _ _ h1]; rfl, by rw [cell_of_row W _ 2 _ _ _ h1]; rfl, by rw [cell_of_row W _ 3 _ _ _ h1]; rfl, by rw [cell_of_row W _ 4 _ _ _ h1]; rfl⟩)
        have HRLT := Lib.hid (row_lt hr1)
        have HNG := Lib.hid (show wr.heap.size ≠ g by omega)
        have hba : Below wa.heap.size wa (wa.drew.alloc (.cells #[.int .u64 (x.tm : Int), .int .i64 x.kd, .int .i64 x.dl, .string (str x.da)] tEnt)) := ((Below.refl _ _).drew).alloc (Nat.le_refl _) _
        obtain ⟨p1, -, -, -, -, p6⟩ := HALL.out wa.drew (Below.refl _ _).drew
        obtain ⟨q1, -, -, -, -, q6⟩ := HALL.out _ hba
        have HB1 := Lib.hid (By.ext hb1 hba)
        have HRG := Lib.hid ((hba.block g (row_lt hrg)).trans hrg)
        have HOA := Lib.hid (ownsRow_keep HOWN.out (fun q hq => (By.ext hb1 hba).block q (ownsRow_lt HOWN.out hq).2))
        have HNC := Lib.hid (show 0 < 1 → ∃ a, (some (⟨wa.heap.size, 0, none⟩ : Addr)) = some a ∧ ∀ j u, (eC x)[j]? = some u → (wa.drew.alloc (.cells #[.int .u64 (x.tm : Int), .int .i64 x.kd, .int .i64 x.dl, .string (str x.da)] tEnt)).cell? (a.add j) = some u from fun _ => ⟨_, rfl, fun j u hu => news_cells wa.drew tEnt (eC x) j u hu⟩)
        have HN1 := Lib.hid (show ∀ u ∈ eC x, u.oneCell' = true from fun u hu => eRow_one [x] u (by simpa [eRow] using hu))
        have HGW := Lib.hid hgw
        clear hb1 hr1 hrg hba x0 x1 x2 x3 x4 hgw
        have q1b : (wa.alloc (.cells #[.int .u64 (x.tm : Int), .int .i64 x.kd, .int .i64 x.dl, .string (str x.da)] tEnt) ).drew.cell? ⟨g, 2, none⟩ = some (.slice A1 E.length k1) := q1
        refine wp_region_held_drew (S := fun w' => w'.cell? ⟨wr.heap.size, 1, none⟩ = some (.int .u64 (x.tm : Int)) ∧ w'.cell? ⟨wr.heap.size, 2, none⟩ = some (.int .i64 x.kd) ∧ w'.cell? ⟨wr.heap.size, 3, none⟩ = some (.int .i64 x.dl) ∧ w'.cell? ⟨wr.heap.size, 4, none⟩ = some (.slice Ad x.da.length cd)) (by kernel_rfl) (HSC.out _ rfl) (fun hHeld => ?_)
        refine take_at (i := 0) (d := some 36) (v := ?_) rfl rfl (by kernel_rfl) (by kernel_rfl) (by kernel_rfl) (fun _ _ _ h => h) (Or.inl ⟨by rfl, ?_⟩) hHeld ?_
        rotate_left
        · (intro w hSw; (try dsimp only at hSw); first | (go_simp; done) | (go_simp; with_reducible rfl))
        ((try simp only [Act.put]); (try simp only [List.setIfInBounds_toArray]); (try simp only [List.set_cons_succ]); (try simp only [List.set_cons_zero]))
        refine take_at (i := 1) (d := some 37) (v := ?_) rfl rfl (by kernel_rfl) (by kernel_rfl) (by kernel_rfl) (fun _ _ _ h => h) (Or.inl ⟨by rfl, ?_⟩) hHeld ?_
        rotate_left
        · (intro w hSw; (try dsimp only at hSw); first | (go_simp; done) | (go_simp; with_reducible rfl))
        ((try simp only [Act.put]); (try simp only [List.setIfInBounds_toArray]); (try simp only [List.set_cons_succ]); (try simp only [List.set_cons_zero]))
        refine take_at (i := 2) (d := some 38) (v := ?_) rfl rfl (by kernel_rfl) (by kernel_rfl) (by kernel_rfl) (fun _ _ _ h => h) (Or.inl ⟨by rfl, ?_⟩) hHeld ?_
        rotate_left
        · (intro w hSw; (try dsimp only at hSw); first | (go_simp; done) | (go_simp; with_reducible rfl))
        ((try simp only [Act.put]); (try simp only [List.setIfInBounds_toArray]); (try simp only [List.set_cons_succ]); (try simp only [List.set_cons_zero]))
        refine take_at (i := 3) (d := some 39) (v := ?_) rfl rfl (by kernel_rfl) (by kernel_rfl) (by kernel_rfl) (fun _ _ _ h => h) (Or.inl ⟨by rfl, ?_⟩) hHeld ?_
        rotate_left
        · (intro w hSw; (try dsimp only at hSw); first | (go_simp; done) | (go_simp; with_reducible rfl))
        ((try simp only [Act.put]); (try simp only [List.setIfInBounds_toArray]); (try simp only [List.set_cons_succ]); (try simp only [List.set_cons_zero]))
        refine take_at (i := 5) (d := some 41) (v := ?_) rfl rfl (by kernel_rfl) (by kernel_rfl) (by kernel_rfl) (fun _ _ _ h => h) (Or.inl ⟨by rfl, ?_⟩) hHeld ?_
        rotate_left
        · (intro w hSw; (try dsimp only at hSw); first | (go_simp; done) | (go_simp; with_reducible rfl))
        ((try simp only [Act.put]); (try simp only [List.setIfInBounds_toArray]); (try simp only [List.set_cons_succ]); (try simp only [List.set_cons_zero]))
        refine take_at (i := 6) (d := some 42) (v := ?_) rfl rfl (by kernel_rfl) (by kernel_rfl) (by kernel_rfl) (fun _ _ _ h => h) (Or.inl ⟨by rfl, ?_⟩) hHeld ?_
        rotate_left
        · (intro w hSw; (try dsimp only at hSw); first | (go_simp; done) | (go_simp; with_reducible rfl))
        ((try simp only [Act.put]); (try simp only [List.setIfInBounds_toArray]); (try simp only [List.set_cons_succ]); (try simp only [List.set_cons_zero]))
        refine take_at (i := 7) (d := some 43) (v := ?_) rfl rfl (by kernel_rfl) (by kernel_rfl) (by kernel_rfl) (fun _ _ _ h => h) (Or.inl ⟨by rfl, ?_⟩) hHeld ?_
        rotate_left
        · (intro w hSw; (try dsimp only at hSw); first | (go_simp; done) | (go_simp; with_reducible rfl))
        ((try simp only [Act.put]); (try simp only [List.setIfInBounds_toArray]); (try simp only [List.set_cons_succ]); (try simp only [List.set_cons_zero]))
        refine take_at (i := 8) (d := some 44) (v := ?_) rfl rfl (by kernel_rfl) (by kernel_rfl) (by kernel_rfl) (fun _ _ _ h => h) (Or.inl ⟨by rfl, ?_⟩) hHeld ?_
        rotate_left
        · (intro w hSw; (try dsimp only at hSw); first | (go_simp; done) | (go_simp; with_reducible rfl))
        ((try simp only [Act.put]); (try simp only [List.setIfInBounds_toArray]); (try simp only [List.set_cons_succ]); (try simp only [List.set_cons_zero]))
        refine take_at (i := 9) (d := some 45) (v := ?_) rfl rfl (by kernel_rfl) (by kernel_rfl) (by kernel_rfl) (fun _ _ _ h => h) (Or.inl ⟨by rfl, ?_⟩) hHeld ?_
        rotate_left
        · (intro w hSw; (try dsimp only at hSw); first | (go_simp; done) | (go_simp; with_reducible rfl))
        ((try simp only [Act.put]); (try simp only [List.setIfInBounds_toArray]); (try simp only [List.set_cons_succ]); (try simp only [List.set_cons_zero]))
        refine take_at (i := 10) (d := some 46) (v := ?_) rfl rfl (by kernel_rfl) (by kernel_rfl) (by kernel_rfl) (fun _ _ _ h => h) (Or.inl ⟨by rfl, ?_⟩) hHeld ?_
        rotate_left
        · (intro w hSw; (try dsimp only at hSw); first | (go_simp; done) | (go_simp; with_reducible rfl))
        ((try simp only [Act.put]); (try simp only [List.setIfInBounds_toArray]); (try simp only [List.set_cons_succ]); (try simp only [List.set_cons_zero]))
        refine take_at (i := 11) (d := some 47) (v := ?_) rfl rfl (by kernel_rfl) (by kernel_rfl) (by kernel_rfl) (fun _ _ _ h => h) (Or.inl ⟨by rfl, ?_⟩) hHeld ?_
        rotate_left
        · (intro w hSw; (try dsimp only at hSw); first | (go_simp; done) | (go_simp; with_reducible rfl))
        ((try simp only [Act.put]); (try simp only [List.setIfInBounds_toArray]); (try simp only [List.set_cons_succ]); (try simp only [List.set_cons_zero]))
        refine take_at (i := 12) (d := some 48) (v := ?_) rfl rfl (by kernel_rfl) (by kernel_rfl) (by kernel_rfl) (fun _ _ _ h => h) (Or.inl ⟨by rfl, ?_⟩) hHeld ?_
        rotate_left
        · (intro w hSw; (try dsimp only at hSw); first | (go_simp; done) | (go_simp; with_reducible rfl))
        ((try simp only [Act.put]); (try simp only [List.setIfInBounds_toArray]); (try simp only [List.set_cons_succ]); (try simp only [List.set_cons_zero]))
        refine wpAnyH_ready (rs := [4, 13]) (by kernel_rfl) (by simp) ?_
        refine AllReadyH.cons rfl (fun K hK => ?_) (AllReadyH.cons rfl (fun K hK => ?_) AllReadyH.nil)
        · go_simp
          refine hK.out _ _ (hHeld) (fun hHeld => ?_)
          clear hK K
          ((try simp only [Act.put]); (try simp only [List.setIfInBounds_toArray]); (try simp only [List.set_cons_succ]); (try simp only [List.set_cons_zero]))
          refine wpAnyH_ready (rs := [13]) (by kernel_rfl) (by simp) ?_
          refine AllReadyH.cons rfl (fun K hK => ?_) AllReadyH.nil
          go_simp
          refine hK.out _ _ (hHeld) (fun hHeld => ?_)
          clear hK K
          ((try simp only [Act.put]); (try simp only [List.setIfInBounds_toArray]); (try simp only [List.set_cons_succ]); (try simp only [List.set_cons_zero]))
          refine take_at (i := 14) (d := some 50) (v := ?_) rfl rfl (by kernel_rfl) (by kernel_rfl) (by kernel_rfl) (fun _ _ _ h => h) (Or.inl ⟨by rfl, ?_⟩) hHeld ?_
          rotate_left
          · (intro w hSw; (try dsimp only at hSw); first | (go_simp; done) | (go_simp; with_reducible rfl))
          ((try simp only [Act.put]); (try simp only [List.setIfInBounds_toArray]); (try simp only [List.set_cons_succ]); (try simp only [List.set_cons_zero]))
          refine wpAnyH_ready (rs := [15]) (by kernel_rfl) (by simp) ?_
          refine AllReadyH.cons rfl (fun K hK => ?_) AllReadyH.nil
          go_simp
          refine hK.out _ _ (HSC.out _ (heap_alloc_old _ _ HRLT.out)) (fun hHeld => ?_)
          clear hK K
          ((try simp only [Act.put]); (try simp only [List.setIfInBounds_toArray]); (try simp only [List.set_cons_succ]); (try simp only [List.set_cons_zero]))
          refine wpAnyH_ready (rs := [16]) (by kernel_rfl) (by simp) ?_
          refine AllReadyH.cons rfl (fun K hK => ?_) AllReadyH.nil
          refine step_appG Tryz.underlying65 entInfo rfl (by decide) (by decide) rfl (.tmp 40) (.tmp 51) rfl 0 (.slice A1 E.length k1) E.length (eRow E) rfl HOA.out (some ⟨wa.heap.size, 0, none⟩) 1 1 rfl (eC x) rfl HNC.out HN1.out HLEN.out (Nat.zero_le _) ?_
          intro v5 w5 ho5 hg5 hv5
          obtain ⟨A5, c5, rfl⟩ := ownsRow_form ho5
          have hr5 := (hg5.block g (row_lt HRG.out) (fun e => (HVB.out g e.symm).2 rfl)).trans HRG.out
          have hc5 : w5.cell? ⟨g, 2, none⟩ = some (.slice A1 E.length k1) := by rw [cell_of_row w5 g 2 _ _ _ hr5]; rfl
          have hf5 : w5.frozen? ⟨g, 2, none⟩ = false := frozen_of_row w5 g 2 _ _ hr5
          have hw5 : w5.heap[wr.heap.size]? = wa.heap[wr.heap.size]? := (hg5.block wr.heap.size (Nat.lt_of_lt_of_le HRLT.out (by show wa.heap.size ≤ (wa.alloc _).heap.size; rw [World.size_alloc]; omega)) (fun e => by have := (ownsRow_lt HOWN.out e.symm).2; omega)).trans (heap_alloc_old _ _ HRLT.out)
          refine hK.out _ _ (HSC.out _ hw5) (fun hHeld => ?_)
          clear hK K
          ((try simp only [Act.put]); (try simp only [List.setIfInBounds_toArray]); (try simp only [List.set_cons_succ]); (try simp only [List.set_cons_zero]))
          refine take_at (i := 17) (d := some 53) (v := ?_) rfl rfl (by kernel_rfl) (by kernel_rfl) (by kernel_rfl) (fun _ _ _ h => h) (Or.inl ⟨by rfl, ?_⟩) hHeld ?_
          rotate_left
          · (intro w hSw; (try dsimp only at hSw); first | (go_simp; done) | (go_simp; with_reducible rfl))
          ((try simp only [Act.put]); (try simp only [List.setIfInBounds_toArray]); (try simp only [List.set_cons_succ]); (try simp only [List.set_cons_zero]))
          refine take_at (i := 18) (d := some 54) (v := ?_) rfl rfl (by kernel_rfl) (by kernel_rfl) (by kernel_rfl) (fun _ _ _ h => h) (Or.inl ⟨by rfl, ?_⟩) hHeld ?_
          rotate_left
          · (intro w hSw; (try dsimp only at hSw); first | (go_simp; done) | (go_simp; with_reducible rfl))
          ((try simp only [Act.put]); (try simp only [List.setIfInBounds_toArray]); (try simp only [List.set_cons_succ]); (try simp only [List.set_cons_zero]))
          refine wpAnyH_ready (rs := [19]) (by kernel_rfl) (by simp) ?_
          refine AllReadyH.cons rfl (fun K hK => ?_) AllReadyH.nil
          go_simp
          refine hK.out _ _ (HSC.out _ ((Below.heap_setCell w5 ⟨g, 2, none⟩ _ _ HNG.out).trans hw5)) (fun hHeld => ?_)
          clear hK K
          ((try simp only [Act.put]); (try simp only [List.setIfInBounds_toArray]); (try simp only [List.set_cons_succ]); (try simp only [List.set_cons_zero]))
          refine wpAnyH_done (by kernel_rfl) ?_ _
          go_wp2
          go_roundw
          case rel => exact ⟨j + 1, by omega, by go_num, by rw [HTK.out]; exact RepMid.push HH.out.ing HH.out.lt HVB.out HKK.out HB1.out hr5 ho5 hg5 hv5⟩
          case measure => simp [intOf]; omega
        · go_simp
          refine hK.out _ _ (hHeld) (fun hHeld => ?_)
          clear hK K
          ((try simp only [Act.put]); (try simp only [List.setIfInBounds_toArray]); (try simp only [List.set_cons_succ]); (try simp only [List.set_cons_zero]))
          refine take_at (i := 14) (d := some 50) (v := ?_) rfl rfl (by kernel_rfl) (by kernel_rfl) (by kernel_rfl) (fun _ _ _ h => h) (Or.inl ⟨by rfl, ?_⟩) hHeld ?_
          rotate_left
          · (intro w hSw; (try dsimp only at hSw); first | (go_simp; done) | (go_simp; with_reducible rfl))
          ((try simp only [Act.put]); (try simp only [List.setIfInBounds_toArray]); (try simp only [List.set_cons_succ]); (try simp only [List.set_cons_zero]))
          refine wpAnyH_ready (rs := [4, 15]) (by kernel_rfl) (by simp) ?_
          refine AllReadyH.cons rfl (fun K hK => ?_) (AllReadyH.cons rfl (fun K hK => ?_) AllReadyH.nil)
          · go_simp
            refine hK.out _ _ (hHeld) (fun hHeld => ?_)
            clear hK K
            ((try simp only [Act.put]); (try simp only [List.setIfInBounds_toArray]); (try simp only [List.set_cons_succ]); (try simp only [List.set_cons_zero]))
            refine wpAnyH_ready (rs := [15]) (by kernel_rfl) (by simp) ?_
            refine AllReadyH.cons rfl (fun K hK => ?_) AllReadyH.nil
            go_simp
            refine hK.out _ _ (HSC.out _ (heap_alloc_old _ _ HRLT.out)) (fun hHeld => ?_)
            clear hK K
            ((try simp only [Act.put]); (try simp only [List.setIfInBounds_toArray]); (try simp only [List.set_cons_succ]); (try simp only [List.set_cons_zero]))
            refine wpAnyH_ready (rs := [16]) (by kernel_rfl) (by simp) ?_
            refine AllReadyH.cons rfl (fun K hK => ?_) AllReadyH.nil
            refine step_appG Tryz.underlying65 entInfo rfl (by decide) (by decide) rfl (.tmp 40) (.tmp 51) rfl 0 (.slice A1 E.length k1) E.length (eRow E) rfl HOA.out (some ⟨wa.heap.size, 0, none⟩) 1 1 rfl (eC x) rfl HNC.out HN1.out HLEN.out (Nat.zero_le _) ?_
            intro v5 w5 ho5 hg5 hv5
            obtain ⟨A5, c5, rfl⟩ := ownsRow_form ho5
            have hr5 := (hg5.block g (row_lt HRG.out) (fun e => (HVB.out g e.symm).2 rfl)).trans HRG.out
            have hc5 : w5.cell? ⟨g, 2, none⟩ = some (.slice A1 E.length k1) := by rw [cell_of_row w5 g 2 _ _ _ hr5]; rfl
            have hf5 : w5.frozen? ⟨g, 2, none⟩ = false := frozen_of_row w5 g 2 _ _ hr5
            have hw5 : w5.heap[wr.heap.size]? = wa.heap[wr.heap.size]? := (hg5.block wr.heap.size (Nat.lt_of_lt_of_le HRLT.out (by show wa.heap.size ≤ (wa.alloc _).heap.size; rw [World.size_alloc]; omega)) (fun e => by have := (ownsRow_lt HOWN.out e.symm).2; omega)).trans (heap_alloc_old _ _ HRLT.out)
            refine hK.out _ _ (HSC.out _ hw5) (fun hHeld => ?_)
            clear hK K
            ((try simp only [Act.put]); (try simp only [List.setIfInBounds_toArray]); (try simp only [List.set_cons_succ]); (try simp only [List.set_cons_zero]))
            refine take_at (i := 17) (d := some 53) (v := ?_) rfl rfl (by kernel_rfl) (by kernel_rfl) (by kernel_rfl) (fun _ _ _ h => h) (Or.inl ⟨by rfl, ?_⟩) hHeld ?_
            rotate_left
            · (intro w hSw; (try dsimp only at hSw); first | (go_simp; done) | (go_simp; with_reducible rfl))
            ((try simp only [Act.put]); (try simp only [List.setIfInBounds_toArray]); (try simp only [List.set_cons_succ]); (try simp only [List.set_cons_zero]))
            refine take_at (i := 18) (d := some 54) (v := ?_) rfl rfl (by kernel_rfl) (by kernel_rfl) (by kernel_rfl) (fun _ _ _ h => h) (Or.inl ⟨by rfl, ?_⟩) hHeld ?_
            rotate_left
            · (intro w hSw; (try dsimp only at hSw); first | (go_simp; done) | (go_simp; with_reducible rfl))
            ((try simp only [Act.put]); (try simp only [List.setIfInBounds_toArray]); (try simp only [List.set_cons_succ]); (try simp only [List.set_cons_zero]))
            refine wpAnyH_ready (rs := [19]) (by kernel_rfl) (by simp) ?_
            refine AllReadyH.cons rfl (fun K hK => ?_) AllReadyH.nil
            go_simp
            refine hK.out _ _ (HSC.out _ ((Below.heap_setCell w5 ⟨g, 2, none⟩ _ _ HNG.out).trans hw5)) (fun hHeld => ?_)
            clear hK K
            ((try simp only [Act.put]); (try simp only [List.setIfInBounds_toArray]); (try simp only [List.set_cons_succ]); (try simp only [List.set_cons_zero]))
            refine wpAnyH_done (by kernel_rfl) ?_ _
            go_wp2
            go_roundw
            case rel => exact ⟨j + 1, by omega, by go_num, by rw [HTK.out]; exact RepMid.push HH.out.ing HH.out.lt HVB.out HKK.out HB1.out hr5 ho5 hg5 hv5⟩
            case measure => simp [intOf]; omega
          · go_simp
            refine hK.out _ _ (HSC.out _ (heap_alloc_old _ _ HRLT.out)) (fun hHeld => ?_)
            clear hK K
            ((try simp only [Act.put]); (try simp only [List.setIfInBounds_toArray]); (try simp only [List.set_cons_succ]); (try simp only [List.set_cons_zero]))
            refine wpAnyH_ready (rs := [4]) (by kernel_rfl) (by simp) ?_
            refine AllReadyH.cons rfl (fun K hK => ?_) AllReadyH.nil
            go_simp
            refine hK.out _ _ (hHeld) (fun hHeld => ?_)
            clear hK K
            ((try simp only [Act.put]); (try simp only [List.setIfInBounds_toArray]); (try simp only [List.set_cons_succ]); (try simp only [List.set_cons_zero]))
            refine wpAnyH_ready (rs := [16]) (by kernel_rfl) (by simp) ?_
            refine AllReadyH.cons rfl (fun K hK => ?_) AllReadyH.nil
            refine step_appG Tryz.underlying65 entInfo rfl (by decide) (by decide) rfl (.tmp 40) (.tmp 51) rfl 0 (.slice A1 E.length k1) E.length (eRow E) rfl HOA.out (some ⟨wa.heap.size, 0, none⟩) 1 1 rfl (eC x) rfl HNC.out HN1.out HLEN.out (Nat.zero_le _) ?_
            intro v5 w5 ho5 hg5 hv5
            obtain ⟨A5, c5, rfl⟩ := ownsRow_form ho5
            have hr5 := (hg5.block g (row_lt HRG.out) (fun e => (HVB.out g e.symm).2 rfl)).trans HRG.out
            have hc5 : w5.cell? ⟨g, 2, none⟩ = some (.slice A1 E.length k1) := by rw [cell_of_row w5 g 2 _ _ _ hr5]; rfl
            have hf5 : w5.frozen? ⟨g, 2, none⟩ = false := frozen_of_row w5 g 2 _ _ hr5
            have hw5 : w5.heap[wr.heap.size]? = wa.heap[wr.heap.size]? := (hg5.block wr.heap.size (Nat.lt_of_lt_of_le HRLT.out (by show wa.heap.size ≤ (wa.alloc _).heap.size; rw [World.size_alloc]; omega)) (fun e => by have := (ownsRow_lt HOWN.out e.symm).2; omega)).trans (heap_alloc_old _ _ HRLT.out)
            refine hK.out _ _ (HSC.out _ hw5) (fun hHeld => ?_)
            clear hK K
            ((try simp only [Act.put]); (try simp only [List.setIfInBounds_toArray]); (try simp only [List.set_cons_succ]); (try simp only [List.set_cons_zero]))
            refine take_at (i := 17) (d := some 53) (v := ?_) rfl rfl (by kernel_rfl) (by kernel_rfl) (by kernel_rfl) (fun _ _ _ h => h) (Or.inl ⟨by rfl, ?_⟩) hHeld ?_
            rotate_left
            · (intro w hSw; (try dsimp only at hSw); first | (go_simp; done) | (go_simp; with_reducible rfl))
            ((try simp only [Act.put]); (try simp only [List.setIfInBounds_toArray]); (try simp only [List.set_cons_succ]); (try simp only [List.set_cons_zero]))
            refine take_at (i := 18) (d := some 54) (v := ?_) rfl rfl (by kernel_rfl) (by kernel_rfl) (by kernel_rfl) (fun _ _ _ h => h) (Or.inl ⟨by rfl, ?_⟩) hHeld ?_
            rotate_left
            · (intro w hSw; (try dsimp only at hSw); first | (go_simp; done) | (go_simp; with_reducible rfl))
            ((try simp only [Act.put]); (try simp only [List.setIfInBounds_toArray]); (try simp only [List.set_cons_succ]); (try simp only [List.set_cons_zero]))
            refine wpAnyH_ready (rs := [19]) (by kernel_rfl) (by simp) ?_
            refine AllReadyH.cons rfl (fun K hK => ?_) AllReadyH.nil
            go_simp
            refine hK.out _ _ (HSC.out _ ((Below.heap_setCell w5 ⟨g, 2, none⟩ _ _ HNG.out).trans hw5)) (fun hHeld => ?_)
            clear hK K
            ((try simp only [Act.put]); (try simp only [List.setIfInBounds_toArray]); (try simp only [List.set_cons_succ]); (try simp only [List.set_cons_zero]))
            refine wpAnyH_done (by kernel_rfl) ?_ _
            go_wp2
            go_roundw
            case rel => exact ⟨j + 1, by omega, by go_num, by rw [HTK.out]; exact RepMid.push HH.out.ing HH.out.lt HVB.out HKK.out HB1.out hr5 ho5 hg5 hv5⟩
            case measure => simp [intOf]; omega
      · have hjn' : j = n := by omega
        subst hjn'
        have HFIN := Lib.hid (show LStep g ⟨s.ix, s.tm, s.es.take k ++ l⟩ S w wr by
          have h0 : RepMid g s S (s.es.take k ++ l.take j) w wr := ⟨v1, hrow, hown, hvb, hkk⟩
          rw [show l.take j = l from List.take_of_length_le (by have := HNL.out; omega)] at h0
          exact h0.done HH.out.ing HH.out.lt HOK.out)
        clear hrow hown hvb hkk
        go_wp2
        go_end0
        exact ⟨⟨_, rfl⟩, HFIN.out⟩
end Go.Proofs.YtdbaajgkcjpnoaaGreat.Rg
