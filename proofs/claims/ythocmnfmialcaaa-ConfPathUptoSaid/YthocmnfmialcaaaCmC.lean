/- What ConfBack's changes come to; stores into one value's blocks. -/
import Derived.Test.YthocmnfmialcaaaCmB
import Derived.Test.YthocmnfmialcaaaRD
namespace Go.Proofs.Ythocmnfmialcaaa.Cn
open Go.RowKit By CoP Co Mo Kd

theorem chg_cc {vs ls : List Int} {x : Int} (hs : confB vs ls = true) (h1 : 1 ≤ x) (h2 : x ≤ 16) : ¬ ccErr vs ls x ≠ 0 := by
  unfold ccErr
  rw [if_pos hs, if_neg (by omega)]
  exact fun h => h rfl
theorem back_learn {vs ls : List Int} {x : Int} (he : chgE 1 vs ls x = 0) : chgV 1 vs ls x = vs ∧ chgL 1 vs ls x = wthL x ls ∧ x ∉ vs ∧ x ∉ ls := by
  have hne : ¬ chgE 1 vs ls x ≠ 0 := by omega
  refine ⟨by unfold chgV; rw [if_neg hne, if_pos rfl], by unfold chgL; rw [if_neg hne, if_pos rfl], ?_⟩
  obtain ⟨hs, h1, h2⟩ := chg_ok he
  unfold chgE at he
  rw [if_neg (chg_cc hs h1 h2), if_pos rfl] at he
  by_cases hm : x ∈ vs ∨ x ∈ ls
  · rw [if_pos hm] at he; cases he
  · exact not_or.1 hm
/-- Who is made to learn, and leaves. -/
theorem back_one {vs ls : List Int} {x : Int} (he : chgE 1 vs ls x = 0) : chgE 3 vs (wthL x ls) x = 0 ∧ chgV 3 vs (wthL x ls) x = vs ∧ chgL 3 vs (wthL x ls) x = ls := by
  obtain ⟨e1, e2, hv, hl⟩ := back_learn he
  obtain ⟨hs, h1, h2⟩ := chg_ok he
  have hs2 := chg_sound (.inl rfl) he
  rw [e1, e2] at hs2
  obtain ⟨_, _, _, hp⟩ := (confB_iff _ _).1 hs
  have h3 : chgE 3 vs (wthL x ls) x = 0 := by
    unfold chgE
    rw [if_neg (chg_cc hs2 h1 h2), if_neg (by decide), if_neg (by decide), if_neg (not_not_intro (.inr (mem_wthL.2 (.inl rfl)))), woL_none hv, if_neg (by omega)]
  have hne : ¬ chgE 3 vs (wthL x ls) x ≠ 0 := by omega
  refine ⟨h3, ?_, ?_⟩
  · unfold chgV
    rw [if_neg hne, if_neg (by decide), if_neg (by decide), woL_none hv]
  · unfold chgL
    rw [if_neg hne, if_neg (by decide), wo_with hl]
/-- Who votes and leaves, learns and votes. -/
theorem back_two {vs ls : List Int} {x : Int} (he : chgE 3 vs ls x = 0) (hx : x ∈ vs) :
    chgV 3 vs ls x = woL x vs ∧ chgL 3 vs ls x = ls ∧ 0 < (woL x vs).length ∧ chgE 1 (woL x vs) ls x = 0 ∧ chgV 1 (woL x vs) ls x = woL x vs ∧ chgL 1 (woL x vs) ls x = wthL x ls ∧
      chgE 2 (woL x vs) (wthL x ls) x = 0 ∧ chgV 2 (woL x vs) (wthL x ls) x = vs ∧ chgL 2 (woL x vs) (wthL x ls) x = ls := by
  obtain ⟨hs, h1, h2⟩ := chg_ok he
  obtain ⟨ha, hrv, _, _⟩ := (confB_iff _ _).1 hs
  have hl : x ∉ ls := ha x hx
  have hne : ¬ chgE 3 vs ls x ≠ 0 := by omega
  have e1 : chgV 3 vs ls x = woL x vs := by unfold chgV; rw [if_neg hne, if_neg (by decide), if_neg (by decide)]
  have e2 : chgL 3 vs ls x = ls := by unfold chgL; rw [if_neg hne, if_neg (by decide), woL_none hl]
  have hs2 := chg_sound (.inr (.inr rfl)) he
  rw [e1, e2] at hs2
  have hx2 : x ∉ woL x vs := fun h => (mem_woL.1 h).2 rfl
  have h3 : chgE 1 (woL x vs) ls x = 0 := by
    unfold chgE
    rw [if_neg (chg_cc hs2 h1 h2), if_pos rfl, if_neg (fun h => h.elim hx2 hl)]
  obtain ⟨e3, e4, _, _⟩ := back_learn h3
  have hs3 := chg_sound (.inl rfl) h3
  rw [e3, e4] at hs3
  have h4 : chgE 2 (woL x vs) (wthL x ls) x = 0 := by
    unfold chgE
    rw [if_neg (chg_cc hs3 h1 h2), if_neg (by decide), if_pos rfl, if_pos (mem_wthL.2 (.inl rfl))]
  have hne4 : ¬ chgE 2 (woL x vs) (wthL x ls) x ≠ 0 := by omega
  refine ⟨e1, e2, ((confB_iff _ _).1 hs2).2.2.2, h3, e3, e4, h4, ?_, ?_⟩
  · unfold chgV
    rw [if_neg hne4, if_neg (by decide), if_pos rfl, with_wo hrv hx]
  · unfold chgL
    rw [if_neg hne4, if_neg (by decide), wo_with hl]
/-- w' is w but for the blocks from lo on, below hi, and new ones. -/
structure Turn (lo hi : Nat) (w w' : World) : Prop where
  os : w'.os = w.os
  tape : w'.tape = w.tape
  output : w'.output = w.output
  size : w.heap.size ≤ w'.heap.size
  block : ∀ b, b < w.heap.size → b < lo ∨ hi ≤ b → w'.heap[b]? = w.heap[b]?
theorem Turn.refl (lo hi : Nat) (w : World) : Turn lo hi w w := ⟨rfl, rfl, rfl, Nat.le_refl _, fun _ _ _ => rfl⟩
theorem Turn.set {lo hi g : Nat} {w w' : World} (h : Turn lo hi w w') (h1 : lo ≤ g) (h2 : g < hi) (o : Nat) (v : Value) : Turn lo hi w (w'.setCell ⟨g, o, none⟩ v) :=
  ⟨h.os, h.tape, h.output, by simp [World.setCell]; exact h.size, fun b hb hn => (heap_setCell_other w' ⟨g, o, none⟩ b v (by show b ≠ g; omega)).trans (h.block b hb hn)⟩
theorem Turn.below {lo hi B : Nat} {w0 w w' : World} (h : Turn lo hi w w') (hb : Below B w0 w) (hg : B ≤ lo) (hB : B ≤ w.heap.size) : Below B w0 w' :=
  ⟨h.os.trans hb.os, h.tape.trans hb.tape, h.output.trans hb.output, Nat.le_trans hb.size h.size, fun b hlt => (h.block b (by omega) (by omega)).trans (hb.block b hlt)⟩
section
variable {w w' : World} {S : Nat → Prop} {A A2 : Option Addr} {n c m c2 : Nat} {vs ls : List Int}
theorem CfAt.stay (h : CfAt w S A n c A2 m c2 vs ls) (hS : ∀ b, S b → b < w.heap.size) (hb : Below w.heap.size w w') : CfAt w' S A n c A2 m c2 vs ls := h.keep (fun b hB => hb.block b (hS b hB)) (fun _ h => h)
theorem CfAt.turn {lo hi : Nat} (h : CfAt w S A n c A2 m c2 vs ls) (ht : Turn lo hi w w') (hS : ∀ b, S b → b < w.heap.size ∧ (b < lo ∨ hi ≤ b)) : CfAt w' (Old w') A n c A2 m c2 vs ls :=
  h.keep (fun b hB => ht.block b (hS b hB).1 (hS b hB).2) (fun b hB => Nat.lt_of_lt_of_le (hS b hB).1 ht.size)
end
theorem isSome_set {w : World} {g o k : Nat} (v : Value) (h : (w.cell? ⟨g, k, none⟩).isSome = true) : ((w.setCell ⟨g, o, none⟩ v).cell? ⟨g, k, none⟩).isSome = true := by
  by_cases e : o = k
  · subst e
    obtain ⟨u, hu⟩ := Option.isSome_iff_exists.1 h
    simp [World.cell?_setCell_same _ _ _ hu]
  · rw [World.cell?_setCell_other _ _ _ _ (by first | (simp; done) | (simp; omega))]
    exact h
end Go.Proofs.Ythocmnfmialcaaa.Cn
