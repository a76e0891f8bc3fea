/- What a walk that stores into what it read carries: values in given blocks; one block turned. What MsgKeeps wants of a message's entries. -/
import Derived.Test.YtnmcaifecfaoiaaGreatKqA
import Derived.Test.YtnmcaifecfaoiaaGreatKpB
import Derived.Test.YtnmcaifecfaoiaaGreatKpE
import Derived.Test.YtnmcaifecfaoiaaGreatKpD
import Derived.Test.YtnmcaifecfaoiaaGreatGN
import Derived.Deep.DeepCutAuto
namespace Go.Proofs.YtnmcaifecfaoiaaGreat.Kd
open Go.RowKit By CoP Co Mo

/-- The blocks from lo on, below hi. -/
def Seg (lo hi : Nat) : Nat → Prop := fun b => lo ≤ b ∧ b < hi
/-- A value of a kind in given blocks. -/
structure SegAt (k : Kd) (w : World) (lo hi : Nat) (vs : List Value) (d : Data) : Prop where
  rep : k.rep w (Seg lo hi) vs d
  le : hi ≤ w.heap.size
/-- w' is w but for the blocks from lo on, below hi, and new ones. -/
structure Turn (lo hi : Nat) (w w' : World) : Prop where
  os : w'.os = w.os
  tape : w'.tape = w.tape
  output : w'.output = w.output
  size : w.heap.size ≤ w'.heap.size
  block : ∀ b, b < w.heap.size → b < lo ∨ hi ≤ b → w'.heap[b]? = w.heap[b]?
theorem Turn.refl (lo hi : Nat) (w : World) : Turn lo hi w w := ⟨rfl, rfl, rfl, Nat.le_refl _, fun _ _ _ => rfl⟩
theorem Turn.set {lo hi g : Nat} {w w' : World} (h : Turn lo hi w w') (h1 : lo ≤ g) (h2 : g < hi) (o : Nat) (v : Value) : Turn lo hi w (w'.setCell ⟨g, o, none⟩ v) :=
  ⟨h.os, h.tape, h.output, by simp [World.setCell]; exact h.size, fun b hb hn => (heap_setCell_other w' ⟨g, o, none⟩ b v (by show b ≠ g; omega)).trans (h.block b hb hn)⟩
theorem Turn.below {lo hi B : Nat} {w0 w w' : World} (h : Turn lo hi w w') (hb : Below B w0 w) (hg : B ≤ lo) (hB : B ≤ w.heap.size) : Below B w0 w' :=
  ⟨h.os.trans hb.os, h.tape.trans hb.tape, h.output.trans hb.output, Nat.le_trans hb.size h.size, fun b hlt => (h.block b (by omega) (by omega)).trans (hb.block b hlt)⟩
section
variable {k : Kd} {w w' : World} {lo hi : Nat} {vs : List Value} {d : Data}
theorem SegAt.below (hk : k.Ok) (h : SegAt k w lo hi vs d) (hb : Below w.heap.size w w') : SegAt k w' lo hi vs d :=
  ⟨hk.keep h.rep (fun b hb2 => hb.block b (Nat.lt_of_lt_of_le hb2.2 h.le)) (fun _ h => h), Nat.le_trans h.le hb.size⟩
theorem SegAt.turn (hk : k.Ok) {l2 h2 : Nat} (h : SegAt k w lo hi vs d) (ho : Turn l2 h2 w w') (hg : hi ≤ l2 ∨ h2 ≤ lo) : SegAt k w' lo hi vs d :=
  ⟨hk.keep h.rep (fun b hb => ho.block b (Nat.lt_of_lt_of_le hb.2 h.le) (by have h3 : lo ≤ b := hb.1; have h4 : b < hi := hb.2; omega)) (fun _ h => h), Nat.le_trans h.le ho.size⟩
theorem SegAt.old (hk : k.Ok) (h : SegAt k w lo hi vs d) : k.rep w (Old w) vs d := hk.keep h.rep (fun _ _ => rfl) (fun _ hb => Nat.lt_of_lt_of_le hb.2 h.le)
end
/-- Bytes in given blocks. -/
structure SegB (w : World) (lo hi : Nat) (A : Option Addr) (l : List UInt8) : Prop where
  lies : LiesS w (Seg lo hi) A l
  le : hi ≤ w.heap.size
section
variable {w w' : World} {lo hi : Nat} {A : Option Addr} {l : List UInt8}
theorem SegB.below (h : SegB w lo hi A l) (hb : Below w.heap.size w w') : SegB w' lo hi A l :=
  ⟨h.lies.keep (fun b hb2 => hb.block b (Nat.lt_of_lt_of_le hb2.2 h.le)) (fun _ h => h), Nat.le_trans h.le hb.size⟩
theorem SegB.turn {l2 h2 : Nat} (h : SegB w lo hi A l) (ho : Turn l2 h2 w w') (hg : hi ≤ l2 ∨ h2 ≤ lo) : SegB w' lo hi A l :=
  ⟨h.lies.keep (fun b hb => ho.block b (Nat.lt_of_lt_of_le hb.2 h.le) (by have h3 : lo ≤ b := hb.1; have h4 : b < hi := hb.2; omega)) (fun _ h => h), Nat.le_trans h.le ho.size⟩
theorem SegB.old (h : SegB w lo hi A l) : Lies w w.heap.size A l := LiesS.lies (h.lies.keep (fun _ _ => rfl) (fun _ hb => Nat.lt_of_lt_of_le hb.2 h.le))
end
/-- A row of so many entries, that nothing holds fast. -/
def EntRow (w : World) (g o n : Nat) : Prop := 0 < n → ∃ (cs : Array Value) (t : TypeId), w.heap[g]? = some (.cells cs t (0, 0)) ∧ o + n * 5 ≤ cs.size
theorem EntRow.below {w w' : World} {g o n : Nat} (h : EntRow w g o n) (hb : Below w.heap.size w w') : EntRow w' g o n := fun hn => by
  obtain ⟨cs, t, h1, h2⟩ := h hn
  exact ⟨cs, t, (hb.block g (row_lt h1)).trans h1, h2⟩
theorem EntRow.turn {w w' : World} {g o n lo hi : Nat} (h : EntRow w g o n) (ht : Turn lo hi w w') (hg : 0 < n → g < lo ∨ hi ≤ g) : EntRow w' g o n := fun hn => by
  obtain ⟨cs, t, h1, h2⟩ := h hn
  exact ⟨cs, t, (ht.block g (row_lt h1) (hg hn)).trans h1, h2⟩
theorem EntRow.set {w : World} {g o n : Nat} (h : EntRow w g o n) (i : Nat) (v : Value) : EntRow (w.setCell ⟨g, i, none⟩ v) g o n := fun hn => by
  obtain ⟨cs, t, h1, h2⟩ := h hn
  exact ⟨_, t, heap_setCell_same w g i cs t v h1, by simpa using h2⟩
theorem EntRow.cell {w : World} {g o n j i : Nat} (h : EntRow w g o n) (hj : j < n) (hi : i < 5) : ∃ u, w.cell? ⟨g, o + j * 5 + i, none⟩ = some u := by
  obtain ⟨cs, t, h1, h2⟩ := h (by omega)
  rw [cell_of_row w g _ _ _ _ h1]
  exact ⟨cs[o + j * 5 + i]'(by omega), Array.getElem?_eq_getElem _⟩
theorem EntRow.free {w : World} {g o n : Nat} (h : EntRow w g o n) (hn : 0 < n) (i : Nat) : w.frozen? ⟨g, i, none⟩ = false := by
  obtain ⟨cs, t, h1, h2⟩ := h hn
  exact frozen_of_row w g i _ _ h1
theorem list14' {l : List Value} (h : l.length = 14) : ∃ y0 y1 y2 y3 y4 y5 y6 y7 y8 y9 y10 y11 y12 y13 : Value, l = [y0, y1, y2, y3, y4, y5, y6, y7, y8, y9, y10, y11, y12, y13] := by
  match l, h with
  | [y0, y1, y2, y3, y4, y5, y6, y7, y8, y9, y10, y11, y12, y13], _ => exact ⟨_, _, _, _, _, _, _, _, _, _, _, _, _, _, rfl⟩
theorem ReadsKF.good {k : Kd} (hok : k.Ok) {b : List UInt8} {d : Data} {w w' : World} {e : Ending} (h : ReadsKF k b w e w') (hg : k.get b = some (d, b.length)) (hs : k.sound d = true) : ∃ (vs : Array Value), e = .returned (.tuple #[.agg vs, .int .i64 0]) ∧ vs.size = k.zero.length ∧ vs.all (·.oneCell') = true ∧ k.rep w' (NewF w w') vs.toList d ∧ Below w.heap.size w w' := by
  obtain ⟨hb, ⟨d', vs, h1, _, rfl, hr⟩ | ⟨hno, _⟩⟩ := h
  · rw [hg] at h1
    injection h1 with h1
    injection h1 with h1 _
    subst h1
    refine ⟨vs, rfl, ?_, ?_, hr, hb⟩
    · have := hok.len hr
      rw [Array.length_toList] at this
      exact this
    · rw [Array.all_eq_true_iff_forall_mem]
      intro v hv
      exact hok.one hr v (by simpa using hv)
  · exact absurd ⟨hg, hs⟩ (hno d)
/-- A message's entries: where they lie. -/
theorem entries_at {w : World} {S : Nat → Prop} {y0 y1 y2 y3 y4 y5 y6 y7 y8 y9 y10 y11 y12 y13 : Value} {d : Data} (h : msgK.rep w S [y0, y1, y2, y3, y4, y5, y6, y7, y8, y9, y10, y11, y12, y13] d) :
    ∃ (A : Option Addr) (n c : Nat), y9 = .slice A n c ∧ n ≤ c ∧ n ≤ 140737488355328 ∧ (0 < n → ∃ g o, A = some ⟨g, o, none⟩ ∧ S g ∧ ∀ j i, j < n → i < 5 → ∃ u, w.cell? ⟨g, o + j * 5 + i, none⟩ = some u) := by
  obtain ⟨ds, rfl, hr⟩ := h
  obtain ⟨d9, a, v, b, _, h2, h3, h4⟩ := RepAll.at_ (ks := msgF) msgF_ok hr 9 (by decide)
  have h4 : entsK.rep w S v d9 := h4
  have h3 : a.length = 9 := h3
  obtain ⟨A, c, es, rfl, rfl, e1, e2, e3⟩ := h4
  refine ⟨A, es.length, c, ?_, e1, e2, fun hn => ?_⟩
  · have h5 : ([y0, y1, y2, y3, y4, y5, y6, y7, y8, y9, y10, y11, y12, y13] : List Value)[9]? = (a ++ ([.slice A es.length c] ++ b))[9]? := by rw [h2]
    rw [List.getElem?_append_right (by omega), h3] at h5
    simpa using h5
  · obtain ⟨g, o, rfl, hg, hc⟩ := e3 hn
    refine ⟨g, o, rfl, hg, fun j i hj hi => ?_⟩
    obtain ⟨us, h6, h7⟩ := hc j es[j] (List.getElem?_eq_getElem hj)
    have h8 : us.length = 5 := entryK_ok.len h6
    exact ⟨us[i], h7 i _ (List.getElem?_eq_getElem (by omega))⟩
end Go.Proofs.YtnmcaifecfaoiaaGreat.Kd
