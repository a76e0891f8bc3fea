/- Package scupperref03's reader: replies and commands, as contracts of calls. Written by gentalk.py. | Package scupperref03's ToReply, ToCommand, as contracts of calls. Written by gentalk.py. | Package scupperref03's ToAsk, ToTold, as contracts of calls. Written by gentalk2.py. -/
import Derived.Test.YtlgbipmmpocepaaGreatGB
import Derived.Test.YtlgbipmmpocepaaGreatGF
import Derived.Test.YtlgbipmmpocepaaGreatKvB
import Derived.Test.YtlgbipmmpocepaaGreatGM
import Derived.Test.YtlgbipmmpocepaaGreatKvC
/-! Package scupperref03's reader: replies and commands, as contracts of calls. Written by gentalk.py. -/
namespace Go.Proofs.YtlgbipmmpocepaaGreat.Mo
open Go.RowKit By CoP Co

/-- It is read. -/
def pReply (s : St) : (Nat × Nat × Nat × Nat × Int × Int) × St :=
  let a0 := pNum s
  let a1 := pNum a0.2
  let a2 := pInt 20 a1.2
  let a3 := pNum a2.2
  let a4 := pNum a3.2
  let a5 := pNum a4.2
  ((a0.1, a1.1, a2.1, a3.1, wrap64 (a4.1 : Nat), wrap64 (a5.1 : Nat)), a5.2)
set_option maxHeartbeats 800000 in
theorem inReply_any (B g : Nat) (b : List UInt8) (s : St) (w : World) (h : InAt B g w b s) (hBw : B ≤ w.heap.size) :
    Calls Tryz.prog 35 #[.pointer (some ⟨g, 0, none⟩)] w (fun e w' => e = .returned (.agg #[.int .u64 ((pReply s).1.1 : Nat), .int .u64 ((pReply s).1.2.1 : Nat), .int .i64 ((pReply s).1.2.2.1 : Nat), .int .u64 ((pReply s).1.2.2.2.1 : Nat), .int .i64 (pReply s).1.2.2.2.2.1, .int .i64 (pReply s).1.2.2.2.2.2]) ∧ InAt B g w' b (pReply s).2 ∧ w.grownBy w' (some g)) := by
  have hg0 : g < w.heap.size := by obtain ⟨_, _, _, _, _, _, _, hrow, _⟩ := h; exact row_lt hrow
  have hBg : B ≤ g := by obtain ⟨_, _, _, _, hBg, _⟩ := h; exact hBg
  have hgX : g ≠ w.heap.size + 1 := by omega
  have hsX : (some (w.heap.size + 1) : Option Nat) ≠ some g := fun e => hgX (Option.some.inj e).symm
  have hsR : (some w.heap.size : Option Nat) ≠ some g := fun e => by have := Option.some.inj e; omega
  have hRX : w.heap.size ≠ w.heap.size + 1 := by omega
  have HIN0 := Lib.hid ((h.alloc (.cells #[.int .u64 0, .int .u64 0, .int .i64 0, .int .u64 0, .int .i64 0, .int .i64 0] 42)).alloc (.cells #[.int .u64 0, .int .u64 0, .int .i64 0, .int .u64 0, .int .i64 0, .int .i64 0] 42))
  have HX0 := Lib.hid (heap_alloc2_new w (.cells #[.int .u64 0, .int .u64 0, .int .i64 0, .int .u64 0, .int .i64 0, .int .i64 0] 42) (.cells #[.int .u64 0, .int .u64 0, .int .i64 0, .int .u64 0, .int .i64 0, .int .i64 0] 42))
  have HR0 := Lib.hid (heap_alloc2_old w (.cells #[.int .u64 0, .int .u64 0, .int .i64 0, .int .u64 0, .int .i64 0, .int .i64 0] 42) (.cells #[.int .u64 0, .int .u64 0, .int .i64 0, .int .u64 0, .int .i64 0, .int .i64 0] 42))
  have HG0 := Lib.hid (grown_of_below (((Below.refl w.heap.size w).alloc (Nat.le_refl _) (.cells #[.int .u64 0, .int .u64 0, .int .i64 0, .int .u64 0, .int .i64 0, .int .i64 0] 42)).alloc (((Below.refl w.heap.size w).alloc (Nat.le_refl _) (.cells #[.int .u64 0, .int .u64 0, .int .i64 0, .int .u64 0, .int .i64 0, .int .i64 0] 42)).size) (.cells #[.int .u64 0, .int .u64 0, .int .i64 0, .int .u64 0, .int .i64 0, .int .i64 0] 42)) (some g))
  clear h
  go_enter Tryz.func35, Tryz.ntmps35
  go_wp2_with fail
  refine (inNum_any B g b s _ HIN0.out).mono ?_
  obtain ⟨_, hrin0, _⟩ := HIN0.out.row
  rintro e w1 ⟨rfl, hin1, hgr1⟩
  have hx0 := pNum_lt s
  obtain ⟨p0, hp0⟩ : ∃ p, pNum s = p := ⟨_, rfl⟩
  have HP0 := Lib.hid hp0
  simp only [hp0] at hin1 hx0 ⊢
  obtain ⟨s1, hs1⟩ : ∃ s', s' = p0.2 := ⟨_, rfl⟩
  rw [← hs1] at hin1
  have HS1 := Lib.hid hs1
  clear hs1 hp0
  have hX1 := (hgr1.block (w.heap.size + 1) (row_lt HX0.out) hsX).trans HX0.out
  have hR1 := (hgr1.block w.heap.size (row_lt HR0.out) hsR).trans HR0.out
  have hk10 : w1.cell? ⟨w.heap.size + 1, 0, none⟩ = some (.int .u64 0) := by rw [cell_of_row w1 (w.heap.size + 1) 0 _ _ _ hX1]; rfl
  have hf1 : w1.frozen? ⟨w.heap.size + 1, 0, none⟩ = false := frozen_of_row w1 (w.heap.size + 1) 0 _ _ hX1
  have hXX1 : (w1.setCell ⟨w.heap.size + 1, 0, none⟩ (.int .u64 (p0.1 : Nat))).heap[w.heap.size + 1]? = some (.cells #[.int .u64 (p0.1 : Nat), .int .u64 0, .int .i64 0, .int .u64 0, .int .i64 0, .int .i64 0] 42 (0, 0)) := by
    have h := heap_setCell_same w1 (w.heap.size + 1) 0 _ _ (.int .u64 (p0.1 : Nat)) hX1
    simpa using h
  have HX1 := Lib.hid hXX1
  have HR1 := Lib.hid ((heap_setCell_other w1 ⟨w.heap.size + 1, 0, none⟩ w.heap.size (.int .u64 (p0.1 : Nat)) hRX).trans hR1)
  have HIN1 := Lib.hid (hin1.set ⟨w.heap.size + 1, 0, none⟩ (Ne.symm hgX) (by show B ≤ w.heap.size + 1; omega) (.int .u64 (p0.1 : Nat)))
  have HG1 := Lib.hid (grown_set_new (grown_trans HG0.out hgr1) ⟨w.heap.size + 1, 0, none⟩ (by show w.heap.size ≤ w.heap.size + 1; omega) (.int .u64 (p0.1 : Nat)))
  clear hXX1 hin1 hgr1 hX1 hR1 hrin0
  go_wp2_with fail
  refine (inNum_any B g b s1 _ HIN1.out).mono ?_
  obtain ⟨_, hrin1, _⟩ := HIN1.out.row
  rintro e w2 ⟨rfl, hin2, hgr2⟩
  have hx1 := pNum_lt s1
  obtain ⟨p1, hp1⟩ : ∃ p, pNum s1 = p := ⟨_, rfl⟩
  have HP1 := Lib.hid hp1
  simp only [hp1] at hin2 hx1 ⊢
  obtain ⟨s2, hs2⟩ : ∃ s', s' = p1.2 := ⟨_, rfl⟩
  rw [← hs2] at hin2
  have HS2 := Lib.hid hs2
  clear hs2 hp1
  have hX2 := (hgr2.block (w.heap.size + 1) (row_lt HX1.out) hsX).trans HX1.out
  have hR2 := (hgr2.block w.heap.size (row_lt HR1.out) hsR).trans HR1.out
  have hk21 : w2.cell? ⟨w.heap.size + 1, 1, none⟩ = some (.int .u64 0) := by rw [cell_of_row w2 (w.heap.size + 1) 1 _ _ _ hX2]; rfl
  have hf2 : w2.frozen? ⟨w.heap.size + 1, 1, none⟩ = false := frozen_of_row w2 (w.heap.size + 1) 1 _ _ hX2
  have hXX2 : (w2.setCell ⟨w.heap.size + 1, 1, none⟩ (.int .u64 (p1.1 : Nat))).heap[w.heap.size + 1]? = some (.cells #[.int .u64 (p0.1 : Nat), .int .u64 (p1.1 : Nat), .int .i64 0, .int .u64 0, .int .i64 0, .int .i64 0] 42 (0, 0)) := by
    have h := heap_setCell_same w2 (w.heap.size + 1) 1 _ _ (.int .u64 (p1.1 : Nat)) hX2
    simpa using h
  have HX2 := Lib.hid hXX2
  have HR2 := Lib.hid ((heap_setCell_other w2 ⟨w.heap.size + 1, 1, none⟩ w.heap.size (.int .u64 (p1.1 : Nat)) hRX).trans hR2)
  have HIN2 := Lib.hid (hin2.set ⟨w.heap.size + 1, 1, none⟩ (Ne.symm hgX) (by show B ≤ w.heap.size + 1; omega) (.int .u64 (p1.1 : Nat)))
  have HG2 := Lib.hid (grown_set_new (grown_trans HG1.out hgr2) ⟨w.heap.size + 1, 1, none⟩ (by show w.heap.size ≤ w.heap.size + 1; omega) (.int .u64 (p1.1 : Nat)))
  clear hXX2 hin2 hgr2 hX2 hR2 hrin1
  go_wp2_with fail
  refine (inInt_any B g b s2 20 (by decide) _ HIN2.out).mono ?_
  obtain ⟨_, hrin2, _⟩ := HIN2.out.row
  rintro e w3 ⟨rfl, hin3, hgr3⟩
  have hx2 := pInt_le 20 s2
  obtain ⟨p2, hp2⟩ : ∃ p, pInt 20 s2 = p := ⟨_, rfl⟩
  have HP2 := Lib.hid hp2
  simp only [hp2] at hin3 hx2 ⊢
  obtain ⟨s3, hs3⟩ : ∃ s', s' = p2.2 := ⟨_, rfl⟩
  rw [← hs3] at hin3
  have HS3 := Lib.hid hs3
  clear hs3 hp2
  have hX3 := (hgr3.block (w.heap.size + 1) (row_lt HX2.out) hsX).trans HX2.out
  have hR3 := (hgr3.block w.heap.size (row_lt HR2.out) hsR).trans HR2.out
  have hk32 : w3.cell? ⟨w.heap.size + 1, 2, none⟩ = some (.int .i64 0) := by rw [cell_of_row w3 (w.heap.size + 1) 2 _ _ _ hX3]; rfl
  have hf3 : w3.frozen? ⟨w.heap.size + 1, 2, none⟩ = false := frozen_of_row w3 (w.heap.size + 1) 2 _ _ hX3
  have hXX3 : (w3.setCell ⟨w.heap.size + 1, 2, none⟩ (.int .i64 (p2.1 : Nat))).heap[w.heap.size + 1]? = some (.cells #[.int .u64 (p0.1 : Nat), .int .u64 (p1.1 : Nat), .int .i64 (p2.1 : Nat), .int .u64 0, .int .i64 0, .int .i64 0] 42 (0, 0)) := by
    have h := heap_setCell_same w3 (w.heap.size + 1) 2 _ _ (.int .i64 (p2.1 : Nat)) hX3
    simpa using h
  have HX3 := Lib.hid hXX3
  have HR3 := Lib.hid ((heap_setCell_other w3 ⟨w.heap.size + 1, 2, none⟩ w.heap.size (.int .i64 (p2.1 : Nat)) hRX).trans hR3)
  have HIN3 := Lib.hid (hin3.set ⟨w.heap.size + 1, 2, none⟩ (Ne.symm hgX) (by show B ≤ w.heap.size + 1; omega) (.int .i64 (p2.1 : Nat)))
  have HG3 := Lib.hid (grown_set_new (grown_trans HG2.out hgr3) ⟨w.heap.size + 1, 2, none⟩ (by show w.heap.size ≤ w.heap.size + 1; omega) (.int .i64 (p2.1 : Nat)))
  clear hXX3 hin3 hgr3 hX3 hR3 hrin2
  go_wp2_with fail
  refine (inNum_any B g b s3 _ HIN3.out).mono ?_
  obtain ⟨_, hrin3, _⟩ := HIN3.out.row
  rintro e w4 ⟨rfl, hin4, hgr4⟩
  have hx3 := pNum_lt s3
  obtain ⟨p3, hp3⟩ : ∃ p, pNum s3 = p := ⟨_, rfl⟩
  have HP3 := Lib.hid hp3
  simp only [hp3] at hin4 hx3 ⊢
  obtain ⟨s4, hs4⟩ : ∃ s', s' = p3.2 := ⟨_, rfl⟩
  rw [← hs4] at hin4
  have HS4 := Lib.hid hs4
  clear hs4 hp3
  have hX4 := (hgr4.block (w.heap.size + 1) (row_lt HX3.out) hsX).trans HX3.out
  have hR4 := (hgr4.block w.heap.size (row_lt HR3.out) hsR).trans HR3.out
  have hk43 : w4.cell? ⟨w.heap.size + 1, 3, none⟩ = some (.int .u64 0) := by rw [cell_of_row w4 (w.heap.size + 1) 3 _ _ _ hX4]; rfl
  have hf4 : w4.frozen? ⟨w.heap.size + 1, 3, none⟩ = false := frozen_of_row w4 (w.heap.size + 1) 3 _ _ hX4
  have hXX4 : (w4.setCell ⟨w.heap.size + 1, 3, none⟩ (.int .u64 (p3.1 : Nat))).heap[w.heap.size + 1]? = some (.cells #[.int .u64 (p0.1 : Nat), .int .u64 (p1.1 : Nat), .int .i64 (p2.1 : Nat), .int .u64 (p3.1 : Nat), .int .i64 0, .int .i64 0] 42 (0, 0)) := by
    have h := heap_setCell_same w4 (w.heap.size + 1) 3 _ _ (.int .u64 (p3.1 : Nat)) hX4
    simpa using h
  have HX4 := Lib.hid hXX4
  have HR4 := Lib.hid ((heap_setCell_other w4 ⟨w.heap.size + 1, 3, none⟩ w.heap.size (.int .u64 (p3.1 : Nat)) hRX).trans hR4)
  have HIN4 := Lib.hid (hin4.set ⟨w.heap.size + 1, 3, none⟩ (Ne.symm hgX) (by show B ≤ w.heap.size + 1; omega) (.int .u64 (p3.1 : Nat)))
  have HG4 := Lib.hid (grown_set_new (grown_trans HG3.out hgr4) ⟨w.heap.size + 1, 3, none⟩ (by show w.heap.size ≤ w.heap.size + 1; omega) (.int .u64 (p3.1 : Nat)))
  clear hXX4 hin4 hgr4 hX4 hR4 hrin3
  go_wp2_with fail
  refine (inNum_any B g b s4 _ HIN4.out).mono ?_
  obtain ⟨_, hrin4, _⟩ := HIN4.out.row
  rintro e w5 ⟨rfl, hin5, hgr5⟩
  have hx4 := pNum_lt s4
  obtain ⟨p4, hp4⟩ : ∃ p, pNum s4 = p := ⟨_, rfl⟩
  have HP4 := Lib.hid hp4
  simp only [hp4] at hin5 hx4 ⊢
  obtain ⟨s5, hs5⟩ : ∃ s', s' = p4.2 := ⟨_, rfl⟩
  rw [← hs5] at hin5
  have HS5 := Lib.hid hs5
  clear hs5 hp4
  have hX5 := (hgr5.block (w.heap.size + 1) (row_lt HX4.out) hsX).trans HX4.out
  have hR5 := (hgr5.block w.heap.size (row_lt HR4.out) hsR).trans HR4.out
  have hk54 : w5.cell? ⟨w.heap.size + 1, 4, none⟩ = some (.int .i64 0) := by rw [cell_of_row w5 (w.heap.size + 1) 4 _ _ _ hX5]; rfl
  have hf5 : w5.frozen? ⟨w.heap.size + 1, 4, none⟩ = false := frozen_of_row w5 (w.heap.size + 1) 4 _ _ hX5
  have hXX5 : (w5.setCell ⟨w.heap.size + 1, 4, none⟩ (.int .i64 (wrap64 (p4.1 : Nat)))).heap[w.heap.size + 1]? = some (.cells #[.int .u64 (p0.1 : Nat), .int .u64 (p1.1 : Nat), .int .i64 (p2.1 : Nat), .int .u64 (p3.1 : Nat), .int .i64 (wrap64 (p4.1 : Nat)), .int .i64 0] 42 (0, 0)) := by
    have h := heap_setCell_same w5 (w.heap.size + 1) 4 _ _ (.int .i64 (wrap64 (p4.1 : Nat))) hX5
    simpa using h
  have HX5 := Lib.hid hXX5
  have HR5 := Lib.hid ((heap_setCell_other w5 ⟨w.heap.size + 1, 4, none⟩ w.heap.size (.int .i64 (wrap64 (p4.1 : Nat))) hRX).trans hR5)
  have HIN5 := Lib.hid (hin5.set ⟨w.heap.size + 1, 4, none⟩ (Ne.symm hgX) (by show B ≤ w.heap.size + 1; omega) (.int .i64 (wrap64 (p4.1 : Nat))))
  have HG5 := Lib.hid (grown_set_new (grown_trans HG4.out hgr5) ⟨w.heap.size + 1, 4, none⟩ (by show w.heap.size ≤ w.heap.size + 1; omega) (.int .i64 (wrap64 (p4.1 : Nat))))
  clear hXX5 hin5 hgr5 hX5 hR5 hrin4
  go_wp2_with fail
  refine (inNum_any B g b s5 _ HIN5.out).mono ?_
  obtain ⟨_, hrin5, _⟩ := HIN5.out.row
  rintro e w6 ⟨rfl, hin6, hgr6⟩
  have hx5 := pNum_lt s5
  obtain ⟨p5, hp5⟩ : ∃ p, pNum s5 = p := ⟨_, rfl⟩
  have HP5 := Lib.hid hp5
  simp only [hp5] at hin6 hx5 ⊢
  obtain ⟨s6, hs6⟩ : ∃ s', s' = p5.2 := ⟨_, rfl⟩
  rw [← hs6] at hin6
  have HS6 := Lib.hid hs6
  clear hs6 hp5
  have hX6 := (hgr6.block (w.heap.size + 1) (row_lt HX5.out) hsX).trans HX5.out
  have hR6 := (hgr6.block w.heap.size (row_lt HR5.out) hsR).trans HR5.out
  have hk60 : w6.cell? ⟨w.heap.size + 1, 0, none⟩ = some (.int .u64 (p0.1 : Nat)) := by rw [cell_of_row w6 (w.heap.size + 1) 0 _ _ _ hX6]; rfl
  have hk61 : w6.cell? ⟨w.heap.size + 1, 1, none⟩ = some (.int .u64 (p1.1 : Nat)) := by rw [cell_of_row w6 (w.heap.size + 1) 1 _ _ _ hX6]; rfl
  have hk62 : w6.cell? ⟨w.heap.size + 1, 2, none⟩ = some (.int .i64 (p2.1 : Nat)) := by rw [cell_of_row w6 (w.heap.size + 1) 2 _ _ _ hX6]; rfl
  have hk63 : w6.cell? ⟨w.heap.size + 1, 3, none⟩ = some (.int .u64 (p3.1 : Nat)) := by rw [cell_of_row w6 (w.heap.size + 1) 3 _ _ _ hX6]; rfl
  have hk64 : w6.cell? ⟨w.heap.size + 1, 4, none⟩ = some (.int .i64 (wrap64 (p4.1 : Nat))) := by rw [cell_of_row w6 (w.heap.size + 1) 4 _ _ _ hX6]; rfl
  have hk65 : w6.cell? ⟨w.heap.size + 1, 5, none⟩ = some (.int .i64 0) := by rw [cell_of_row w6 (w.heap.size + 1) 5 _ _ _ hX6]; rfl
  have hf6 : w6.frozen? ⟨w.heap.size + 1, 5, none⟩ = false := frozen_of_row w6 (w.heap.size + 1) 5 _ _ hX6
  have hq0 : w6.cell? ⟨w.heap.size, 0, none⟩ = some (.int .u64 0) := by rw [cell_of_row w6 w.heap.size 0 _ _ _ hR6]; rfl
  have hz0 : w6.frozen? ⟨w.heap.size, 0, none⟩ = false := frozen_of_row w6 w.heap.size 0 _ _ hR6
  have hq1 : w6.cell? ⟨w.heap.size, 1, none⟩ = some (.int .u64 0) := by rw [cell_of_row w6 w.heap.size 1 _ _ _ hR6]; rfl
  have hz1 : w6.frozen? ⟨w.heap.size, 1, none⟩ = false := frozen_of_row w6 w.heap.size 1 _ _ hR6
  have hq2 : w6.cell? ⟨w.heap.size, 2, none⟩ = some (.int .i64 0) := by rw [cell_of_row w6 w.heap.size 2 _ _ _ hR6]; rfl
  have hz2 : w6.frozen? ⟨w.heap.size, 2, none⟩ = false := frozen_of_row w6 w.heap.size 2 _ _ hR6
  have hq3 : w6.cell? ⟨w.heap.size, 3, none⟩ = some (.int .u64 0) := by rw [cell_of_row w6 w.heap.size 3 _ _ _ hR6]; rfl
  have hz3 : w6.frozen? ⟨w.heap.size, 3, none⟩ = false := frozen_of_row w6 w.heap.size 3 _ _ hR6
  have hq4 : w6.cell? ⟨w.heap.size, 4, none⟩ = some (.int .i64 0) := by rw [cell_of_row w6 w.heap.size 4 _ _ _ hR6]; rfl
  have hz4 : w6.frozen? ⟨w.heap.size, 4, none⟩ = false := frozen_of_row w6 w.heap.size 4 _ _ hR6
  have hq5 : w6.cell? ⟨w.heap.size, 5, none⟩ = some (.int .i64 0) := by rw [cell_of_row w6 w.heap.size 5 _ _ _ hR6]; rfl
  have hz5 : w6.frozen? ⟨w.heap.size, 5, none⟩ = false := frozen_of_row w6 w.heap.size 5 _ _ hR6
  have hXX6 : (w6.setCell ⟨w.heap.size + 1, 5, none⟩ (.int .i64 (wrap64 (p5.1 : Nat)))).heap[w.heap.size + 1]? = some (.cells #[.int .u64 (p0.1 : Nat), .int .u64 (p1.1 : Nat), .int .i64 (p2.1 : Nat), .int .u64 (p3.1 : Nat), .int .i64 (wrap64 (p4.1 : Nat)), .int .i64 (wrap64 (p5.1 : Nat))] 42 (0, 0)) := by
    have h := heap_setCell_same w6 (w.heap.size + 1) 5 _ _ (.int .i64 (wrap64 (p5.1 : Nat))) hX6
    simpa using h
  have HX6 := Lib.hid hXX6
  have HR6 := Lib.hid ((heap_setCell_other w6 ⟨w.heap.size + 1, 5, none⟩ w.heap.size (.int .i64 (wrap64 (p5.1 : Nat))) hRX).trans hR6)
  have HIN6 := Lib.hid (hin6.set ⟨w.heap.size + 1, 5, none⟩ (Ne.symm hgX) (by show B ≤ w.heap.size + 1; omega) (.int .i64 (wrap64 (p5.1 : Nat))))
  have HG6 := Lib.hid (grown_set_new (grown_trans HG5.out hgr6) ⟨w.heap.size + 1, 5, none⟩ (by show w.heap.size ≤ w.heap.size + 1; omega) (.int .i64 (wrap64 (p5.1 : Nat))))
  clear hXX6 hin6 hgr6 hX6 hR6 hrin5
  go_wp2
  have hpe : pReply s = ((p0.1, p1.1, p2.1, p3.1, wrap64 (p4.1 : Nat), wrap64 (p5.1 : Nat)), s6) := by
    unfold pReply
    simp only [HP0.out, ← HS1.out, HP1.out, ← HS2.out, HP2.out, ← HS3.out, HP3.out, ← HS4.out, HP4.out, ← HS5.out, HP5.out, ← HS6.out]
  rw [hpe]
  have hRg : w.heap.size ≠ g := by omega
  have r0 := heap_setCell_same _ w.heap.size 0 _ _ (.int .u64 (p0.1 : Nat)) HR6.out
  have r1 := heap_setCell_same _ w.heap.size 1 _ _ (.int .u64 (p1.1 : Nat)) r0
  have r2 := heap_setCell_same _ w.heap.size 2 _ _ (.int .i64 (p2.1 : Nat)) r1
  have r3 := heap_setCell_same _ w.heap.size 3 _ _ (.int .u64 (p3.1 : Nat)) r2
  have r4 := heap_setCell_same _ w.heap.size 4 _ _ (.int .i64 (wrap64 (p4.1 : Nat))) r3
  have r5 := heap_setCell_same _ w.heap.size 5 _ _ (.int .i64 (wrap64 (p5.1 : Nat))) r4
  have hin := ((((((HIN6.out.set ⟨w.heap.size, 0, none⟩ hRg hBw (.int .u64 (p0.1 : Nat))).set ⟨w.heap.size, 1, none⟩ hRg hBw (.int .u64 (p1.1 : Nat))).set ⟨w.heap.size, 2, none⟩ hRg hBw (.int .i64 (p2.1 : Nat))).set ⟨w.heap.size, 3, none⟩ hRg hBw (.int .u64 (p3.1 : Nat))).set ⟨w.heap.size, 4, none⟩ hRg hBw (.int .i64 (wrap64 (p4.1 : Nat)))).set ⟨w.heap.size, 5, none⟩ hRg hBw (.int .i64 (wrap64 (p5.1 : Nat))))
  have hgr := (grown_set_new (grown_set_new (grown_set_new (grown_set_new (grown_set_new (grown_set_new HG6.out ⟨w.heap.size, 0, none⟩ (Nat.le_refl _) (.int .u64 (p0.1 : Nat))) ⟨w.heap.size, 1, none⟩ (Nat.le_refl _) (.int .u64 (p1.1 : Nat))) ⟨w.heap.size, 2, none⟩ (Nat.le_refl _) (.int .i64 (p2.1 : Nat))) ⟨w.heap.size, 3, none⟩ (Nat.le_refl _) (.int .u64 (p3.1 : Nat))) ⟨w.heap.size, 4, none⟩ (Nat.le_refl _) (.int .i64 (wrap64 (p4.1 : Nat)))) ⟨w.heap.size, 5, none⟩ (Nat.le_refl _) (.int .i64 (wrap64 (p5.1 : Nat))))
  have hrow : _ = some (Obj.cells #[.int .u64 (p0.1 : Nat), .int .u64 (p1.1 : Nat), .int .i64 (p2.1 : Nat), .int .u64 (p3.1 : Nat), .int .i64 (wrap64 (p4.1 : Nat)), .int .i64 (wrap64 (p5.1 : Nat))] 42 (0, 0)) := r5
  exact bodyPost_ret (v := .agg #[.int .u64 (p0.1 : Nat), .int .u64 (p1.1 : Nat), .int .i64 (p2.1 : Nat), .int .u64 (p3.1 : Nat), .int .i64 (wrap64 (p4.1 : Nat)), .int .i64 (wrap64 (p5.1 : Nat))]) (results_cell_row rfl _ _ w.heap.size 42 #[.int .u64 (p0.1 : Nat), .int .u64 (p1.1 : Nat), .int .i64 (p2.1 : Nat), .int .u64 (p3.1 : Nat), .int .i64 (wrap64 (p4.1 : Nat)), .int .i64 (wrap64 (p5.1 : Nat))] (0, 0) _ rfl hrow Tryz.underlying42 rfl (by kernel_rfl)) rfl ⟨rfl, hin, hgr⟩
/-- It is read. -/
def pCommand (s : St) : (Nat × Nat × Nat × List UInt8 × Int × Int × Nat) × St :=
  let a0 := pNum s
  let a1 := pNum a0.2
  let a2 := pInt 5 a1.2
  let a3 := pData a2.2
  let a4 := pNum a3.2
  let a5 := pNum a4.2
  let a6 := pNum a5.2
  ((a0.1, a1.1, a2.1, a3.1, wrap64 (a4.1 : Nat), wrap64 (a5.1 : Nat), a6.1), a6.2)
set_option maxHeartbeats 800000 in
theorem inCommand_any (B g : Nat) (b : List UInt8) (s : St) (w : World) (h : InAt B g w b s) (hBw : B ≤ w.heap.size) :
    Calls Tryz.prog 31 #[.pointer (some ⟨g, 0, none⟩)] w (fun e w' => e = .returned (.agg #[.int .u64 ((pCommand s).1.1 : Nat), .int .u64 ((pCommand s).1.2.1 : Nat), .int .i64 ((pCommand s).1.2.2.1 : Nat), .string (str (pCommand s).1.2.2.2.1), .int .i64 (pCommand s).1.2.2.2.2.1, .int .i64 (pCommand s).1.2.2.2.2.2.1, .int .u64 ((pCommand s).1.2.2.2.2.2.2 : Nat)]) ∧ InAt B g w' b (pCommand s).2 ∧ w.grownBy w' (some g)) := by
  have hg0 : g < w.heap.size := by obtain ⟨_, _, _, _, _, _, _, hrow, _⟩ := h; exact row_lt hrow
  have hBg : B ≤ g := by obtain ⟨_, _, _, _, hBg, _⟩ := h; exact hBg
  have hgX : g ≠ w.heap.size + 1 := by omega
  have hsX : (some (w.heap.size + 1) : Option Nat) ≠ some g := fun e => hgX (Option.some.inj e).symm
  have hsR : (some w.heap.size : Option Nat) ≠ some g := fun e => by have := Option.some.inj e; omega
  have hRX : w.heap.size ≠ w.heap.size + 1 := by omega
  have HIN0 := Lib.hid ((h.alloc (.cells #[.int .u64 0, .int .u64 0, .int .i64 0, .string ⟨#[]⟩, .int .i64 0, .int .i64 0, .int .u64 0] 36)).alloc (.cells #[.int .u64 0, .int .u64 0, .int .i64 0, .string ⟨#[]⟩, .int .i64 0, .int .i64 0, .int .u64 0] 36))
  have HX0 := Lib.hid (heap_alloc2_new w (.cells #[.int .u64 0, .int .u64 0, .int .i64 0, .string ⟨#[]⟩, .int .i64 0, .int .i64 0, .int .u64 0] 36) (.cells #[.int .u64 0, .int .u64 0, .int .i64 0, .string ⟨#[]⟩, .int .i64 0, .int .i64 0, .int .u64 0] 36))
  have HR0 := Lib.hid (heap_alloc2_old w (.cells #[.int .u64 0, .int .u64 0, .int .i64 0, .string ⟨#[]⟩, .int .i64 0, .int .i64 0, .int .u64 0] 36) (.cells #[.int .u64 0, .int .u64 0, .int .i64 0, .string ⟨#[]⟩, .int .i64 0, .int .i64 0, .int .u64 0] 36))
  have HG0 := Lib.hid (grown_of_below (((Below.refl w.heap.size w).alloc (Nat.le_refl _) (.cells #[.int .u64 0, .int .u64 0, .int .i64 0, .string ⟨#[]⟩, .int .i64 0, .int .i64 0, .int .u64 0] 36)).alloc (((Below.refl w.heap.size w).alloc (Nat.le_refl _) (.cells #[.int .u64 0, .int .u64 0, .int .i64 0, .string ⟨#[]⟩, .int .i64 0, .int .i64 0, .int .u64 0] 36)).size) (.cells #[.int .u64 0, .int .u64 0, .int .i64 0, .string ⟨#[]⟩, .int .i64 0, .int .i64 0, .int .u64 0] 36)) (some g))
  clear h
  go_enter Tryz.func31, Tryz.ntmps31
  go_wp2_with fail
  refine (inNum_any B g b s _ HIN0.out).mono ?_
  obtain ⟨_, hrin0, _⟩ := HIN0.out.row
  rintro e w1 ⟨rfl, hin1, hgr1⟩
  have hx0 := pNum_lt s
  obtain ⟨p0, hp0⟩ : ∃ p, pNum s = p := ⟨_, rfl⟩
  have HP0 := Lib.hid hp0
  simp only [hp0] at hin1 hx0 ⊢
  obtain ⟨s1, hs1⟩ : ∃ s', s' = p0.2 := ⟨_, rfl⟩
  rw [← hs1] at hin1
  have HS1 := Lib.hid hs1
  clear hs1 hp0
  have hX1 := (hgr1.block (w.heap.size + 1) (row_lt HX0.out) hsX).trans HX0.out
  have hR1 := (hgr1.block w.heap.size (row_lt HR0.out) hsR).trans HR0.out
  have hk10 : w1.cell? ⟨w.heap.size + 1, 0, none⟩ = some (.int .u64 0) := by rw [cell_of_row w1 (w.heap.size + 1) 0 _ _ _ hX1]; rfl
  have hf1 : w1.frozen? ⟨w.heap.size + 1, 0, none⟩ = false := frozen_of_row w1 (w.heap.size + 1) 0 _ _ hX1
  have hXX1 : (w1.setCell ⟨w.heap.size + 1, 0, none⟩ (.int .u64 (p0.1 : Nat))).heap[w.heap.size + 1]? = some (.cells #[.int .u64 (p0.1 : Nat), .int .u64 0, .int .i64 0, .string ⟨#[]⟩, .int .i64 0, .int .i64 0, .int .u64 0] 36 (0, 0)) := by
    have h := heap_setCell_same w1 (w.heap.size + 1) 0 _ _ (.int .u64 (p0.1 : Nat)) hX1
    simpa using h
  have HX1 := Lib.hid hXX1
  have HR1 := Lib.hid ((heap_setCell_other w1 ⟨w.heap.size + 1, 0, none⟩ w.heap.size (.int .u64 (p0.1 : Nat)) hRX).trans hR1)
  have HIN1 := Lib.hid (hin1.set ⟨w.heap.size + 1, 0, none⟩ (Ne.symm hgX) (by show B ≤ w.heap.size + 1; omega) (.int .u64 (p0.1 : Nat)))
  have HG1 := Lib.hid (grown_set_new (grown_trans HG0.out hgr1) ⟨w.heap.size + 1, 0, none⟩ (by show w.heap.size ≤ w.heap.size + 1; omega) (.int .u64 (p0.1 : Nat)))
  clear hXX1 hin1 hgr1 hX1 hR1 hrin0
  go_wp2_with fail
  refine (inNum_any B g b s1 _ HIN1.out).mono ?_
  obtain ⟨_, hrin1, _⟩ := HIN1.out.row
  rintro e w2 ⟨rfl, hin2, hgr2⟩
  have hx1 := pNum_lt s1
  obtain ⟨p1, hp1⟩ : ∃ p, pNum s1 = p := ⟨_, rfl⟩
  have HP1 := Lib.hid hp1
  simp only [hp1] at hin2 hx1 ⊢
  obtain ⟨s2, hs2⟩ : ∃ s', s' = p1.2 := ⟨_, rfl⟩
  rw [← hs2] at hin2
  have HS2 := Lib.hid hs2
  clear hs2 hp1
  have hX2 := (hgr2.block (w.heap.size + 1) (row_lt HX1.out) hsX).trans HX1.out
  have hR2 := (hgr2.block w.heap.size (row_lt HR1.out) hsR).trans HR1.out
  have hk21 : w2.cell? ⟨w.heap.size + 1, 1, none⟩ = some (.int .u64 0) := by rw [cell_of_row w2 (w.heap.size + 1) 1 _ _ _ hX2]; rfl
  have hf2 : w2.frozen? ⟨w.heap.size + 1, 1, none⟩ = false := frozen_of_row w2 (w.heap.size + 1) 1 _ _ hX2
  have hXX2 : (w2.setCell ⟨w.heap.size + 1, 1, none⟩ (.int .u64 (p1.1 : Nat))).heap[w.heap.size + 1]? = some (.cells #[.int .u64 (p0.1 : Nat), .int .u64 (p1.1 : Nat), .int .i64 0, .string ⟨#[]⟩, .int .i64 0, .int .i64 0, .int .u64 0] 36 (0, 0)) := by
    have h := heap_setCell_same w2 (w.heap.size + 1) 1 _ _ (.int .u64 (p1.1 : Nat)) hX2
    simpa using h
  have HX2 := Lib.hid hXX2
  have HR2 := Lib.hid ((heap_setCell_other w2 ⟨w.heap.size + 1, 1, none⟩ w.heap.size (.int .u64 (p1.1 : Nat)) hRX).trans hR2)
  have HIN2 := Lib.hid (hin2.set ⟨w.heap.size + 1, 1, none⟩ (Ne.symm hgX) (by show B ≤ w.heap.size + 1; omega) (.int .u64 (p1.1 : Nat)))
  have HG2 := Lib.hid (grown_set_new (grown_trans HG1.out hgr2) ⟨w.heap.size + 1, 1, none⟩ (by show w.heap.size ≤ w.heap.size + 1; omega) (.int .u64 (p1.1 : Nat)))
  clear hXX2 hin2 hgr2 hX2 hR2 hrin1
  go_wp2_with fail
  refine (inInt_any B g b s2 5 (by decide) _ HIN2.out).mono ?_
  obtain ⟨_, hrin2, _⟩ := HIN2.out.row
  rintro e w3 ⟨rfl, hin3, hgr3⟩
  have hx2 := pInt_le 5 s2
  obtain ⟨p2, hp2⟩ : ∃ p, pInt 5 s2 = p := ⟨_, rfl⟩
  have HP2 := Lib.hid hp2
  simp only [hp2] at hin3 hx2 ⊢
  obtain ⟨s3, hs3⟩ : ∃ s', s' = p2.2 := ⟨_, rfl⟩
  rw [← hs3] at hin3
  have HS3 := Lib.hid hs3
  clear hs3 hp2
  have hX3 := (hgr3.block (w.heap.size + 1) (row_lt HX2.out) hsX).trans HX2.out
  have hR3 := (hgr3.block w.heap.size (row_lt HR2.out) hsR).trans HR2.out
  have hk32 : w3.cell? ⟨w.heap.size + 1, 2, none⟩ = some (.int .i64 0) := by rw [cell_of_row w3 (w.heap.size + 1) 2 _ _ _ hX3]; rfl
  have hf3 : w3.frozen? ⟨w.heap.size + 1, 2, none⟩ = false := frozen_of_row w3 (w.heap.size + 1) 2 _ _ hX3
  have hXX3 : (w3.setCell ⟨w.heap.size + 1, 2, none⟩ (.int .i64 (p2.1 : Nat))).heap[w.heap.size + 1]? = some (.cells #[.int .u64 (p0.1 : Nat), .int .u64 (p1.1 : Nat), .int .i64 (p2.1 : Nat), .string ⟨#[]⟩, .int .i64 0, .int .i64 0, .int .u64 0] 36 (0, 0)) := by
    have h := heap_setCell_same w3 (w.heap.size + 1) 2 _ _ (.int .i64 (p2.1 : Nat)) hX3
    simpa using h
  have HX3 := Lib.hid hXX3
  have HR3 := Lib.hid ((heap_setCell_other w3 ⟨w.heap.size + 1, 2, none⟩ w.heap.size (.int .i64 (p2.1 : Nat)) hRX).trans hR3)
  have HIN3 := Lib.hid (hin3.set ⟨w.heap.size + 1, 2, none⟩ (Ne.symm hgX) (by show B ≤ w.heap.size + 1; omega) (.int .i64 (p2.1 : Nat)))
  have HG3 := Lib.hid (grown_set_new (grown_trans HG2.out hgr3) ⟨w.heap.size + 1, 2, none⟩ (by show w.heap.size ≤ w.heap.size + 1; omega) (.int .i64 (p2.1 : Nat)))
  clear hXX3 hin3 hgr3 hX3 hR3 hrin2
  go_wp2_with fail
  refine (inData_any B g b s3 _ HIN3.out (by have := HG3.out.size; omega)).mono ?_
  obtain ⟨_, hrin3, _⟩ := HIN3.out.row
  rintro e w4 ⟨v3, rfl, ho3, hin4, hgr4⟩
  obtain ⟨A3, c3, rfl, _, _, _, hl3, _⟩ := ho3.form
  clear ho3
  obtain ⟨p3, hp3⟩ : ∃ p, pData s3 = p := ⟨_, rfl⟩
  rw [hp3] at hin4 hl3
  simp only [hp3]
  have HP3 := Lib.hid hp3
  have ht3 := run_text w4 (n := p3.1.length) c3 rfl hl3
  clear hl3
  obtain ⟨s4, hs4⟩ : ∃ s', s' = p3.2 := ⟨_, rfl⟩
  rw [← hs4] at hin4
  have HS4 := Lib.hid hs4
  clear hs4 hp3
  have hX4 := (hgr4.block (w.heap.size + 1) (row_lt HX3.out) hsX).trans HX3.out
  have hR4 := (hgr4.block w.heap.size (row_lt HR3.out) hsR).trans HR3.out
  have hk43 : w4.cell? ⟨w.heap.size + 1, 3, none⟩ = some (.string ⟨#[]⟩) := by rw [cell_of_row w4 (w.heap.size + 1) 3 _ _ _ hX4]; rfl
  have hf4 : w4.frozen? ⟨w.heap.size + 1, 3, none⟩ = false := frozen_of_row w4 (w.heap.size + 1) 3 _ _ hX4
  have hXX4 : (w4.setCell ⟨w.heap.size + 1, 3, none⟩ (.string (str p3.1))).heap[w.heap.size + 1]? = some (.cells #[.int .u64 (p0.1 : Nat), .int .u64 (p1.1 : Nat), .int .i64 (p2.1 : Nat), .string (str p3.1), .int .i64 0, .int .i64 0, .int .u64 0] 36 (0, 0)) := by
    have h := heap_setCell_same w4 (w.heap.size + 1) 3 _ _ (.string (str p3.1)) hX4
    simpa using h
  have HX4 := Lib.hid hXX4
  have HR4 := Lib.hid ((heap_setCell_other w4 ⟨w.heap.size + 1, 3, none⟩ w.heap.size (.string (str p3.1)) hRX).trans hR4)
  have HIN4 := Lib.hid (hin4.set ⟨w.heap.size + 1, 3, none⟩ (Ne.symm hgX) (by show B ≤ w.heap.size + 1; omega) (.string (str p3.1)))
  have HG4 := Lib.hid (grown_set_new (grown_trans HG3.out hgr4) ⟨w.heap.size + 1, 3, none⟩ (by show w.heap.size ≤ w.heap.size + 1; omega) (.string (str p3.1)))
  clear hXX4 hin4 hgr4 hX4 hR4 hrin3
  go_wp2_with fail
  refine (inNum_any B g b s4 _ HIN4.out).mono ?_
  obtain ⟨_, hrin4, _⟩ := HIN4.out.row
  rintro e w5 ⟨rfl, hin5, hgr5⟩
  have hx4 := pNum_lt s4
  obtain ⟨p4, hp4⟩ : ∃ p, pNum s4 = p := ⟨_, rfl⟩
  have HP4 := Lib.hid hp4
  simp only [hp4] at hin5 hx4 ⊢
  obtain ⟨s5, hs5⟩ : ∃ s', s' = p4.2 := ⟨_, rfl⟩
  rw [← hs5] at hin5
  have HS5 := Lib.hid hs5
  clear hs5 hp4
  have hX5 := (hgr5.block (w.heap.size + 1) (row_lt HX4.out) hsX).trans HX4.out
  have hR5 := (hgr5.block w.heap.size (row_lt HR4.out) hsR).trans HR4.out
  have hk54 : w5.cell? ⟨w.heap.size + 1, 4, none⟩ = some (.int .i64 0) := by rw [cell_of_row w5 (w.heap.size + 1) 4 _ _ _ hX5]; rfl
  have hf5 : w5.frozen? ⟨w.heap.size + 1, 4, none⟩ = false := frozen_of_row w5 (w.heap.size + 1) 4 _ _ hX5
  have hXX5 : (w5.setCell ⟨w.heap.size + 1, 4, none⟩ (.int .i64 (wrap64 (p4.1 : Nat)))).heap[w.heap.size + 1]? = some (.cells #[.int .u64 (p0.1 : Nat), .int .u64 (p1.1 : Nat), .int .i64 (p2.1 : Nat), .string (str p3.1), .int .i64 (wrap64 (p4.1 : Nat)), .int .i64 0, .int .u64 0] 36 (0, 0)) := by
    have h := heap_setCell_same w5 (w.heap.size + 1) 4 _ _ (.int .i64 (wrap64 (p4.1 : Nat))) hX5
    simpa using h
  have HX5 := Lib.hid hXX5
  have HR5 := Lib.hid ((heap_setCell_other w5 ⟨w.heap.size + 1, 4, none⟩ w.heap.size (.int .i64 (wrap64 (p4.1 : Nat))) hRX).trans hR5)
  have HIN5 := Lib.hid (hin5.set ⟨w.heap.size + 1, 4, none⟩ (Ne.symm hgX) (by show B ≤ w.heap.size + 1; omega) (.int .i64 (wrap64 (p4.1 : Nat))))
  have HG5 := Lib.hid (grown_set_new (grown_trans HG4.out hgr5) ⟨w.heap.size + 1, 4, none⟩ (by show w.heap.size ≤ w.heap.size + 1; omega) (.int .i64 (wrap64 (p4.1 : Nat))))
  clear hXX5 hin5 hgr5 hX5 hR5 hrin4
  go_wp2_with fail
  refine (inNum_any B g b s5 _ HIN5.out).mono ?_
  obtain ⟨_, hrin5, _⟩ := HIN5.out.row
  rintro e w6 ⟨rfl, hin6, hgr6⟩
  have hx5 := pNum_lt s5
  obtain ⟨p5, hp5⟩ : ∃ p, pNum s5 = p := ⟨_, rfl⟩
  have HP5 := Lib.hid hp5
  simp only [hp5] at hin6 hx5 ⊢
  obtain ⟨s6, hs6⟩ : ∃ s', s' = p5.2 := ⟨_, rfl⟩
  rw [← hs6] at hin6
  have HS6 := Lib.hid hs6
  clear hs6 hp5
  have hX6 := (hgr6.block (w.heap.size + 1) (row_lt HX5.out) hsX).trans HX5.out
  have hR6 := (hgr6.block w.heap.size (row_lt HR5.out) hsR).trans HR5.out
  have hk65 : w6.cell? ⟨w.heap.size + 1, 5, none⟩ = some (.int .i64 0) := by rw [cell_of_row w6 (w.heap.size + 1) 5 _ _ _ hX6]; rfl
  have hf6 : w6.frozen? ⟨w.heap.size + 1, 5, none⟩ = false := frozen_of_row w6 (w.heap.size + 1) 5 _ _ hX6
  have hXX6 : (w6.setCell ⟨w.heap.size + 1, 5, none⟩ (.int .i64 (wrap64 (p5.1 : Nat)))).heap[w.heap.size + 1]? = some (.cells #[.int .u64 (p0.1 : Nat), .int .u64 (p1.1 : Nat), .int .i64 (p2.1 : Nat), .string (str p3.1), .int .i64 (wrap64 (p4.1 : Nat)), .int .i64 (wrap64 (p5.1 : Nat)), .int .u64 0] 36 (0, 0)) := by
    have h := heap_setCell_same w6 (w.heap.size + 1) 5 _ _ (.int .i64 (wrap64 (p5.1 : Nat))) hX6
    simpa using h
  have HX6 := Lib.hid hXX6
  have HR6 := Lib.hid ((heap_setCell_other w6 ⟨w.heap.size + 1, 5, none⟩ w.heap.size (.int .i64 (wrap64 (p5.1 : Nat))) hRX).trans hR6)
  have HIN6 := Lib.hid (hin6.set ⟨w.heap.size + 1, 5, none⟩ (Ne.symm hgX) (by show B ≤ w.heap.size + 1; omega) (.int .i64 (wrap64 (p5.1 : Nat))))
  have HG6 := Lib.hid (grown_set_new (grown_trans HG5.out hgr6) ⟨w.heap.size + 1, 5, none⟩ (by show w.heap.size ≤ w.heap.size + 1; omega) (.int .i64 (wrap64 (p5.1 : Nat))))
  clear hXX6 hin6 hgr6 hX6 hR6 hrin5
  go_wp2_with fail
  refine (inNum_any B g b s6 _ HIN6.out).mono ?_
  obtain ⟨_, hrin6, _⟩ := HIN6.out.row
  rintro e w7 ⟨rfl, hin7, hgr7⟩
  have hx6 := pNum_lt s6
  obtain ⟨p6, hp6⟩ : ∃ p, pNum s6 = p := ⟨_, rfl⟩
  have HP6 := Lib.hid hp6
  simp only [hp6] at hin7 hx6 ⊢
  obtain ⟨s7, hs7⟩ : ∃ s', s' = p6.2 := ⟨_, rfl⟩
  rw [← hs7] at hin7
  have HS7 := Lib.hid hs7
  clear hs7 hp6
  have hX7 := (hgr7.block (w.heap.size + 1) (row_lt HX6.out) hsX).trans HX6.out
  have hR7 := (hgr7.block w.heap.size (row_lt HR6.out) hsR).trans HR6.out
  have hk70 : w7.cell? ⟨w.heap.size + 1, 0, none⟩ = some (.int .u64 (p0.1 : Nat)) := by rw [cell_of_row w7 (w.heap.size + 1) 0 _ _ _ hX7]; rfl
  have hk71 : w7.cell? ⟨w.heap.size + 1, 1, none⟩ = some (.int .u64 (p1.1 : Nat)) := by rw [cell_of_row w7 (w.heap.size + 1) 1 _ _ _ hX7]; rfl
  have hk72 : w7.cell? ⟨w.heap.size + 1, 2, none⟩ = some (.int .i64 (p2.1 : Nat)) := by rw [cell_of_row w7 (w.heap.size + 1) 2 _ _ _ hX7]; rfl
  have hk73 : w7.cell? ⟨w.heap.size + 1, 3, none⟩ = some (.string (str p3.1)) := by rw [cell_of_row w7 (w.heap.size + 1) 3 _ _ _ hX7]; rfl
  have hk74 : w7.cell? ⟨w.heap.size + 1, 4, none⟩ = some (.int .i64 (wrap64 (p4.1 : Nat))) := by rw [cell_of_row w7 (w.heap.size + 1) 4 _ _ _ hX7]; rfl
  have hk75 : w7.cell? ⟨w.heap.size + 1, 5, none⟩ = some (.int .i64 (wrap64 (p5.1 : Nat))) := by rw [cell_of_row w7 (w.heap.size + 1) 5 _ _ _ hX7]; rfl
  have hk76 : w7.cell? ⟨w.heap.size + 1, 6, none⟩ = some (.int .u64 0) := by rw [cell_of_row w7 (w.heap.size + 1) 6 _ _ _ hX7]; rfl
  have hf7 : w7.frozen? ⟨w.heap.size + 1, 6, none⟩ = false := frozen_of_row w7 (w.heap.size + 1) 6 _ _ hX7
  have hq0 : w7.cell? ⟨w.heap.size, 0, none⟩ = some (.int .u64 0) := by rw [cell_of_row w7 w.heap.size 0 _ _ _ hR7]; rfl
  have hz0 : w7.frozen? ⟨w.heap.size, 0, none⟩ = false := frozen_of_row w7 w.heap.size 0 _ _ hR7
  have hq1 : w7.cell? ⟨w.heap.size, 1, none⟩ = some (.int .u64 0) := by rw [cell_of_row w7 w.heap.size 1 _ _ _ hR7]; rfl
  have hz1 : w7.frozen? ⟨w.heap.size, 1, none⟩ = false := frozen_of_row w7 w.heap.size 1 _ _ hR7
  have hq2 : w7.cell? ⟨w.heap.size, 2, none⟩ = some (.int .i64 0) := by rw [cell_of_row w7 w.heap.size 2 _ _ _ hR7]; rfl
  have hz2 : w7.frozen? ⟨w.heap.size, 2, none⟩ = false := frozen_of_row w7 w.heap.size 2 _ _ hR7
  have hq3 : w7.cell? ⟨w.heap.size, 3, none⟩ = some (.string ⟨#[]⟩) := by rw [cell_of_row w7 w.heap.size 3 _ _ _ hR7]; rfl
  have hz3 : w7.frozen? ⟨w.heap.size, 3, none⟩ = false := frozen_of_row w7 w.heap.size 3 _ _ hR7
  have hq4 : w7.cell? ⟨w.heap.size, 4, none⟩ = some (.int .i64 0) := by rw [cell_of_row w7 w.heap.size 4 _ _ _ hR7]; rfl
  have hz4 : w7.frozen? ⟨w.heap.size, 4, none⟩ = false := frozen_of_row w7 w.heap.size 4 _ _ hR7
  have hq5 : w7.cell? ⟨w.heap.size, 5, none⟩ = some (.int .i64 0) := by rw [cell_of_row w7 w.heap.size 5 _ _ _ hR7]; rfl
  have hz5 : w7.frozen? ⟨w.heap.size, 5, none⟩ = false := frozen_of_row w7 w.heap.size 5 _ _ hR7
  have hq6 : w7.cell? ⟨w.heap.size, 6, none⟩ = some (.int .u64 0) := by rw [cell_of_row w7 w.heap.size 6 _ _ _ hR7]; rfl
  have hz6 : w7.frozen? ⟨w.heap.size, 6, none⟩ = false := frozen_of_row w7 w.heap.size 6 _ _ hR7
  have hXX7 : (w7.setCell ⟨w.heap.size + 1, 6, none⟩ (.int .u64 (p6.1 : Nat))).heap[w.heap.size + 1]? = some (.cells #[.int .u64 (p0.1 : Nat), .int .u64 (p1.1 : Nat), .int .i64 (p2.1 : Nat), .string (str p3.1), .int .i64 (wrap64 (p4.1 : Nat)), .int .i64 (wrap64 (p5.1 : Nat)), .int .u64 (p6.1 : Nat)] 36 (0, 0)) := by
    have h := heap_setCell_same w7 (w.heap.size + 1) 6 _ _ (.int .u64 (p6.1 : Nat)) hX7
    simpa using h
  have HX7 := Lib.hid hXX7
  have HR7 := Lib.hid ((heap_setCell_other w7 ⟨w.heap.size + 1, 6, none⟩ w.heap.size (.int .u64 (p6.1 : Nat)) hRX).trans hR7)
  have HIN7 := Lib.hid (hin7.set ⟨w.heap.size + 1, 6, none⟩ (Ne.symm hgX) (by show B ≤ w.heap.size + 1; omega) (.int .u64 (p6.1 : Nat)))
  have HG7 := Lib.hid (grown_set_new (grown_trans HG6.out hgr7) ⟨w.heap.size + 1, 6, none⟩ (by show w.heap.size ≤ w.heap.size + 1; omega) (.int .u64 (p6.1 : Nat)))
  clear hXX7 hin7 hgr7 hX7 hR7 hrin6
  go_wp2
  have hpe : pCommand s = ((p0.1, p1.1, p2.1, p3.1, wrap64 (p4.1 : Nat), wrap64 (p5.1 : Nat), p6.1), s7) := by
    unfold pCommand
    simp only [HP0.out, ← HS1.out, HP1.out, ← HS2.out, HP2.out, ← HS3.out, HP3.out, ← HS4.out, HP4.out, ← HS5.out, HP5.out, ← HS6.out, HP6.out, ← HS7.out]
  rw [hpe]
  have hRg : w.heap.size ≠ g := by omega
  have r0 := heap_setCell_same _ w.heap.size 0 _ _ (.int .u64 (p0.1 : Nat)) HR7.out
  have r1 := heap_setCell_same _ w.heap.size 1 _ _ (.int .u64 (p1.1 : Nat)) r0
  have r2 := heap_setCell_same _ w.heap.size 2 _ _ (.int .i64 (p2.1 : Nat)) r1
  have r3 := heap_setCell_same _ w.heap.size 3 _ _ (.string (str p3.1)) r2
  have r4 := heap_setCell_same _ w.heap.size 4 _ _ (.int .i64 (wrap64 (p4.1 : Nat))) r3
  have r5 := heap_setCell_same _ w.heap.size 5 _ _ (.int .i64 (wrap64 (p5.1 : Nat))) r4
  have r6 := heap_setCell_same _ w.heap.size 6 _ _ (.int .u64 (p6.1 : Nat)) r5
  have hin := (((((((HIN7.out.set ⟨w.heap.size, 0, none⟩ hRg hBw (.int .u64 (p0.1 : Nat))).set ⟨w.heap.size, 1, none⟩ hRg hBw (.int .u64 (p1.1 : Nat))).set ⟨w.heap.size, 2, none⟩ hRg hBw (.int .i64 (p2.1 : Nat))).set ⟨w.heap.size, 3, none⟩ hRg hBw (.string (str p3.1))).set ⟨w.heap.size, 4, none⟩ hRg hBw (.int .i64 (wrap64 (p4.1 : Nat)))).set ⟨w.heap.size, 5, none⟩ hRg hBw (.int .i64 (wrap64 (p5.1 : Nat)))).set ⟨w.heap.size, 6, none⟩ hRg hBw (.int .u64 (p6.1 : Nat)))
  have hgr := (grown_set_new (grown_set_new (grown_set_new (grown_set_new (grown_set_new (grown_set_new (grown_set_new HG7.out ⟨w.heap.size, 0, none⟩ (Nat.le_refl _) (.int .u64 (p0.1 : Nat))) ⟨w.heap.size, 1, none⟩ (Nat.le_refl _) (.int .u64 (p1.1 : Nat))) ⟨w.heap.size, 2, none⟩ (Nat.le_refl _) (.int .i64 (p2.1 : Nat))) ⟨w.heap.size, 3, none⟩ (Nat.le_refl _) (.string (str p3.1))) ⟨w.heap.size, 4, none⟩ (Nat.le_refl _) (.int .i64 (wrap64 (p4.1 : Nat)))) ⟨w.heap.size, 5, none⟩ (Nat.le_refl _) (.int .i64 (wrap64 (p5.1 : Nat)))) ⟨w.heap.size, 6, none⟩ (Nat.le_refl _) (.int .u64 (p6.1 : Nat)))
  have hrow : _ = some (Obj.cells #[.int .u64 (p0.1 : Nat), .int .u64 (p1.1 : Nat), .int .i64 (p2.1 : Nat), .string (str p3.1), .int .i64 (wrap64 (p4.1 : Nat)), .int .i64 (wrap64 (p5.1 : Nat)), .int .u64 (p6.1 : Nat)] 36 (0, 0)) := r6
  exact bodyPost_ret (v := .agg #[.int .u64 (p0.1 : Nat), .int .u64 (p1.1 : Nat), .int .i64 (p2.1 : Nat), .string (str p3.1), .int .i64 (wrap64 (p4.1 : Nat)), .int .i64 (wrap64 (p5.1 : Nat)), .int .u64 (p6.1 : Nat)]) (results_cell_row rfl _ _ w.heap.size 36 #[.int .u64 (p0.1 : Nat), .int .u64 (p1.1 : Nat), .int .i64 (p2.1 : Nat), .string (str p3.1), .int .i64 (wrap64 (p4.1 : Nat)), .int .i64 (wrap64 (p5.1 : Nat)), .int .u64 (p6.1 : Nat)] (0, 0) _ rfl hrow Tryz.underlying36 rfl (by kernel_rfl)) rfl ⟨rfl, hin, hgr⟩
end Go.Proofs.YtlgbipmmpocepaaGreat.Mo

/-! Package scupperref03's ToReply, ToCommand, as contracts of calls. Written by gentalk.py. -/
namespace Go.Proofs.YtlgbipmmpocepaaGreat.Kd
open Go.RowKit By CoP Co Mo

def pReplyD : Rdr := pRec [pNumD, pNumD, pIntD 20, pNumD, pI64D, pI64D]
def pCommandD : Rdr := pRec [pNumD, pNumD, pIntD 5, pDataD, pI64D, pI64D, pNumD]
set_option maxRecDepth 100000 in
set_option maxHeartbeats 4000000 in
theorem refToReply_any {A : Option Addr} {n c : Nat} {b : List UInt8} (w : World) (hn : n = b.length) (hnc : n ≤ c) (hm : n ≤ 140737488355328) (hr : Lies w w.heap.size A b) :
    Calls Tryz.prog 10 #[.slice A n c] w (RefTo replyK pReplyD b w) := by
  subst hn
  obtain ⟨w0, hw0⟩ : ∃ w0, w0 = (w.alloc (.cells #[.int .u64 0, .int .u64 0, .int .i64 0, .int .u64 0, .int .i64 0, .int .i64 0] 42)).alloc (.cells #[.slice A b.length c, .int .i64 0, .bool false] 77) := ⟨_, rfl⟩
  have hb0 : Below w.heap.size w w0 := by rw [hw0]; exact ((Below.refl _ _).alloc (Nat.le_refl _) _).alloc (((Below.refl _ _).alloc (Nat.le_refl _) _).size) _
  have hin0 : InAt w.heap.size (w.heap.size + 1) w0 b (some b) := by
    refine ⟨A, c, 0, false, Nat.le_succ _, hnc, hm, ?_, hr.below hb0, Nat.zero_le _, .inr ⟨rfl, rfl⟩⟩
    rw [hw0]; exact heap_alloc2_new w _ _
  have hrr0 : w0.heap[w.heap.size]? = some (.cells #[.int .u64 0, .int .u64 0, .int .i64 0, .int .u64 0, .int .i64 0, .int .i64 0] 42 (0, 0)) := by rw [hw0]; exact heap_alloc2_old w _ _
  have hsz0 : w0.heap.size = w.heap.size + 1 + 1 := by rw [hw0]; simp
  have hcall := inReply_any w.heap.size (w.heap.size + 1) b (some b) w0 hin0 hb0.size
  have l0 : (pReply (some b)).1.1 < 18446744073709551616 := pNum_lt _
  have l1 : (pReply (some b)).1.2.1 < 18446744073709551616 := pNum_lt _
  have l2 : (pReply (some b)).1.2.2.1 ≤ 20 := pInt_le' 20 _
  have l3 : (pReply (some b)).1.2.2.2.1 < 18446744073709551616 := pNum_lt _
  have l4 : -9223372036854775808 ≤ (pReply (some b)).1.2.2.2.2.1 ∧ (pReply (some b)).1.2.2.2.2.1 ≤ 9223372036854775807 := wrap_in _
  have l5 : -9223372036854775808 ≤ (pReply (some b)).1.2.2.2.2.2 ∧ (pReply (some b)).1.2.2.2.2.2 ≤ 9223372036854775807 := wrap_in _
  have hd : (pReplyD (some b)).1 = repD (pReply (some b)).1.1 (pReply (some b)).1.2.1 (((pReply (some b)).1.2.2.1 : Nat) : Int) (pReply (some b)).1.2.2.2.1 (pReply (some b)).1.2.2.2.2.1 (pReply (some b)).1.2.2.2.2.2 := rfl
  have hst : (pReplyD (some b)).2 = (pReply (some b)).2 := rfl
  unfold RefTo
  rw [hst]
  generalize pReply (some b) = P at hcall l0 l1 l2 l3 l4 l5 hd ⊢
  obtain ⟨⟨se, sq, er0, lz, am, un⟩, st⟩ := P
  simp only at hcall l0 l1 l2 l3 l4 l5 hd ⊢
  obtain ⟨er, her⟩ : ∃ er : Int, (er0 : Int) = er := ⟨_, rfl⟩
  rw [her] at hcall hd
  replace l2 : -9223372036854775808 ≤ er ∧ er ≤ 9223372036854775807 := by omega
  rw [hd]
  generalize hdd : repD se sq er lz am un = d
  clear her hd hst
  have hrep0 : ∀ (w : World) (S : Nat → Prop), replyK.rep w S [.int .u64 (se : Int), .int .u64 (sq : Int), .int .i64 er, .int .u64 (lz : Int), .int .i64 am, .int .i64 un] d := fun w S => by
    rw [← hdd]
    exact ⟨_, rfl, [_], _, _, _, rfl, rfl, ⟨se, l0, rfl, rfl⟩, [_], _, _, _, rfl, rfl, ⟨sq, l1, rfl, rfl⟩, [_], _, _, _, rfl, rfl, ⟨er, l2.1, l2.2, rfl, rfl⟩, [_], _, _, _, rfl, rfl, ⟨lz, l3, rfl, rfl⟩, [_], _, _, _, rfl, rfl, ⟨am, l4.1, l4.2, rfl, rfl⟩, [_], _, _, _, rfl, rfl, ⟨un, l5.1, l5.2, rfl, rfl⟩, rfl, rfl⟩
  have HREP0 := Lib.hid hrep0
  have HC := Lib.hid hcall
  have HB0 := Lib.hid hb0
  have HRR0 := Lib.hid hrr0
  have HSZ0 := Lib.hid hsz0
  clear hcall l0 l1 l2 l3 l4 l5 hb0 hrr0 hin0 hr hdd hsz0 hrep0
  go_enter Tryz.func10, Tryz.ntmps10
  go_wp2_with fail
  rw [← hw0]
  refine HC.out.mono ?_
  rintro e w1 ⟨rfl, hin1, hgr1⟩
  clear hw0
  have hz0 := HB0.out.size
  have hs0 := HSZ0.out
  have hz1 := hgr1.size
  have hlt0 := row_lt HRR0.out
  obtain ⟨X, hX⟩ : ∃ X, X = w1.heap.size := ⟨_, rfl⟩
  obtain ⟨w2, hw2⟩ : ∃ w2, w2 = w1.alloc (.cells #[.int .u64 (se : Int), .int .u64 (sq : Int), .int .i64 er, .int .u64 (lz : Int), .int .i64 am, .int .i64 un] 42) := ⟨_, rfl⟩
  have hx2 : w2.heap[X]? = some (.cells #[.int .u64 (se : Int), .int .u64 (sq : Int), .int .i64 er, .int .u64 (lz : Int), .int .i64 am, .int .i64 un] 42 (0, 0)) := by rw [hw2, hX]; exact heap_alloc_new w1 _
  have hr2 : w2.heap[w.heap.size]? = some (.cells #[.int .u64 0, .int .u64 0, .int .i64 0, .int .u64 0, .int .i64 0, .int .i64 0] 42 (0, 0)) := by
    rw [hw2, heap_alloc_old w1 _ (by omega), hgr1.block w.heap.size hlt0 (fun e => by have := Option.some.inj e; omega)]; exact HRR0.out
  have hin2 : InAt w.heap.size (w.heap.size + 1) w2 b st := by rw [hw2]; exact hin1.alloc _
  have hb2 : Below w.heap.size w w2 := by
    rw [hw2]
    exact ((HB0.out).grown hgr1 hz0 (fun k e => by have := Option.some.inj e; omega)).alloc (by omega) _
  have hca0 : w2.cell? ⟨X, 0, none⟩ = some (.int .u64 (se : Int)) := by rw [cell_of_row w2 _ 0 _ _ _ hx2]; rfl
  have hca1 : w2.cell? ⟨X, 1, none⟩ = some (.int .u64 (sq : Int)) := by rw [cell_of_row w2 _ 1 _ _ _ hx2]; rfl
  have hca2 : w2.cell? ⟨X, 2, none⟩ = some (.int .i64 er) := by rw [cell_of_row w2 _ 2 _ _ _ hx2]; rfl
  have hca3 : w2.cell? ⟨X, 3, none⟩ = some (.int .u64 (lz : Int)) := by rw [cell_of_row w2 _ 3 _ _ _ hx2]; rfl
  have hca4 : w2.cell? ⟨X, 4, none⟩ = some (.int .i64 am) := by rw [cell_of_row w2 _ 4 _ _ _ hx2]; rfl
  have hca5 : w2.cell? ⟨X, 5, none⟩ = some (.int .i64 un) := by rw [cell_of_row w2 _ 5 _ _ _ hx2]; rfl
  have HX2 := Lib.hid hx2
  have HR2 := Lib.hid hr2
  have HIN2 := Lib.hid hin2
  have HREP2 := Lib.hid (HREP0.out w2 (fun q => w.heap.size + 1 < q ∧ q < w2.heap.size))
  have HB2 := Lib.hid hb2
  have hXg : (some X : Option Nat) ≠ some (w.heap.size + 1) := fun e => by have := Option.some.inj e; omega
  clear hx2 hr2 hin2 hb2 hin1 hgr1 HRR0 HB0 HREP0
  go_wp2
  rw [← hw2, ← hX]
  clear hw2 hX
  have hRg : (some w.heap.size : Option Nat) ≠ some (w.heap.size + 1) := fun e => by have := Option.some.inj e; omega
  have hW := inWhole_any w.heap.size (w.heap.size + 1) b st w2.drew HIN2.out
  obtain ⟨ok, hpw⟩ : ∃ x, pWhole st = x := ⟨_, rfl⟩
  rw [hpw] at hW
  have HPW := Lib.hid hpw
  have HW := Lib.hid hW
  clear hpw hW
  cases ok with
  | false =>
    go_region_law ((go_simp; go_at_call 27; refine HW.out.mono ?_; rintro e w3 ⟨rfl, hin3, hgr3⟩
                    have hgr : w2.grownBy w3 (some (w.heap.size + 1)) := ⟨hgr3.os, hgr3.tape, hgr3.output, hgr3.size, hgr3.block⟩
                    have hx := (hgr.block X (row_lt HX2.out) hXg).trans HX2.out
                    have hr := (hgr.block w.heap.size (row_lt HR2.out) hRg).trans HR2.out
                    have hc0w3 : w3.cell? ⟨X, 0, none⟩ = some (.int .u64 (se : Int)) := by rw [cell_of_row w3 _ 0 _ _ _ hx]; rfl
                    have hz0w3 : w3.cell? ⟨w.heap.size, 0, none⟩ = some (.int .u64 0) := by rw [cell_of_row w3 _ 0 _ _ _ hr]; rfl
                    have hf0w3 : w3.frozen? ⟨w.heap.size, 0, none⟩ = false := frozen_of_row w3 _ 0 _ _ hr
                    have hc1w3 : w3.cell? ⟨X, 1, none⟩ = some (.int .u64 (sq : Int)) := by rw [cell_of_row w3 _ 1 _ _ _ hx]; rfl
                    have hz1w3 : w3.cell? ⟨w.heap.size, 1, none⟩ = some (.int .u64 0) := by rw [cell_of_row w3 _ 1 _ _ _ hr]; rfl
                    have hf1w3 : w3.frozen? ⟨w.heap.size, 1, none⟩ = false := frozen_of_row w3 _ 1 _ _ hr
                    have hc2w3 : w3.cell? ⟨X, 2, none⟩ = some (.int .i64 er) := by rw [cell_of_row w3 _ 2 _ _ _ hx]; rfl
                    have hz2w3 : w3.cell? ⟨w.heap.size, 2, none⟩ = some (.int .i64 0) := by rw [cell_of_row w3 _ 2 _ _ _ hr]; rfl
                    have hf2w3 : w3.frozen? ⟨w.heap.size, 2, none⟩ = false := frozen_of_row w3 _ 2 _ _ hr
                    have hc3w3 : w3.cell? ⟨X, 3, none⟩ = some (.int .u64 (lz : Int)) := by rw [cell_of_row w3 _ 3 _ _ _ hx]; rfl
                    have hz3w3 : w3.cell? ⟨w.heap.size, 3, none⟩ = some (.int .u64 0) := by rw [cell_of_row w3 _ 3 _ _ _ hr]; rfl
                    have hf3w3 : w3.frozen? ⟨w.heap.size, 3, none⟩ = false := frozen_of_row w3 _ 3 _ _ hr
                    have hc4w3 : w3.cell? ⟨X, 4, none⟩ = some (.int .i64 am) := by rw [cell_of_row w3 _ 4 _ _ _ hx]; rfl
                    have hz4w3 : w3.cell? ⟨w.heap.size, 4, none⟩ = some (.int .i64 0) := by rw [cell_of_row w3 _ 4 _ _ _ hr]; rfl
                    have hf4w3 : w3.frozen? ⟨w.heap.size, 4, none⟩ = false := frozen_of_row w3 _ 4 _ _ hr
                    have hc5w3 : w3.cell? ⟨X, 5, none⟩ = some (.int .i64 un) := by rw [cell_of_row w3 _ 5 _ _ _ hx]; rfl
                    have hz5w3 : w3.cell? ⟨w.heap.size, 5, none⟩ = some (.int .i64 0) := by rw [cell_of_row w3 _ 5 _ _ _ hr]; rfl
                    have hf5w3 : w3.frozen? ⟨w.heap.size, 5, none⟩ = false := frozen_of_row w3 _ 5 _ _ hr
                    have HR3 := Lib.hid hr
                    have HX3 := Lib.hid hx
                    have HREP3 := Lib.hid (replyK_ok.keep HREP2.out (S' := (fun q => w.heap.size + 1 < q ∧ q < w3.heap.size)) (fun q hq => hgr.block q hq.2 (fun e => by have := Option.some.inj e; have := hq.1; omega)) (fun q hq => ⟨hq.1, Nat.lt_of_lt_of_le hq.2 hgr.size⟩))
                    have HB3 := Lib.hid (HB2.out.grown hgr HB2.out.size (fun k e => by have := Option.some.inj e; omega))
                    clear hin3 hgr3 hgr hx hr))
    all_goals
      go_wp2
      have r0 := heap_setCell_same w3 w.heap.size 0 _ _ (.int .u64 (se : Int)) HR3.out
      have r1 := heap_setCell_same (w3.setCell ⟨w.heap.size, 0, none⟩ (.int .u64 (se : Int))) w.heap.size 1 _ _ (.int .u64 (sq : Int)) r0
      have r2 := heap_setCell_same ((w3.setCell ⟨w.heap.size, 0, none⟩ (.int .u64 (se : Int))).setCell ⟨w.heap.size, 1, none⟩ (.int .u64 (sq : Int))) w.heap.size 2 _ _ (.int .i64 er) r1
      have r3 := heap_setCell_same (((w3.setCell ⟨w.heap.size, 0, none⟩ (.int .u64 (se : Int))).setCell ⟨w.heap.size, 1, none⟩ (.int .u64 (sq : Int))).setCell ⟨w.heap.size, 2, none⟩ (.int .i64 er)) w.heap.size 3 _ _ (.int .u64 (lz : Int)) r2
      have r4 := heap_setCell_same ((((w3.setCell ⟨w.heap.size, 0, none⟩ (.int .u64 (se : Int))).setCell ⟨w.heap.size, 1, none⟩ (.int .u64 (sq : Int))).setCell ⟨w.heap.size, 2, none⟩ (.int .i64 er)).setCell ⟨w.heap.size, 3, none⟩ (.int .u64 (lz : Int))) w.heap.size 4 _ _ (.int .i64 am) r3
      have r5 := heap_setCell_same (((((w3.setCell ⟨w.heap.size, 0, none⟩ (.int .u64 (se : Int))).setCell ⟨w.heap.size, 1, none⟩ (.int .u64 (sq : Int))).setCell ⟨w.heap.size, 2, none⟩ (.int .i64 er)).setCell ⟨w.heap.size, 3, none⟩ (.int .u64 (lz : Int))).setCell ⟨w.heap.size, 4, none⟩ (.int .i64 am)) w.heap.size 5 _ _ (.int .i64 un) r4
      have hrow : ((((((w3.setCell ⟨w.heap.size, 0, none⟩ (.int .u64 (se : Int))).setCell ⟨w.heap.size, 1, none⟩ (.int .u64 (sq : Int))).setCell ⟨w.heap.size, 2, none⟩ (.int .i64 er)).setCell ⟨w.heap.size, 3, none⟩ (.int .u64 (lz : Int))).setCell ⟨w.heap.size, 4, none⟩ (.int .i64 am)).setCell ⟨w.heap.size, 5, none⟩ (.int .i64 un)).heap[w.heap.size]? = some (.cells #[.int .u64 (se : Int), .int .u64 (sq : Int), .int .i64 er, .int .u64 (lz : Int), .int .i64 am, .int .i64 un] 42 (0, 0)) := r5
      have hoth : ∀ q, q ≠ w.heap.size → ((((((w3.setCell ⟨w.heap.size, 0, none⟩ (.int .u64 (se : Int))).setCell ⟨w.heap.size, 1, none⟩ (.int .u64 (sq : Int))).setCell ⟨w.heap.size, 2, none⟩ (.int .i64 er)).setCell ⟨w.heap.size, 3, none⟩ (.int .u64 (lz : Int))).setCell ⟨w.heap.size, 4, none⟩ (.int .i64 am)).setCell ⟨w.heap.size, 5, none⟩ (.int .i64 un)).heap[q]? = w3.heap[q]? := fun q hq => (heap_setCell_other _ ⟨w.heap.size, 5, none⟩ q _ hq).trans ((heap_setCell_other _ ⟨w.heap.size, 4, none⟩ q _ hq).trans ((heap_setCell_other _ ⟨w.heap.size, 3, none⟩ q _ hq).trans ((heap_setCell_other _ ⟨w.heap.size, 2, none⟩ q _ hq).trans ((heap_setCell_other _ ⟨w.heap.size, 1, none⟩ q _ hq).trans (heap_setCell_other _ ⟨w.heap.size, 0, none⟩ q _ hq)))))
      have hsz : ((((((w3.setCell ⟨w.heap.size, 0, none⟩ (.int .u64 (se : Int))).setCell ⟨w.heap.size, 1, none⟩ (.int .u64 (sq : Int))).setCell ⟨w.heap.size, 2, none⟩ (.int .i64 er)).setCell ⟨w.heap.size, 3, none⟩ (.int .u64 (lz : Int))).setCell ⟨w.heap.size, 4, none⟩ (.int .i64 am)).setCell ⟨w.heap.size, 5, none⟩ (.int .i64 un)).heap.size = w3.heap.size := by simp only [size_setCell']
      have hbz := ((((((HB3.out).setCell (p := ⟨w.heap.size, 0, none⟩) (Nat.le_refl _) (.int .u64 (se : Int))).setCell (p := ⟨w.heap.size, 1, none⟩) (Nat.le_refl _) (.int .u64 (sq : Int))).setCell (p := ⟨w.heap.size, 2, none⟩) (Nat.le_refl _) (.int .i64 er)).setCell (p := ⟨w.heap.size, 3, none⟩) (Nat.le_refl _) (.int .u64 (lz : Int))).setCell (p := ⟨w.heap.size, 4, none⟩) (Nat.le_refl _) (.int .i64 am)).setCell (p := ⟨w.heap.size, 5, none⟩) (Nat.le_refl _) (.int .i64 un)
      have hrep := replyK_ok.keep HREP3.out (S' := New w ((((((w3.setCell ⟨w.heap.size, 0, none⟩ (.int .u64 (se : Int))).setCell ⟨w.heap.size, 1, none⟩ (.int .u64 (sq : Int))).setCell ⟨w.heap.size, 2, none⟩ (.int .i64 er)).setCell ⟨w.heap.size, 3, none⟩ (.int .u64 (lz : Int))).setCell ⟨w.heap.size, 4, none⟩ (.int .i64 am)).setCell ⟨w.heap.size, 5, none⟩ (.int .i64 un))) (fun q hq => hoth q (by have := hq.1; omega)) (fun q hq => ⟨by have := hq.1; omega, by rw [hsz]; exact hq.2⟩)
      exact bodyPost_ret (v := .tuple #[.agg #[.int .u64 (se : Int), .int .u64 (sq : Int), .int .i64 er, .int .u64 (lz : Int), .int .i64 am, .int .i64 un], .bool false]) (results_cell_tmp (fn := Tryz.f10) (p := 2) (q := 3) rfl _ _ w.heap.size 42 #[.int .u64 (se : Int), .int .u64 (sq : Int), .int .i64 er, .int .u64 (lz : Int), .int .i64 am, .int .i64 un] (0, 0) _ rfl hrow Tryz.underlying42 (by kernel_rfl)) rfl ⟨_, by rw [HPW.out, Bool.false_and], hrep, hbz⟩
  | true =>
    obtain ⟨sd, hsd⟩ : ∃ x, replyK.sound d = x := ⟨_, rfl⟩
    have HSD := Lib.hid hsd
    have HOK := Lib.hid (fun (w : World) (h : replyK.rep w (Old w) [.int .u64 (se : Int), .int .u64 (sq : Int), .int .i64 er, .int .u64 (lz : Int), .int .i64 am, .int .i64 un] d) => hsd ▸ rep_ok w h)
    clear hsd
    go_region_law (first
      | (go_simp; go_at_call 27; refine HW.out.mono ?_; rintro e w3 ⟨rfl, hin3, hgr3⟩
         have hgr : w2.grownBy w3 (some (w.heap.size + 1)) := ⟨hgr3.os, hgr3.tape, hgr3.output, hgr3.size, hgr3.block⟩
         have hx := (hgr.block X (row_lt HX2.out) hXg).trans HX2.out
         have hr := (hgr.block w.heap.size (row_lt HR2.out) hRg).trans HR2.out
         have hc0w3 : w3.cell? ⟨X, 0, none⟩ = some (.int .u64 (se : Int)) := by rw [cell_of_row w3 _ 0 _ _ _ hx]; rfl
         have hz0w3 : w3.cell? ⟨w.heap.size, 0, none⟩ = some (.int .u64 0) := by rw [cell_of_row w3 _ 0 _ _ _ hr]; rfl
         have hf0w3 : w3.frozen? ⟨w.heap.size, 0, none⟩ = false := frozen_of_row w3 _ 0 _ _ hr
         have hc1w3 : w3.cell? ⟨X, 1, none⟩ = some (.int .u64 (sq : Int)) := by rw [cell_of_row w3 _ 1 _ _ _ hx]; rfl
         have hz1w3 : w3.cell? ⟨w.heap.size, 1, none⟩ = some (.int .u64 0) := by rw [cell_of_row w3 _ 1 _ _ _ hr]; rfl
         have hf1w3 : w3.frozen? ⟨w.heap.size, 1, none⟩ = false := frozen_of_row w3 _ 1 _ _ hr
         have hc2w3 : w3.cell? ⟨X, 2, none⟩ = some (.int .i64 er) := by rw [cell_of_row w3 _ 2 _ _ _ hx]; rfl
         have hz2w3 : w3.cell? ⟨w.heap.size, 2, none⟩ = some (.int .i64 0) := by rw [cell_of_row w3 _ 2 _ _ _ hr]; rfl
         have hf2w3 : w3.frozen? ⟨w.heap.size, 2, none⟩ = false := frozen_of_row w3 _ 2 _ _ hr
         have hc3w3 : w3.cell? ⟨X, 3, none⟩ = some (.int .u64 (lz : Int)) := by rw [cell_of_row w3 _ 3 _ _ _ hx]; rfl
         have hz3w3 : w3.cell? ⟨w.heap.size, 3, none⟩ = some (.int .u64 0) := by rw [cell_of_row w3 _ 3 _ _ _ hr]; rfl
         have hf3w3 : w3.frozen? ⟨w.heap.size, 3, none⟩ = false := frozen_of_row w3 _ 3 _ _ hr
         have hc4w3 : w3.cell? ⟨X, 4, none⟩ = some (.int .i64 am) := by rw [cell_of_row w3 _ 4 _ _ _ hx]; rfl
         have hz4w3 : w3.cell? ⟨w.heap.size, 4, none⟩ = some (.int .i64 0) := by rw [cell_of_row w3 _ 4 _ _ _ hr]; rfl
         have hf4w3 : w3.frozen? ⟨w.heap.size, 4, none⟩ = false := frozen_of_row w3 _ 4 _ _ hr
         have hc5w3 : w3.cell? ⟨X, 5, none⟩ = some (.int .i64 un) := by rw [cell_of_row w3 _ 5 _ _ _ hx]; rfl
         have hz5w3 : w3.cell? ⟨w.heap.size, 5, none⟩ = some (.int .i64 0) := by rw [cell_of_row w3 _ 5 _ _ _ hr]; rfl
         have hf5w3 : w3.frozen? ⟨w.heap.size, 5, none⟩ = false := frozen_of_row w3 _ 5 _ _ hr
         have HR3 := Lib.hid hr
         have HX3 := Lib.hid hx
         have HREP3 := Lib.hid (replyK_ok.keep HREP2.out (S' := (fun q => w.heap.size + 1 < q ∧ q < w3.heap.size)) (fun q hq => hgr.block q hq.2 (fun e => by have := Option.some.inj e; have := hq.1; omega)) (fun q hq => ⟨hq.1, Nat.lt_of_lt_of_le hq.2 hgr.size⟩))
         have HB3 := Lib.hid (HB2.out.grown hgr HB2.out.size (fun k e => by have := Option.some.inj e; omega))
         clear hin3 hgr3 hgr hx hr)
      | (go_simp; go_at_call 36; refine (HOK.out _ (replyK_ok.keep HREP3.out (S' := Old w3) (fun _ _ => rfl) (fun q hq => hq.2))).mono ?_; rintro e w4 ⟨rfl, hb4⟩
         have hx := (hb4.block X (row_lt HX3.out)).trans HX3.out
         have hr := (hb4.block w.heap.size (row_lt HR3.out)).trans HR3.out
         have hc0w4 : w4.cell? ⟨X, 0, none⟩ = some (.int .u64 (se : Int)) := by rw [cell_of_row w4 _ 0 _ _ _ hx]; rfl
         have hz0w4 : w4.cell? ⟨w.heap.size, 0, none⟩ = some (.int .u64 0) := by rw [cell_of_row w4 _ 0 _ _ _ hr]; rfl
         have hf0w4 : w4.frozen? ⟨w.heap.size, 0, none⟩ = false := frozen_of_row w4 _ 0 _ _ hr
         have hc1w4 : w4.cell? ⟨X, 1, none⟩ = some (.int .u64 (sq : Int)) := by rw [cell_of_row w4 _ 1 _ _ _ hx]; rfl
         have hz1w4 : w4.cell? ⟨w.heap.size, 1, none⟩ = some (.int .u64 0) := by rw [cell_of_row w4 _ 1 _ _ _ hr]; rfl
         have hf1w4 : w4.frozen? ⟨w.heap.size, 1, none⟩ = false := frozen_of_row w4 _ 1 _ _ hr
         have hc2w4 : w4.cell? ⟨X, 2, none⟩ = some (.int .i64 er) := by rw [cell_of_row w4 _ 2 _ _ _ hx]; rfl
         have hz2w4 : w4.cell? ⟨w.heap.size, 2, none⟩ = some (.int .i64 0) := by rw [cell_of_row w4 _ 2 _ _ _ hr]; rfl
         have hf2w4 : w4.frozen? ⟨w.heap.size, 2, none⟩ = false := frozen_of_row w4 _ 2 _ _ hr
         have hc3w4 : w4.cell? ⟨X, 3, none⟩ = some (.int .u64 (lz : Int)) := by rw [cell_of_row w4 _ 3 _ _ _ hx]; rfl
         have hz3w4 : w4.cell? ⟨w.heap.size, 3, none⟩ = some (.int .u64 0) := by rw [cell_of_row w4 _ 3 _ _ _ hr]; rfl
         have hf3w4 : w4.frozen? ⟨w.heap.size, 3, none⟩ = false := frozen_of_row w4 _ 3 _ _ hr
         have hc4w4 : w4.cell? ⟨X, 4, none⟩ = some (.int .i64 am) := by rw [cell_of_row w4 _ 4 _ _ _ hx]; rfl
         have hz4w4 : w4.cell? ⟨w.heap.size, 4, none⟩ = some (.int .i64 0) := by rw [cell_of_row w4 _ 4 _ _ _ hr]; rfl
         have hf4w4 : w4.frozen? ⟨w.heap.size, 4, none⟩ = false := frozen_of_row w4 _ 4 _ _ hr
         have hc5w4 : w4.cell? ⟨X, 5, none⟩ = some (.int .i64 un) := by rw [cell_of_row w4 _ 5 _ _ _ hx]; rfl
         have hz5w4 : w4.cell? ⟨w.heap.size, 5, none⟩ = some (.int .i64 0) := by rw [cell_of_row w4 _ 5 _ _ _ hr]; rfl
         have hf5w4 : w4.frozen? ⟨w.heap.size, 5, none⟩ = false := frozen_of_row w4 _ 5 _ _ hr
         have HR4 := Lib.hid hr
         have HREP4 := Lib.hid (replyK_ok.keep HREP3.out (S' := (fun q => w.heap.size + 1 < q ∧ q < w4.heap.size)) (fun q hq => hb4.block q hq.2) (fun q hq => ⟨hq.1, Nat.lt_of_lt_of_le hq.2 hb4.size⟩))
         have HB4 := Lib.hid (HB3.out.trans (hb4.mono HB3.out.size))
         clear hx hr hb4))
    all_goals
      go_wp2
      have r0 := heap_setCell_same w4 w.heap.size 0 _ _ (.int .u64 (se : Int)) HR4.out
      have r1 := heap_setCell_same (w4.setCell ⟨w.heap.size, 0, none⟩ (.int .u64 (se : Int))) w.heap.size 1 _ _ (.int .u64 (sq : Int)) r0
      have r2 := heap_setCell_same ((w4.setCell ⟨w.heap.size, 0, none⟩ (.int .u64 (se : Int))).setCell ⟨w.heap.size, 1, none⟩ (.int .u64 (sq : Int))) w.heap.size 2 _ _ (.int .i64 er) r1
      have r3 := heap_setCell_same (((w4.setCell ⟨w.heap.size, 0, none⟩ (.int .u64 (se : Int))).setCell ⟨w.heap.size, 1, none⟩ (.int .u64 (sq : Int))).setCell ⟨w.heap.size, 2, none⟩ (.int .i64 er)) w.heap.size 3 _ _ (.int .u64 (lz : Int)) r2
      have r4 := heap_setCell_same ((((w4.setCell ⟨w.heap.size, 0, none⟩ (.int .u64 (se : Int))).setCell ⟨w.heap.size, 1, none⟩ (.int .u64 (sq : Int))).setCell ⟨w.heap.size, 2, none⟩ (.int .i64 er)).setCell ⟨w.heap.size, 3, none⟩ (.int .u64 (lz : Int))) w.heap.size 4 _ _ (.int .i64 am) r3
      have r5 := heap_setCell_same (((((w4.setCell ⟨w.heap.size, 0, none⟩ (.int .u64 (se : Int))).setCell ⟨w.heap.size, 1, none⟩ (.int .u64 (sq : Int))).setCell ⟨w.heap.size, 2, none⟩ (.int .i64 er)).setCell ⟨w.heap.size, 3, none⟩ (.int .u64 (lz : Int))).setCell ⟨w.heap.size, 4, none⟩ (.int .i64 am)) w.heap.size 5 _ _ (.int .i64 un) r4
      have hrow : ((((((w4.setCell ⟨w.heap.size, 0, none⟩ (.int .u64 (se : Int))).setCell ⟨w.heap.size, 1, none⟩ (.int .u64 (sq : Int))).setCell ⟨w.heap.size, 2, none⟩ (.int .i64 er)).setCell ⟨w.heap.size, 3, none⟩ (.int .u64 (lz : Int))).setCell ⟨w.heap.size, 4, none⟩ (.int .i64 am)).setCell ⟨w.heap.size, 5, none⟩ (.int .i64 un)).heap[w.heap.size]? = some (.cells #[.int .u64 (se : Int), .int .u64 (sq : Int), .int .i64 er, .int .u64 (lz : Int), .int .i64 am, .int .i64 un] 42 (0, 0)) := r5
      have hoth : ∀ q, q ≠ w.heap.size → ((((((w4.setCell ⟨w.heap.size, 0, none⟩ (.int .u64 (se : Int))).setCell ⟨w.heap.size, 1, none⟩ (.int .u64 (sq : Int))).setCell ⟨w.heap.size, 2, none⟩ (.int .i64 er)).setCell ⟨w.heap.size, 3, none⟩ (.int .u64 (lz : Int))).setCell ⟨w.heap.size, 4, none⟩ (.int .i64 am)).setCell ⟨w.heap.size, 5, none⟩ (.int .i64 un)).heap[q]? = w4.heap[q]? := fun q hq => (heap_setCell_other _ ⟨w.heap.size, 5, none⟩ q _ hq).trans ((heap_setCell_other _ ⟨w.heap.size, 4, none⟩ q _ hq).trans ((heap_setCell_other _ ⟨w.heap.size, 3, none⟩ q _ hq).trans ((heap_setCell_other _ ⟨w.heap.size, 2, none⟩ q _ hq).trans ((heap_setCell_other _ ⟨w.heap.size, 1, none⟩ q _ hq).trans (heap_setCell_other _ ⟨w.heap.size, 0, none⟩ q _ hq)))))
      have hsz : ((((((w4.setCell ⟨w.heap.size, 0, none⟩ (.int .u64 (se : Int))).setCell ⟨w.heap.size, 1, none⟩ (.int .u64 (sq : Int))).setCell ⟨w.heap.size, 2, none⟩ (.int .i64 er)).setCell ⟨w.heap.size, 3, none⟩ (.int .u64 (lz : Int))).setCell ⟨w.heap.size, 4, none⟩ (.int .i64 am)).setCell ⟨w.heap.size, 5, none⟩ (.int .i64 un)).heap.size = w4.heap.size := by simp only [size_setCell']
      have hbz := ((((((HB4.out).setCell (p := ⟨w.heap.size, 0, none⟩) (Nat.le_refl _) (.int .u64 (se : Int))).setCell (p := ⟨w.heap.size, 1, none⟩) (Nat.le_refl _) (.int .u64 (sq : Int))).setCell (p := ⟨w.heap.size, 2, none⟩) (Nat.le_refl _) (.int .i64 er)).setCell (p := ⟨w.heap.size, 3, none⟩) (Nat.le_refl _) (.int .u64 (lz : Int))).setCell (p := ⟨w.heap.size, 4, none⟩) (Nat.le_refl _) (.int .i64 am)).setCell (p := ⟨w.heap.size, 5, none⟩) (Nat.le_refl _) (.int .i64 un)
      have hrep := replyK_ok.keep HREP4.out (S' := New w ((((((w4.setCell ⟨w.heap.size, 0, none⟩ (.int .u64 (se : Int))).setCell ⟨w.heap.size, 1, none⟩ (.int .u64 (sq : Int))).setCell ⟨w.heap.size, 2, none⟩ (.int .i64 er)).setCell ⟨w.heap.size, 3, none⟩ (.int .u64 (lz : Int))).setCell ⟨w.heap.size, 4, none⟩ (.int .i64 am)).setCell ⟨w.heap.size, 5, none⟩ (.int .i64 un))) (fun q hq => hoth q (by have := hq.1; omega)) (fun q hq => ⟨by have := hq.1; omega, by rw [hsz]; exact hq.2⟩)
      exact bodyPost_ret (v := .tuple #[.agg #[.int .u64 (se : Int), .int .u64 (sq : Int), .int .i64 er, .int .u64 (lz : Int), .int .i64 am, .int .i64 un], .bool sd]) (results_cell_tmp (fn := Tryz.f10) (p := 2) (q := 3) rfl _ _ w.heap.size 42 #[.int .u64 (se : Int), .int .u64 (sq : Int), .int .i64 er, .int .u64 (lz : Int), .int .i64 am, .int .i64 un] (0, 0) _ rfl hrow Tryz.underlying42 (by kernel_rfl)) rfl ⟨_, by rw [HPW.out, HSD.out, Bool.true_and], hrep, hbz⟩
set_option maxRecDepth 100000 in
set_option maxHeartbeats 4000000 in
theorem refToCommand_any {A : Option Addr} {n c : Nat} {b : List UInt8} (w : World) (hn : n = b.length) (hnc : n ≤ c) (hm : n ≤ 140737488355328) (hr : Lies w w.heap.size A b) :
    Calls Tryz.prog 8 #[.slice A n c] w (RefTo commandK pCommandD b w) := by
  subst hn
  obtain ⟨w0, hw0⟩ : ∃ w0, w0 = (w.alloc (.cells #[.int .u64 0, .int .u64 0, .int .i64 0, .string ⟨#[]⟩, .int .i64 0, .int .i64 0, .int .u64 0] 36)).alloc (.cells #[.slice A b.length c, .int .i64 0, .bool false] 77) := ⟨_, rfl⟩
  have hb0 : Below w.heap.size w w0 := by rw [hw0]; exact ((Below.refl _ _).alloc (Nat.le_refl _) _).alloc (((Below.refl _ _).alloc (Nat.le_refl _) _).size) _
  have hin0 : InAt w.heap.size (w.heap.size + 1) w0 b (some b) := by
    refine ⟨A, c, 0, false, Nat.le_succ _, hnc, hm, ?_, hr.below hb0, Nat.zero_le _, .inr ⟨rfl, rfl⟩⟩
    rw [hw0]; exact heap_alloc2_new w _ _
  have hrr0 : w0.heap[w.heap.size]? = some (.cells #[.int .u64 0, .int .u64 0, .int .i64 0, .string ⟨#[]⟩, .int .i64 0, .int .i64 0, .int .u64 0] 36 (0, 0)) := by rw [hw0]; exact heap_alloc2_old w _ _
  have hsz0 : w0.heap.size = w.heap.size + 1 + 1 := by rw [hw0]; simp
  have hcall := inCommand_any w.heap.size (w.heap.size + 1) b (some b) w0 hin0 hb0.size
  have l0 : (pCommand (some b)).1.1 < 18446744073709551616 := pNum_lt _
  have l1 : (pCommand (some b)).1.2.1 < 18446744073709551616 := pNum_lt _
  have l2 : (pCommand (some b)).1.2.2.1 ≤ 5 := pInt_le' 5 _
  have l3 : ((pCommand (some b)).1.2.2.2.1).length ≤ b.length := Nat.le_trans (Nat.le_trans (Nat.le_trans (pData_len _) (pInt_len _ _)) (pNum_len _)) (pNum_len _)
  have l4 : -9223372036854775808 ≤ (pCommand (some b)).1.2.2.2.2.1 ∧ (pCommand (some b)).1.2.2.2.2.1 ≤ 9223372036854775807 := wrap_in _
  have l5 : -9223372036854775808 ≤ (pCommand (some b)).1.2.2.2.2.2.1 ∧ (pCommand (some b)).1.2.2.2.2.2.1 ≤ 9223372036854775807 := wrap_in _
  have l6 : (pCommand (some b)).1.2.2.2.2.2.2 < 18446744073709551616 := pNum_lt _
  have hd : (pCommandD (some b)).1 = cmdD (pCommand (some b)).1.1 (pCommand (some b)).1.2.1 (((pCommand (some b)).1.2.2.1 : Nat) : Int) (pCommand (some b)).1.2.2.2.1 (pCommand (some b)).1.2.2.2.2.1 (pCommand (some b)).1.2.2.2.2.2.1 (pCommand (some b)).1.2.2.2.2.2.2 := rfl
  have hst : (pCommandD (some b)).2 = (pCommand (some b)).2 := rfl
  unfold RefTo
  rw [hst]
  generalize pCommand (some b) = P at hcall l0 l1 l2 l3 l4 l5 l6 hd ⊢
  obtain ⟨⟨se, sq, op0, ke, am, sp, le⟩, st⟩ := P
  simp only at hcall l0 l1 l2 l3 l4 l5 l6 hd ⊢
  obtain ⟨op, hop⟩ : ∃ op : Int, (op0 : Int) = op := ⟨_, rfl⟩
  rw [hop] at hcall hd
  replace l2 : -9223372036854775808 ≤ op ∧ op ≤ 9223372036854775807 := by omega
  rw [hd]
  generalize hdd : cmdD se sq op ke am sp le = d
  clear hop hd hst
  have hrep0 : ∀ (w : World) (S : Nat → Prop), commandK.rep w S [.int .u64 (se : Int), .int .u64 (sq : Int), .int .i64 op, .string (str ke), .int .i64 am, .int .i64 sp, .int .u64 (le : Int)] d := fun w S => by
    rw [← hdd]
    exact ⟨_, rfl, [_], _, _, _, rfl, rfl, ⟨se, l0, rfl, rfl⟩, [_], _, _, _, rfl, rfl, ⟨sq, l1, rfl, rfl⟩, [_], _, _, _, rfl, rfl, ⟨op, l2.1, l2.2, rfl, rfl⟩, [_], _, _, _, rfl, rfl, ⟨ke, rfl, rfl, Nat.le_trans l3 hm⟩, [_], _, _, _, rfl, rfl, ⟨am, l4.1, l4.2, rfl, rfl⟩, [_], _, _, _, rfl, rfl, ⟨sp, l5.1, l5.2, rfl, rfl⟩, [_], _, _, _, rfl, rfl, ⟨le, l6, rfl, rfl⟩, rfl, rfl⟩
  have HREP0 := Lib.hid hrep0
  have HC := Lib.hid hcall
  have HB0 := Lib.hid hb0
  have HRR0 := Lib.hid hrr0
  have HSZ0 := Lib.hid hsz0
  clear hcall l0 l1 l2 l3 l4 l5 l6 hb0 hrr0 hin0 hr hdd hsz0 hrep0
  go_enter Tryz.func8, Tryz.ntmps8
  go_wp2_with fail
  rw [← hw0]
  refine HC.out.mono ?_
  rintro e w1 ⟨rfl, hin1, hgr1⟩
  clear hw0
  have hz0 := HB0.out.size
  have hs0 := HSZ0.out
  have hz1 := hgr1.size
  have hlt0 := row_lt HRR0.out
  obtain ⟨X, hX⟩ : ∃ X, X = w1.heap.size := ⟨_, rfl⟩
  obtain ⟨w2, hw2⟩ : ∃ w2, w2 = w1.alloc (.cells #[.int .u64 (se : Int), .int .u64 (sq : Int), .int .i64 op, .string (str ke), .int .i64 am, .int .i64 sp, .int .u64 (le : Int)] 36) := ⟨_, rfl⟩
  have hx2 : w2.heap[X]? = some (.cells #[.int .u64 (se : Int), .int .u64 (sq : Int), .int .i64 op, .string (str ke), .int .i64 am, .int .i64 sp, .int .u64 (le : Int)] 36 (0, 0)) := by rw [hw2, hX]; exact heap_alloc_new w1 _
  have hr2 : w2.heap[w.heap.size]? = some (.cells #[.int .u64 0, .int .u64 0, .int .i64 0, .string ⟨#[]⟩, .int .i64 0, .int .i64 0, .int .u64 0] 36 (0, 0)) := by
    rw [hw2, heap_alloc_old w1 _ (by omega), hgr1.block w.heap.size hlt0 (fun e => by have := Option.some.inj e; omega)]; exact HRR0.out
  have hin2 : InAt w.heap.size (w.heap.size + 1) w2 b st := by rw [hw2]; exact hin1.alloc _
  have hb2 : Below w.heap.size w w2 := by
    rw [hw2]
    exact ((HB0.out).grown hgr1 hz0 (fun k e => by have := Option.some.inj e; omega)).alloc (by omega) _
  have hca0 : w2.cell? ⟨X, 0, none⟩ = some (.int .u64 (se : Int)) := by rw [cell_of_row w2 _ 0 _ _ _ hx2]; rfl
  have hca1 : w2.cell? ⟨X, 1, none⟩ = some (.int .u64 (sq : Int)) := by rw [cell_of_row w2 _ 1 _ _ _ hx2]; rfl
  have hca2 : w2.cell? ⟨X, 2, none⟩ = some (.int .i64 op) := by rw [cell_of_row w2 _ 2 _ _ _ hx2]; rfl
  have hca3 : w2.cell? ⟨X, 3, none⟩ = some (.string (str ke)) := by rw [cell_of_row w2 _ 3 _ _ _ hx2]; rfl
  have hca4 : w2.cell? ⟨X, 4, none⟩ = some (.int .i64 am) := by rw [cell_of_row w2 _ 4 _ _ _ hx2]; rfl
  have hca5 : w2.cell? ⟨X, 5, none⟩ = some (.int .i64 sp) := by rw [cell_of_row w2 _ 5 _ _ _ hx2]; rfl
  have hca6 : w2.cell? ⟨X, 6, none⟩ = some (.int .u64 (le : Int)) := by rw [cell_of_row w2 _ 6 _ _ _ hx2]; rfl
  have HX2 := Lib.hid hx2
  have HR2 := Lib.hid hr2
  have HIN2 := Lib.hid hin2
  have HREP2 := Lib.hid (HREP0.out w2 (fun q => w.heap.size + 1 < q ∧ q < w2.heap.size))
  have HB2 := Lib.hid hb2
  have hXg : (some X : Option Nat) ≠ some (w.heap.size + 1) := fun e => by have := Option.some.inj e; omega
  clear hx2 hr2 hin2 hb2 hin1 hgr1 HRR0 HB0 HREP0
  go_wp2
  rw [← hw2, ← hX]
  clear hw2 hX
  have hRg : (some w.heap.size : Option Nat) ≠ some (w.heap.size + 1) := fun e => by have := Option.some.inj e; omega
  have hW := inWhole_any w.heap.size (w.heap.size + 1) b st w2.drew HIN2.out
  obtain ⟨ok, hpw⟩ : ∃ x, pWhole st = x := ⟨_, rfl⟩
  rw [hpw] at hW
  have HPW := Lib.hid hpw
  have HW := Lib.hid hW
  clear hpw hW
  cases ok with
  | false =>
    go_region_law ((go_simp; go_at_call 27; refine HW.out.mono ?_; rintro e w3 ⟨rfl, hin3, hgr3⟩
                    have hgr : w2.grownBy w3 (some (w.heap.size + 1)) := ⟨hgr3.os, hgr3.tape, hgr3.output, hgr3.size, hgr3.block⟩
                    have hx := (hgr.block X (row_lt HX2.out) hXg).trans HX2.out
                    have hr := (hgr.block w.heap.size (row_lt HR2.out) hRg).trans HR2.out
                    have hc0w3 : w3.cell? ⟨X, 0, none⟩ = some (.int .u64 (se : Int)) := by rw [cell_of_row w3 _ 0 _ _ _ hx]; rfl
                    have hz0w3 : w3.cell? ⟨w.heap.size, 0, none⟩ = some (.int .u64 0) := by rw [cell_of_row w3 _ 0 _ _ _ hr]; rfl
                    have hf0w3 : w3.frozen? ⟨w.heap.size, 0, none⟩ = false := frozen_of_row w3 _ 0 _ _ hr
                    have hc1w3 : w3.cell? ⟨X, 1, none⟩ = some (.int .u64 (sq : Int)) := by rw [cell_of_row w3 _ 1 _ _ _ hx]; rfl
                    have hz1w3 : w3.cell? ⟨w.heap.size, 1, none⟩ = some (.int .u64 0) := by rw [cell_of_row w3 _ 1 _ _ _ hr]; rfl
                    have hf1w3 : w3.frozen? ⟨w.heap.size, 1, none⟩ = false := frozen_of_row w3 _ 1 _ _ hr
                    have hc2w3 : w3.cell? ⟨X, 2, none⟩ = some (.int .i64 op) := by rw [cell_of_row w3 _ 2 _ _ _ hx]; rfl
                    have hz2w3 : w3.cell? ⟨w.heap.size, 2, none⟩ = some (.int .i64 0) := by rw [cell_of_row w3 _ 2 _ _ _ hr]; rfl
                    have hf2w3 : w3.frozen? ⟨w.heap.size, 2, none⟩ = false := frozen_of_row w3 _ 2 _ _ hr
                    have hc3w3 : w3.cell? ⟨X, 3, none⟩ = some (.string (str ke)) := by rw [cell_of_row w3 _ 3 _ _ _ hx]; rfl
                    have hz3w3 : w3.cell? ⟨w.heap.size, 3, none⟩ = some (.string ⟨#[]⟩) := by rw [cell_of_row w3 _ 3 _ _ _ hr]; rfl
                    have hf3w3 : w3.frozen? ⟨w.heap.size, 3, none⟩ = false := frozen_of_row w3 _ 3 _ _ hr
                    have hc4w3 : w3.cell? ⟨X, 4, none⟩ = some (.int .i64 am) := by rw [cell_of_row w3 _ 4 _ _ _ hx]; rfl
                    have hz4w3 : w3.cell? ⟨w.heap.size, 4, none⟩ = some (.int .i64 0) := by rw [cell_of_row w3 _ 4 _ _ _ hr]; rfl
                    have hf4w3 : w3.frozen? ⟨w.heap.size, 4, none⟩ = false := frozen_of_row w3 _ 4 _ _ hr
                    have hc5w3 : w3.cell? ⟨X, 5, none⟩ = some (.int .i64 sp) := by rw [cell_of_row w3 _ 5 _ _ _ hx]; rfl
                    have hz5w3 : w3.cell? ⟨w.heap.size, 5, none⟩ = some (.int .i64 0) := by rw [cell_of_row w3 _ 5 _ _ _ hr]; rfl
                    have hf5w3 : w3.frozen? ⟨w.heap.size, 5, none⟩ = false := frozen_of_row w3 _ 5 _ _ hr
                    have hc6w3 : w3.cell? ⟨X, 6, none⟩ = some (.int .u64 (le : Int)) := by rw [cell_of_row w3 _ 6 _ _ _ hx]; rfl
                    have hz6w3 : w3.cell? ⟨w.heap.size, 6, none⟩ = some (.int .u64 0) := by rw [cell_of_row w3 _ 6 _ _ _ hr]; rfl
                    have hf6w3 : w3.frozen? ⟨w.heap.size, 6, none⟩ = false := frozen_of_row w3 _ 6 _ _ hr
                    have HR3 := Lib.hid hr
                    have HX3 := Lib.hid hx
                    have HREP3 := Lib.hid (commandK_ok.keep HREP2.out (S' := (fun q => w.heap.size + 1 < q ∧ q < w3.heap.size)) (fun q hq => hgr.block q hq.2 (fun e => by have := Option.some.inj e; have := hq.1; omega)) (fun q hq => ⟨hq.1, Nat.lt_of_lt_of_le hq.2 hgr.size⟩))
                    have HB3 := Lib.hid (HB2.out.grown hgr HB2.out.size (fun k e => by have := Option.some.inj e; omega))
                    clear hin3 hgr3 hgr hx hr))
    all_goals
      go_wp2
      have r0 := heap_setCell_same w3 w.heap.size 0 _ _ (.int .u64 (se : Int)) HR3.out
      have r1 := heap_setCell_same (w3.setCell ⟨w.heap.size, 0, none⟩ (.int .u64 (se : Int))) w.heap.size 1 _ _ (.int .u64 (sq : Int)) r0
      have r2 := heap_setCell_same ((w3.setCell ⟨w.heap.size, 0, none⟩ (.int .u64 (se : Int))).setCell ⟨w.heap.size, 1, none⟩ (.int .u64 (sq : Int))) w.heap.size 2 _ _ (.int .i64 op) r1
      have r3 := heap_setCell_same (((w3.setCell ⟨w.heap.size, 0, none⟩ (.int .u64 (se : Int))).setCell ⟨w.heap.size, 1, none⟩ (.int .u64 (sq : Int))).setCell ⟨w.heap.size, 2, none⟩ (.int .i64 op)) w.heap.size 3 _ _ (.string (str ke)) r2
      have r4 := heap_setCell_same ((((w3.setCell ⟨w.heap.size, 0, none⟩ (.int .u64 (se : Int))).setCell ⟨w.heap.size, 1, none⟩ (.int .u64 (sq : Int))).setCell ⟨w.heap.size, 2, none⟩ (.int .i64 op)).setCell ⟨w.heap.size, 3, none⟩ (.string (str ke))) w.heap.size 4 _ _ (.int .i64 am) r3
      have r5 := heap_setCell_same (((((w3.setCell ⟨w.heap.size, 0, none⟩ (.int .u64 (se : Int))).setCell ⟨w.heap.size, 1, none⟩ (.int .u64 (sq : Int))).setCell ⟨w.heap.size, 2, none⟩ (.int .i64 op)).setCell ⟨w.heap.size, 3, none⟩ (.string (str ke))).setCell ⟨w.heap.size, 4, none⟩ (.int .i64 am)) w.heap.size 5 _ _ (.int .i64 sp) r4
      have r6 := heap_setCell_same ((((((w3.setCell ⟨w.heap.size, 0, none⟩ (.int .u64 (se : Int))).setCell ⟨w.heap.size, 1, none⟩ (.int .u64 (sq : Int))).setCell ⟨w.heap.size, 2, none⟩ (.int .i64 op)).setCell ⟨w.heap.size, 3, none⟩ (.string (str ke))).setCell ⟨w.heap.size, 4, none⟩ (.int .i64 am)).setCell ⟨w.heap.size, 5, none⟩ (.int .i64 sp)) w.heap.size 6 _ _ (.int .u64 (le : Int)) r5
      have hrow : (((((((w3.setCell ⟨w.heap.size, 0, none⟩ (.int .u64 (se : Int))).setCell ⟨w.heap.size, 1, none⟩ (.int .u64 (sq : Int))).setCell ⟨w.heap.size, 2, none⟩ (.int .i64 op)).setCell ⟨w.heap.size, 3, none⟩ (.string (str ke))).setCell ⟨w.heap.size, 4, none⟩ (.int .i64 am)).setCell ⟨w.heap.size, 5, none⟩ (.int .i64 sp)).setCell ⟨w.heap.size, 6, none⟩ (.int .u64 (le : Int))).heap[w.heap.size]? = some (.cells #[.int .u64 (se : Int), .int .u64 (sq : Int), .int .i64 op, .string (str ke), .int .i64 am, .int .i64 sp, .int .u64 (le : Int)] 36 (0, 0)) := r6
      have hoth : ∀ q, q ≠ w.heap.size → (((((((w3.setCell ⟨w.heap.size, 0, none⟩ (.int .u64 (se : Int))).setCell ⟨w.heap.size, 1, none⟩ (.int .u64 (sq : Int))).setCell ⟨w.heap.size, 2, none⟩ (.int .i64 op)).setCell ⟨w.heap.size, 3, none⟩ (.string (str ke))).setCell ⟨w.heap.size, 4, none⟩ (.int .i64 am)).setCell ⟨w.heap.size, 5, none⟩ (.int .i64 sp)).setCell ⟨w.heap.size, 6, none⟩ (.int .u64 (le : Int))).heap[q]? = w3.heap[q]? := fun q hq => (heap_setCell_other _ ⟨w.heap.size, 6, none⟩ q _ hq).trans ((heap_setCell_other _ ⟨w.heap.size, 5, none⟩ q _ hq).trans ((heap_setCell_other _ ⟨w.heap.size, 4, none⟩ q _ hq).trans ((heap_setCell_other _ ⟨w.heap.size, 3, none⟩ q _ hq).trans ((heap_setCell_other _ ⟨w.heap.size, 2, none⟩ q _ hq).trans ((heap_setCell_other _ ⟨w.heap.size, 1, none⟩ q _ hq).trans (heap_setCell_other _ ⟨w.heap.size, 0, none⟩ q _ hq))))))
      have hsz : (((((((w3.setCell ⟨w.heap.size, 0, none⟩ (.int .u64 (se : Int))).setCell ⟨w.heap.size, 1, none⟩ (.int .u64 (sq : Int))).setCell ⟨w.heap.size, 2, none⟩ (.int .i64 op)).setCell ⟨w.heap.size, 3, none⟩ (.string (str ke))).setCell ⟨w.heap.size, 4, none⟩ (.int .i64 am)).setCell ⟨w.heap.size, 5, none⟩ (.int .i64 sp)).setCell ⟨w.heap.size, 6, none⟩ (.int .u64 (le : Int))).heap.size = w3.heap.size := by simp only [size_setCell']
      have hbz := (((((((HB3.out).setCell (p := ⟨w.heap.size, 0, none⟩) (Nat.le_refl _) (.int .u64 (se : Int))).setCell (p := ⟨w.heap.size, 1, none⟩) (Nat.le_refl _) (.int .u64 (sq : Int))).setCell (p := ⟨w.heap.size, 2, none⟩) (Nat.le_refl _) (.int .i64 op)).setCell (p := ⟨w.heap.size, 3, none⟩) (Nat.le_refl _) (.string (str ke))).setCell (p := ⟨w.heap.size, 4, none⟩) (Nat.le_refl _) (.int .i64 am)).setCell (p := ⟨w.heap.size, 5, none⟩) (Nat.le_refl _) (.int .i64 sp)).setCell (p := ⟨w.heap.size, 6, none⟩) (Nat.le_refl _) (.int .u64 (le : Int))
      have hrep := commandK_ok.keep HREP3.out (S' := New w (((((((w3.setCell ⟨w.heap.size, 0, none⟩ (.int .u64 (se : Int))).setCell ⟨w.heap.size, 1, none⟩ (.int .u64 (sq : Int))).setCell ⟨w.heap.size, 2, none⟩ (.int .i64 op)).setCell ⟨w.heap.size, 3, none⟩ (.string (str ke))).setCell ⟨w.heap.size, 4, none⟩ (.int .i64 am)).setCell ⟨w.heap.size, 5, none⟩ (.int .i64 sp)).setCell ⟨w.heap.size, 6, none⟩ (.int .u64 (le : Int)))) (fun q hq => hoth q (by have := hq.1; omega)) (fun q hq => ⟨by have := hq.1; omega, by rw [hsz]; exact hq.2⟩)
      exact bodyPost_ret (v := .tuple #[.agg #[.int .u64 (se : Int), .int .u64 (sq : Int), .int .i64 op, .string (str ke), .int .i64 am, .int .i64 sp, .int .u64 (le : Int)], .bool false]) (results_cell_tmp (fn := Tryz.f8) (p := 2) (q := 3) rfl _ _ w.heap.size 36 #[.int .u64 (se : Int), .int .u64 (sq : Int), .int .i64 op, .string (str ke), .int .i64 am, .int .i64 sp, .int .u64 (le : Int)] (0, 0) _ rfl hrow Tryz.underlying36 (by kernel_rfl)) rfl ⟨_, by rw [HPW.out, Bool.false_and], hrep, hbz⟩
  | true =>
    obtain ⟨sd, hsd⟩ : ∃ x, commandK.sound d = x := ⟨_, rfl⟩
    have HSD := Lib.hid hsd
    have HOK := Lib.hid (fun (w : World) (h : commandK.rep w (Old w) [.int .u64 (se : Int), .int .u64 (sq : Int), .int .i64 op, .string (str ke), .int .i64 am, .int .i64 sp, .int .u64 (le : Int)] d) => hsd ▸ cmd_ok w h)
    clear hsd
    go_region_law (first
      | (go_simp; go_at_call 27; refine HW.out.mono ?_; rintro e w3 ⟨rfl, hin3, hgr3⟩
         have hgr : w2.grownBy w3 (some (w.heap.size + 1)) := ⟨hgr3.os, hgr3.tape, hgr3.output, hgr3.size, hgr3.block⟩
         have hx := (hgr.block X (row_lt HX2.out) hXg).trans HX2.out
         have hr := (hgr.block w.heap.size (row_lt HR2.out) hRg).trans HR2.out
         have hc0w3 : w3.cell? ⟨X, 0, none⟩ = some (.int .u64 (se : Int)) := by rw [cell_of_row w3 _ 0 _ _ _ hx]; rfl
         have hz0w3 : w3.cell? ⟨w.heap.size, 0, none⟩ = some (.int .u64 0) := by rw [cell_of_row w3 _ 0 _ _ _ hr]; rfl
         have hf0w3 : w3.frozen? ⟨w.heap.size, 0, none⟩ = false := frozen_of_row w3 _ 0 _ _ hr
         have hc1w3 : w3.cell? ⟨X, 1, none⟩ = some (.int .u64 (sq : Int)) := by rw [cell_of_row w3 _ 1 _ _ _ hx]; rfl
         have hz1w3 : w3.cell? ⟨w.heap.size, 1, none⟩ = some (.int .u64 0) := by rw [cell_of_row w3 _ 1 _ _ _ hr]; rfl
         have hf1w3 : w3.frozen? ⟨w.heap.size, 1, none⟩ = false := frozen_of_row w3 _ 1 _ _ hr
         have hc2w3 : w3.cell? ⟨X, 2, none⟩ = some (.int .i64 op) := by rw [cell_of_row w3 _ 2 _ _ _ hx]; rfl
         have hz2w3 : w3.cell? ⟨w.heap.size, 2, none⟩ = some (.int .i64 0) := by rw [cell_of_row w3 _ 2 _ _ _ hr]; rfl
         have hf2w3 : w3.frozen? ⟨w.heap.size, 2, none⟩ = false := frozen_of_row w3 _ 2 _ _ hr
         have hc3w3 : w3.cell? ⟨X, 3, none⟩ = some (.string (str ke)) := by rw [cell_of_row w3 _ 3 _ _ _ hx]; rfl
         have hz3w3 : w3.cell? ⟨w.heap.size, 3, none⟩ = some (.string ⟨#[]⟩) := by rw [cell_of_row w3 _ 3 _ _ _ hr]; rfl
         have hf3w3 : w3.frozen? ⟨w.heap.size, 3, none⟩ = false := frozen_of_row w3 _ 3 _ _ hr
         have hc4w3 : w3.cell? ⟨X, 4, none⟩ = some (.int .i64 am) := by rw [cell_of_row w3 _ 4 _ _ _ hx]; rfl
         have hz4w3 : w3.cell? ⟨w.heap.size, 4, none⟩ = some (.int .i64 0) := by rw [cell_of_row w3 _ 4 _ _ _ hr]; rfl
         have hf4w3 : w3.frozen? ⟨w.heap.size, 4, none⟩ = false := frozen_of_row w3 _ 4 _ _ hr
         have hc5w3 : w3.cell? ⟨X, 5, none⟩ = some (.int .i64 sp) := by rw [cell_of_row w3 _ 5 _ _ _ hx]; rfl
         have hz5w3 : w3.cell? ⟨w.heap.size, 5, none⟩ = some (.int .i64 0) := by rw [cell_of_row w3 _ 5 _ _ _ hr]; rfl
         have hf5w3 : w3.frozen? ⟨w.heap.size, 5, none⟩ = false := frozen_of_row w3 _ 5 _ _ hr
         have hc6w3 : w3.cell? ⟨X, 6, none⟩ = some (.int .u64 (le : Int)) := by rw [cell_of_row w3 _ 6 _ _ _ hx]; rfl
         have hz6w3 : w3.cell? ⟨w.heap.size, 6, none⟩ = some (.int .u64 0) := by rw [cell_of_row w3 _ 6 _ _ _ hr]; rfl
         have hf6w3 : w3.frozen? ⟨w.heap.size, 6, none⟩ = false := frozen_of_row w3 _ 6 _ _ hr
         have HR3 := Lib.hid hr
         have HX3 := Lib.hid hx
         have HREP3 := Lib.hid (commandK_ok.keep HREP2.out (S' := (fun q => w.heap.size + 1 < q ∧ q < w3.heap.size)) (fun q hq => hgr.block q hq.2 (fun e => by have := Option.some.inj e; have := hq.1; omega)) (fun q hq => ⟨hq.1, Nat.lt_of_lt_of_le hq.2 hgr.size⟩))
         have HB3 := Lib.hid (HB2.out.grown hgr HB2.out.size (fun k e => by have := Option.some.inj e; omega))
         clear hin3 hgr3 hgr hx hr)
      | (go_simp; go_at_call 32; refine (HOK.out _ (commandK_ok.keep HREP3.out (S' := Old w3) (fun _ _ => rfl) (fun q hq => hq.2))).mono ?_; rintro e w4 ⟨rfl, hb4⟩
         have hx := (hb4.block X (row_lt HX3.out)).trans HX3.out
         have hr := (hb4.block w.heap.size (row_lt HR3.out)).trans HR3.out
         have hc0w4 : w4.cell? ⟨X, 0, none⟩ = some (.int .u64 (se : Int)) := by rw [cell_of_row w4 _ 0 _ _ _ hx]; rfl
         have hz0w4 : w4.cell? ⟨w.heap.size, 0, none⟩ = some (.int .u64 0) := by rw [cell_of_row w4 _ 0 _ _ _ hr]; rfl
         have hf0w4 : w4.frozen? ⟨w.heap.size, 0, none⟩ = false := frozen_of_row w4 _ 0 _ _ hr
         have hc1w4 : w4.cell? ⟨X, 1, none⟩ = some (.int .u64 (sq : Int)) := by rw [cell_of_row w4 _ 1 _ _ _ hx]; rfl
         have hz1w4 : w4.cell? ⟨w.heap.size, 1, none⟩ = some (.int .u64 0) := by rw [cell_of_row w4 _ 1 _ _ _ hr]; rfl
         have hf1w4 : w4.frozen? ⟨w.heap.size, 1, none⟩ = false := frozen_of_row w4 _ 1 _ _ hr
         have hc2w4 : w4.cell? ⟨X, 2, none⟩ = some (.int .i64 op) := by rw [cell_of_row w4 _ 2 _ _ _ hx]; rfl
         have hz2w4 : w4.cell? ⟨w.heap.size, 2, none⟩ = some (.int .i64 0) := by rw [cell_of_row w4 _ 2 _ _ _ hr]; rfl
         have hf2w4 : w4.frozen? ⟨w.heap.size, 2, none⟩ = false := frozen_of_row w4 _ 2 _ _ hr
         have hc3w4 : w4.cell? ⟨X, 3, none⟩ = some (.string (str ke)) := by rw [cell_of_row w4 _ 3 _ _ _ hx]; rfl
         have hz3w4 : w4.cell? ⟨w.heap.size, 3, none⟩ = some (.string ⟨#[]⟩) := by rw [cell_of_row w4 _ 3 _ _ _ hr]; rfl
         have hf3w4 : w4.frozen? ⟨w.heap.size, 3, none⟩ = false := frozen_of_row w4 _ 3 _ _ hr
         have hc4w4 : w4.cell? ⟨X, 4, none⟩ = some (.int .i64 am) := by rw [cell_of_row w4 _ 4 _ _ _ hx]; rfl
         have hz4w4 : w4.cell? ⟨w.heap.size, 4, none⟩ = some (.int .i64 0) := by rw [cell_of_row w4 _ 4 _ _ _ hr]; rfl
         have hf4w4 : w4.frozen? ⟨w.heap.size, 4, none⟩ = false := frozen_of_row w4 _ 4 _ _ hr
         have hc5w4 : w4.cell? ⟨X, 5, none⟩ = some (.int .i64 sp) := by rw [cell_of_row w4 _ 5 _ _ _ hx]; rfl
         have hz5w4 : w4.cell? ⟨w.heap.size, 5, none⟩ = some (.int .i64 0) := by rw [cell_of_row w4 _ 5 _ _ _ hr]; rfl
         have hf5w4 : w4.frozen? ⟨w.heap.size, 5, none⟩ = false := frozen_of_row w4 _ 5 _ _ hr
         have hc6w4 : w4.cell? ⟨X, 6, none⟩ = some (.int .u64 (le : Int)) := by rw [cell_of_row w4 _ 6 _ _ _ hx]; rfl
         have hz6w4 : w4.cell? ⟨w.heap.size, 6, none⟩ = some (.int .u64 0) := by rw [cell_of_row w4 _ 6 _ _ _ hr]; rfl
         have hf6w4 : w4.frozen? ⟨w.heap.size, 6, none⟩ = false := frozen_of_row w4 _ 6 _ _ hr
         have HR4 := Lib.hid hr
         have HREP4 := Lib.hid (commandK_ok.keep HREP3.out (S' := (fun q => w.heap.size + 1 < q ∧ q < w4.heap.size)) (fun q hq => hb4.block q hq.2) (fun q hq => ⟨hq.1, Nat.lt_of_lt_of_le hq.2 hb4.size⟩))
         have HB4 := Lib.hid (HB3.out.trans (hb4.mono HB3.out.size))
         clear hx hr hb4))
    all_goals
      go_wp2
      have r0 := heap_setCell_same w4 w.heap.size 0 _ _ (.int .u64 (se : Int)) HR4.out
      have r1 := heap_setCell_same (w4.setCell ⟨w.heap.size, 0, none⟩ (.int .u64 (se : Int))) w.heap.size 1 _ _ (.int .u64 (sq : Int)) r0
      have r2 := heap_setCell_same ((w4.setCell ⟨w.heap.size, 0, none⟩ (.int .u64 (se : Int))).setCell ⟨w.heap.size, 1, none⟩ (.int .u64 (sq : Int))) w.heap.size 2 _ _ (.int .i64 op) r1
      have r3 := heap_setCell_same (((w4.setCell ⟨w.heap.size, 0, none⟩ (.int .u64 (se : Int))).setCell ⟨w.heap.size, 1, none⟩ (.int .u64 (sq : Int))).setCell ⟨w.heap.size, 2, none⟩ (.int .i64 op)) w.heap.size 3 _ _ (.string (str ke)) r2
      have r4 := heap_setCell_same ((((w4.setCell ⟨w.heap.size, 0, none⟩ (.int .u64 (se : Int))).setCell ⟨w.heap.size, 1, none⟩ (.int .u64 (sq : Int))).setCell ⟨w.heap.size, 2, none⟩ (.int .i64 op)).setCell ⟨w.heap.size, 3, none⟩ (.string (str ke))) w.heap.size 4 _ _ (.int .i64 am) r3
      have r5 := heap_setCell_same (((((w4.setCell ⟨w.heap.size, 0, none⟩ (.int .u64 (se : Int))).setCell ⟨w.heap.size, 1, none⟩ (.int .u64 (sq : Int))).setCell ⟨w.heap.size, 2, none⟩ (.int .i64 op)).setCell ⟨w.heap.size, 3, none⟩ (.string (str ke))).setCell ⟨w.heap.size, 4, none⟩ (.int .i64 am)) w.heap.size 5 _ _ (.int .i64 sp) r4
      have r6 := heap_setCell_same ((((((w4.setCell ⟨w.heap.size, 0, none⟩ (.int .u64 (se : Int))).setCell ⟨w.heap.size, 1, none⟩ (.int .u64 (sq : Int))).setCell ⟨w.heap.size, 2, none⟩ (.int .i64 op)).setCell ⟨w.heap.size, 3, none⟩ (.string (str ke))).setCell ⟨w.heap.size, 4, none⟩ (.int .i64 am)).setCell ⟨w.heap.size, 5, none⟩ (.int .i64 sp)) w.heap.size 6 _ _ (.int .u64 (le : Int)) r5
      have hrow : (((((((w4.setCell ⟨w.heap.size, 0, none⟩ (.int .u64 (se : Int))).setCell ⟨w.heap.size, 1, none⟩ (.int .u64 (sq : Int))).setCell ⟨w.heap.size, 2, none⟩ (.int .i64 op)).setCell ⟨w.heap.size, 3, none⟩ (.string (str ke))).setCell ⟨w.heap.size, 4, none⟩ (.int .i64 am)).setCell ⟨w.heap.size, 5, none⟩ (.int .i64 sp)).setCell ⟨w.heap.size, 6, none⟩ (.int .u64 (le : Int))).heap[w.heap.size]? = some (.cells #[.int .u64 (se : Int), .int .u64 (sq : Int), .int .i64 op, .string (str ke), .int .i64 am, .int .i64 sp, .int .u64 (le : Int)] 36 (0, 0)) := r6
      have hoth : ∀ q, q ≠ w.heap.size → (((((((w4.setCell ⟨w.heap.size, 0, none⟩ (.int .u64 (se : Int))).setCell ⟨w.heap.size, 1, none⟩ (.int .u64 (sq : Int))).setCell ⟨w.heap.size, 2, none⟩ (.int .i64 op)).setCell ⟨w.heap.size, 3, none⟩ (.string (str ke))).setCell ⟨w.heap.size, 4, none⟩ (.int .i64 am)).setCell ⟨w.heap.size, 5, none⟩ (.int .i64 sp)).setCell ⟨w.heap.size, 6, none⟩ (.int .u64 (le : Int))).heap[q]? = w4.heap[q]? := fun q hq => (heap_setCell_other _ ⟨w.heap.size, 6, none⟩ q _ hq).trans ((heap_setCell_other _ ⟨w.heap.size, 5, none⟩ q _ hq).trans ((heap_setCell_other _ ⟨w.heap.size, 4, none⟩ q _ hq).trans ((heap_setCell_other _ ⟨w.heap.size, 3, none⟩ q _ hq).trans ((heap_setCell_other _ ⟨w.heap.size, 2, none⟩ q _ hq).trans ((heap_setCell_other _ ⟨w.heap.size, 1, none⟩ q _ hq).trans (heap_setCell_other _ ⟨w.heap.size, 0, none⟩ q _ hq))))))
      have hsz : (((((((w4.setCell ⟨w.heap.size, 0, none⟩ (.int .u64 (se : Int))).setCell ⟨w.heap.size, 1, none⟩ (.int .u64 (sq : Int))).setCell ⟨w.heap.size, 2, none⟩ (.int .i64 op)).setCell ⟨w.heap.size, 3, none⟩ (.string (str ke))).setCell ⟨w.heap.size, 4, none⟩ (.int .i64 am)).setCell ⟨w.heap.size, 5, none⟩ (.int .i64 sp)).setCell ⟨w.heap.size, 6, none⟩ (.int .u64 (le : Int))).heap.size = w4.heap.size := by simp only [size_setCell']
      have hbz := (((((((HB4.out).setCell (p := ⟨w.heap.size, 0, none⟩) (Nat.le_refl _) (.int .u64 (se : Int))).setCell (p := ⟨w.heap.size, 1, none⟩) (Nat.le_refl _) (.int .u64 (sq : Int))).setCell (p := ⟨w.heap.size, 2, none⟩) (Nat.le_refl _) (.int .i64 op)).setCell (p := ⟨w.heap.size, 3, none⟩) (Nat.le_refl _) (.string (str ke))).setCell (p := ⟨w.heap.size, 4, none⟩) (Nat.le_refl _) (.int .i64 am)).setCell (p := ⟨w.heap.size, 5, none⟩) (Nat.le_refl _) (.int .i64 sp)).setCell (p := ⟨w.heap.size, 6, none⟩) (Nat.le_refl _) (.int .u64 (le : Int))
      have hrep := commandK_ok.keep HREP4.out (S' := New w (((((((w4.setCell ⟨w.heap.size, 0, none⟩ (.int .u64 (se : Int))).setCell ⟨w.heap.size, 1, none⟩ (.int .u64 (sq : Int))).setCell ⟨w.heap.size, 2, none⟩ (.int .i64 op)).setCell ⟨w.heap.size, 3, none⟩ (.string (str ke))).setCell ⟨w.heap.size, 4, none⟩ (.int .i64 am)).setCell ⟨w.heap.size, 5, none⟩ (.int .i64 sp)).setCell ⟨w.heap.size, 6, none⟩ (.int .u64 (le : Int)))) (fun q hq => hoth q (by have := hq.1; omega)) (fun q hq => ⟨by have := hq.1; omega, by rw [hsz]; exact hq.2⟩)
      exact bodyPost_ret (v := .tuple #[.agg #[.int .u64 (se : Int), .int .u64 (sq : Int), .int .i64 op, .string (str ke), .int .i64 am, .int .i64 sp, .int .u64 (le : Int)], .bool sd]) (results_cell_tmp (fn := Tryz.f8) (p := 2) (q := 3) rfl _ _ w.heap.size 36 #[.int .u64 (se : Int), .int .u64 (sq : Int), .int .i64 op, .string (str ke), .int .i64 am, .int .i64 sp, .int .u64 (le : Int)] (0, 0) _ rfl hrow Tryz.underlying36 (by kernel_rfl)) rfl ⟨_, by rw [HPW.out, HSD.out, Bool.true_and], hrep, hbz⟩
end Go.Proofs.YtlgbipmmpocepaaGreat.Kd

/-! Package scupperref03's ToAsk, ToTold, as contracts of calls. Written by gentalk2.py. -/
namespace Go.Proofs.YtlgbipmmpocepaaGreat.Kd
open Go.RowKit By CoP Co Mo

def pAskD : Rdr := pRec [pFlagD, pFlagD, pNumD, pCommandD, pDataD]
def pToldD : Rdr := pRec [pNumD, pFlagD, pIntD 16, pReplyD, pI64D, pI64D]
theorem pCommandD_eq (s : St) : pCommandD s = (cmdD (pCommand s).1.1 (pCommand s).1.2.1 ((pCommand s).1.2.2.1 : Nat) (pCommand s).1.2.2.2.1 (pCommand s).1.2.2.2.2.1 (pCommand s).1.2.2.2.2.2.1 (pCommand s).1.2.2.2.2.2.2, (pCommand s).2) := rfl
theorem pReplyD_eq (s : St) : pReplyD s = (repD (pReply s).1.1 (pReply s).1.2.1 ((pReply s).1.2.2.1 : Nat) (pReply s).1.2.2.2.1 (pReply s).1.2.2.2.2.1 (pReply s).1.2.2.2.2.2, (pReply s).2) := rfl
theorem cmd_rep (w : World) (S : Nat → Prop) {se sq : Nat} {op : Int} {ke : List UInt8} {am sp : Int} {le : Nat} (h0 : se < 18446744073709551616) (h1 : sq < 18446744073709551616) (h2 : -9223372036854775808 ≤ op ∧ op ≤ 9223372036854775807) (h3 : ke.length ≤ 140737488355328) (h4 : -9223372036854775808 ≤ am ∧ am ≤ 9223372036854775807) (h5 : -9223372036854775808 ≤ sp ∧ sp ≤ 9223372036854775807) (h6 : le < 18446744073709551616) :
    commandK.rep w S [.int .u64 (se : Int), .int .u64 (sq : Int), .int .i64 op, .string (str ke), .int .i64 am, .int .i64 sp, .int .u64 (le : Int)] (cmdD se sq op ke am sp le) :=
  ⟨_, rfl, [_], _, _, _, rfl, rfl, ⟨se, h0, rfl, rfl⟩, [_], _, _, _, rfl, rfl, ⟨sq, h1, rfl, rfl⟩, [_], _, _, _, rfl, rfl, ⟨op, h2.1, h2.2, rfl, rfl⟩, [_], _, _, _, rfl, rfl, ⟨ke, rfl, rfl, h3⟩, [_], _, _, _, rfl, rfl, ⟨am, h4.1, h4.2, rfl, rfl⟩, [_], _, _, _, rfl, rfl, ⟨sp, h5.1, h5.2, rfl, rfl⟩, [_], _, _, _, rfl, rfl, ⟨le, h6, rfl, rfl⟩, rfl, rfl⟩
theorem rep_rep (w : World) (S : Nat → Prop) {se sq : Nat} {er : Int} {lz : Nat} {am un : Int} (h0 : se < 18446744073709551616) (h1 : sq < 18446744073709551616) (h2 : -9223372036854775808 ≤ er ∧ er ≤ 9223372036854775807) (h3 : lz < 18446744073709551616) (h4 : -9223372036854775808 ≤ am ∧ am ≤ 9223372036854775807) (h5 : -9223372036854775808 ≤ un ∧ un ≤ 9223372036854775807) :
    replyK.rep w S [.int .u64 (se : Int), .int .u64 (sq : Int), .int .i64 er, .int .u64 (lz : Int), .int .i64 am, .int .i64 un] (repD se sq er lz am un) :=
  ⟨_, rfl, [_], _, _, _, rfl, rfl, ⟨se, h0, rfl, rfl⟩, [_], _, _, _, rfl, rfl, ⟨sq, h1, rfl, rfl⟩, [_], _, _, _, rfl, rfl, ⟨er, h2.1, h2.2, rfl, rfl⟩, [_], _, _, _, rfl, rfl, ⟨lz, h3, rfl, rfl⟩, [_], _, _, _, rfl, rfl, ⟨am, h4.1, h4.2, rfl, rfl⟩, [_], _, _, _, rfl, rfl, ⟨un, h5.1, h5.2, rfl, rfl⟩, rfl, rfl⟩
theorem pCommand_lim (s : St) : (pCommand s).1.1 < 18446744073709551616 ∧ (pCommand s).1.2.1 < 18446744073709551616 ∧ (pCommand s).1.2.2.1 ≤ 5 ∧ (pCommand s).1.2.2.2.1.length ≤ stLen s ∧ (-9223372036854775808 ≤ (pCommand s).1.2.2.2.2.1 ∧ (pCommand s).1.2.2.2.2.1 ≤ 9223372036854775807) ∧ (-9223372036854775808 ≤ (pCommand s).1.2.2.2.2.2.1 ∧ (pCommand s).1.2.2.2.2.2.1 ≤ 9223372036854775807) ∧ (pCommand s).1.2.2.2.2.2.2 < 18446744073709551616 :=
  ⟨pNum_lt _, pNum_lt _, pInt_le' 5 _, Nat.le_trans (pData_len _) (Nat.le_trans (pInt_len _ _) (Nat.le_trans (pNum_len _) (pNum_len _))), wrap_in _, wrap_in _, pNum_lt _⟩
theorem pReply_lim (s : St) : (pReply s).1.1 < 18446744073709551616 ∧ (pReply s).1.2.1 < 18446744073709551616 ∧ (pReply s).1.2.2.1 ≤ 20 ∧ (pReply s).1.2.2.2.1 < 18446744073709551616 ∧ (-9223372036854775808 ≤ (pReply s).1.2.2.2.2.1 ∧ (pReply s).1.2.2.2.2.1 ≤ 9223372036854775807) ∧ (-9223372036854775808 ≤ (pReply s).1.2.2.2.2.2 ∧ (pReply s).1.2.2.2.2.2 ≤ 9223372036854775807) :=
  ⟨pNum_lt _, pNum_lt _, pInt_le' 20 _, pNum_lt _, wrap_in _, wrap_in _⟩
theorem pData_st (s : St) : stLen (pData s).2 ≤ stLen s := by
  cases s with
  | none => exact Nat.le_refl _
  | some r =>
    by_cases h : (bytesR r).2.2 = 0
    · have e : pData (some r) = ((bytesR r).1, some (r.drop (bytesR r).2.1)) := by simp [pData, h]
      rw [e]
      show (r.drop _).length ≤ r.length
      rw [List.length_drop]; omega
    · have e : pData (some r) = ([], none) := by simp [pData, h]
      rw [e]
      exact Nat.zero_le _
theorem pCommand_st (s : St) : stLen (pCommand s).2 ≤ stLen s := Nat.le_trans (pNum_len _) (Nat.le_trans (pNum_len _) (Nat.le_trans (pNum_len _) (Nat.le_trans (pData_st _) (Nat.le_trans (pInt_len _ _) (Nat.le_trans (pNum_len _) (pNum_len _))))))
set_option maxRecDepth 100000 in
set_option maxHeartbeats 8000000 in
theorem refToAsk_any {A : Option Addr} {n c : Nat} {b : List UInt8} (w : World) (hn : n = b.length) (hnc : n ≤ c) (hm : n ≤ 140737488355328) (hr : Lies w w.heap.size A b) :
    Calls Tryz.prog 12 #[.slice A n c] w (RefTo askK pAskD b w) := by
  subst hn
  obtain ⟨n1, s1, q1⟩ : ∃ n1 s1, pInt 1 (some b) = (n1, s1) := ⟨_, _, rfl⟩
  obtain ⟨n2, s2, q2⟩ : ∃ n2 s2, pInt 1 s1 = (n2, s2) := ⟨_, _, rfl⟩
  obtain ⟨aq, s3, q3⟩ : ∃ n s3, pNum s2 = (n, s3) := ⟨_, _, rfl⟩
  have lc := pCommand_lim s3
  have lt := pCommand_st s3
  have hpc := pCommandD_eq s3
  obtain ⟨se, sq, op, ke, am, sp, le, s4, q4⟩ : ∃ se sq op ke am sp le s4, pCommand s3 = ((se, sq, op, ke, am, sp, le), s4) := ⟨_, _, _, _, _, _, _, _, rfl⟩
  rw [q4] at lc lt hpc
  dsimp only at lc lt hpc
  obtain ⟨ak, st, q5⟩ : ∃ da st, pData s4 = (da, st) := ⟨_, _, rfl⟩
  obtain ⟨lk, f1⟩ : ∃ v, ((n1 : Int) == 1) = v := ⟨_, rfl⟩
  have g1 : decide ((n1 : Int) = 1) = lk := by rw [← f1]; rfl
  have d1 : decide (n1 = 1) = lk := by rw [← g1]; congr 1; exact propext (by omega)
  obtain ⟨ly, f2⟩ : ∃ v, ((n2 : Int) == 1) = v := ⟨_, rfl⟩
  have g2 : decide ((n2 : Int) = 1) = ly := by rw [← f2]; rfl
  have d2 : decide (n2 = 1) = ly := by rw [← g2]; congr 1; exact propext (by omega)
  have l3 : aq < 18446744073709551616 := by have := pNum_lt s2; rw [q3] at this; exact this
  have k1 := pInt_len 1 (some b)
  have k2 := pInt_len 1 s1
  have k3 := pNum_len s2
  have k5 := pData_len s4
  rw [q1] at k1
  rw [q2] at k2
  rw [q3] at k3
  rw [q5] at k5
  simp only [stLen] at k1 k2 k3 k5 lc lt
  have hd : pAskD (some b) = (askD lk ly aq se sq (op : Nat) ke am sp le ak, st) := by simp only [pAskD, pRec, pAll, pFlagD, pNumD, pDataD, q1, q2, q3, hpc, q5, d1, d2, askD]
  unfold RefTo
  rw [hd]
  simp only
  have hrep : ∀ (w : World) (S : Nat → Prop), askK.rep w S [.bool lk, .bool ly, .int .u64 (aq : Int), .int .u64 (se : Int), .int .u64 (sq : Int), .int .i64 (op : Int), .string (str ke), .int .i64 am, .int .i64 sp, .int .u64 (le : Int), .string (str ak)] (askD lk ly aq se sq (op : Nat) ke am sp le ak) := fun w S =>
    ⟨_, rfl, [_], _, _, _, rfl, rfl, ⟨lk, rfl, rfl⟩, [_], _, _, _, rfl, rfl, ⟨ly, rfl, rfl⟩, [_], _, _, _, rfl, rfl, ⟨aq, l3, rfl, rfl⟩, [_, _, _, _, _, _, _], _, _, _, rfl, rfl, cmd_rep w S lc.1 lc.2.1 (by omega) (by omega) lc.2.2.2.2.1 lc.2.2.2.2.2.1 lc.2.2.2.2.2.2, [_], _, _, _, rfl, rfl, ⟨ak, rfl, rfl, by omega⟩, rfl, rfl⟩
  generalize askD lk ly aq se sq (op : Nat) ke am sp le ak = d at hrep ⊢
  have HQ1 := Lib.hid q1
  have HQ2 := Lib.hid q2
  have HQ3 := Lib.hid q3
  have HQ4 := Lib.hid q4
  have HQ5 := Lib.hid q5
  have HFL1 := Lib.hid f1
  have HFM1 := Lib.hid g1
  have HFL2 := Lib.hid f2
  have HFM2 := Lib.hid g2
  have HREP := Lib.hid hrep
  clear q1 q2 q3 q4 q5 f1 f2 g1 g2 d1 d2 lc lt hpc l3 k1 k2 k3 k5 hd hrep
  obtain ⟨w0, hw0⟩ : ∃ w0, w0 = (((w.alloc (.cells #[.bool false, .bool false, .int .u64 0, .int .u64 0, .int .u64 0, .int .i64 0, .string ⟨#[]⟩, .int .i64 0, .int .i64 0, .int .u64 0, .string ⟨#[]⟩] 48)).alloc (.cells #[.slice A b.length c, .int .i64 0, .bool false] 77)).alloc (.cells #[.bool false, .bool false, .int .u64 0, .int .u64 0, .int .u64 0, .int .i64 0, .string ⟨#[]⟩, .int .i64 0, .int .i64 0, .int .u64 0, .string ⟨#[]⟩] 48)) := ⟨_, rfl⟩
  have hb0 : Below w.heap.size w w0 := by rw [hw0]; exact (((Below.refl _ _).alloc (Nat.le_refl _) _).alloc (by simp only [World.size_alloc]; omega) _).alloc (by simp only [World.size_alloc]; omega) _
  have hri : w0.heap[w.heap.size + 1]? = some (.cells #[.slice A b.length c, .int .i64 0, .bool false] 77 (0, 0)) := by
    rw [hw0, heap_alloc_old _ _ (by simp only [World.size_alloc]; omega)]; exact heap_alloc2_new w _ _
  have hin0 : InAt w.heap.size (w.heap.size + 1) w0 b (some b) := ⟨A, c, 0, false, Nat.le_succ _, hnc, hm, hri, hr.below hb0, Nat.zero_le _, .inr ⟨rfl, rfl⟩⟩
  have hrr0 : w0.heap[w.heap.size]? = some (.cells #[.bool false, .bool false, .int .u64 0, .int .u64 0, .int .u64 0, .int .i64 0, .string ⟨#[]⟩, .int .i64 0, .int .i64 0, .int .u64 0, .string ⟨#[]⟩] 48 (0, 0)) := by rw [hw0, heap_alloc_old _ _ (by simp only [World.size_alloc]; omega)]; exact heap_alloc2_old w _ _
  have hx0 : w0.heap[w.heap.size + 1 + 1]? = some (.cells #[.bool false, .bool false, .int .u64 0, .int .u64 0, .int .u64 0, .int .i64 0, .string ⟨#[]⟩, .int .i64 0, .int .i64 0, .int .u64 0, .string ⟨#[]⟩] 48 (0, 0)) := by
    have h := heap_alloc_new ((w.alloc (.cells #[.bool false, .bool false, .int .u64 0, .int .u64 0, .int .u64 0, .int .i64 0, .string ⟨#[]⟩, .int .i64 0, .int .i64 0, .int .u64 0, .string ⟨#[]⟩] 48)).alloc (.cells #[.slice A b.length c, .int .i64 0, .bool false] 77)) (.cells #[.bool false, .bool false, .int .u64 0, .int .u64 0, .int .u64 0, .int .i64 0, .string ⟨#[]⟩, .int .i64 0, .int .i64 0, .int .u64 0, .string ⟨#[]⟩] 48)
    rw [hw0]
    simpa only [World.size_alloc] using h
  have HB := Lib.hid hb0
  have HIN := Lib.hid hin0
  have HR := Lib.hid hrr0
  have HX := Lib.hid hx0
  clear hb0 hri hin0 hrr0 hx0 hr hnc hm
  go_enter Tryz.func12, Tryz.ntmps12
  go_wp2_with fail
  rw [← hw0]
  clear hw0
  have hzw := HB.out.size
  have hcall : Calls Tryz.prog 22 #[.pointer (some ⟨w.heap.size + 1, 0, none⟩), .int .u64 1] w0 _ := inInt_any w.heap.size (w.heap.size + 1) b (some b) 1 (by decide) w0 HIN.out
  rw [HQ1.out] at hcall
  refine hcall.mono ?_
  rintro e u0 ⟨rfl, hin, hgr⟩
  have hfa := HFL1.out
  have hfb := HFM1.out
  have hx := (hgr.block (w.heap.size + 1 + 1) (row_lt HX.out) (fun e => by have := Option.some.inj e; omega)).trans HX.out
  have hr := (hgr.block w.heap.size (row_lt HR.out) (fun e => by have := Option.some.inj e; omega)).trans HR.out
  have hb := HB.out.grown hgr hzw (fun k e => by have := Option.some.inj e; omega)
  have hlx := row_lt HX.out
  have hzu := hgr.size
  have hcx0 : u0.cell? ⟨w.heap.size + 1 + 1, 0, none⟩ = some (.bool false) := by rw [cell_of_row u0 _ 0 _ _ _ hx]; rfl
  have hfx0 : u0.frozen? ⟨w.heap.size + 1 + 1, 0, none⟩ = false := frozen_of_row u0 _ 0 _ _ hx
  have hx1 := heap_setCell_same u0 (w.heap.size + 1 + 1) 0 _ _ (.bool lk) hx
  have hoth : ∀ q, q ≠ w.heap.size + 1 + 1 → (u0.setCell ⟨w.heap.size + 1 + 1, 0, none⟩ (.bool lk)).heap[q]? = u0.heap[q]? := fun q hq => heap_setCell_other _ ⟨w.heap.size + 1 + 1, 0, none⟩ q _ hq
  have hsz : (u0.setCell ⟨w.heap.size + 1 + 1, 0, none⟩ (.bool lk)).heap.size = u0.heap.size := by simp only [size_setCell']
  replace HX := Lib.hid (show (u0.setCell ⟨w.heap.size + 1 + 1, 0, none⟩ (.bool lk)).heap[w.heap.size + 1 + 1]? = some (.cells #[.bool lk, .bool false, .int .u64 0, .int .u64 0, .int .u64 0, .int .i64 0, .string ⟨#[]⟩, .int .i64 0, .int .i64 0, .int .u64 0, .string ⟨#[]⟩] 48 (0, 0)) from hx1)
  replace HR := Lib.hid ((hoth w.heap.size (by omega)).trans hr)
  replace HIN := Lib.hid (inAt_set (X := w.heap.size + 1 + 1) hin (by omega) (by omega) 0 (.bool lk))
  replace HB := Lib.hid (hb.setCell (p := ⟨w.heap.size + 1 + 1, 0, none⟩) (by show w.heap.size ≤ w.heap.size + 1 + 1; omega) (.bool lk))
  clear hoth hsz hcall hx hx1 hr hb hin hgr hlx hzu hzw
  go_wp2_with fail
  generalize (u0.setCell ⟨w.heap.size + 1 + 1, 0, none⟩ (.bool lk)) = w1 at HX HR HIN HB ⊢
  clear hcx0 hfx0 hfa hfb
  have hzw := HB.out.size
  have hcall : Calls Tryz.prog 22 #[.pointer (some ⟨w.heap.size + 1, 0, none⟩), .int .u64 1] w1 _ := inInt_any w.heap.size (w.heap.size + 1) b s1 1 (by decide) w1 HIN.out
  rw [HQ2.out] at hcall
  refine hcall.mono ?_
  rintro e u1 ⟨rfl, hin, hgr⟩
  have hfa := HFL2.out
  have hfb := HFM2.out
  have hx := (hgr.block (w.heap.size + 1 + 1) (row_lt HX.out) (fun e => by have := Option.some.inj e; omega)).trans HX.out
  have hr := (hgr.block w.heap.size (row_lt HR.out) (fun e => by have := Option.some.inj e; omega)).trans HR.out
  have hb := HB.out.grown hgr hzw (fun k e => by have := Option.some.inj e; omega)
  have hlx := row_lt HX.out
  have hzu := hgr.size
  have hcx0 : u1.cell? ⟨w.heap.size + 1 + 1, 1, none⟩ = some (.bool false) := by rw [cell_of_row u1 _ 1 _ _ _ hx]; rfl
  have hfx0 : u1.frozen? ⟨w.heap.size + 1 + 1, 1, none⟩ = false := frozen_of_row u1 _ 1 _ _ hx
  have hx1 := heap_setCell_same u1 (w.heap.size + 1 + 1) 1 _ _ (.bool ly) hx
  have hoth : ∀ q, q ≠ w.heap.size + 1 + 1 → (u1.setCell ⟨w.heap.size + 1 + 1, 1, none⟩ (.bool ly)).heap[q]? = u1.heap[q]? := fun q hq => heap_setCell_other _ ⟨w.heap.size + 1 + 1, 1, none⟩ q _ hq
  have hsz : (u1.setCell ⟨w.heap.size + 1 + 1, 1, none⟩ (.bool ly)).heap.size = u1.heap.size := by simp only [size_setCell']
  replace HX := Lib.hid (show (u1.setCell ⟨w.heap.size + 1 + 1, 1, none⟩ (.bool ly)).heap[w.heap.size + 1 + 1]? = some (.cells #[.bool lk, .bool ly, .int .u64 0, .int .u64 0, .int .u64 0, .int .i64 0, .string ⟨#[]⟩, .int .i64 0, .int .i64 0, .int .u64 0, .string ⟨#[]⟩] 48 (0, 0)) from hx1)
  replace HR := Lib.hid ((hoth w.heap.size (by omega)).trans hr)
  replace HIN := Lib.hid (inAt_set (X := w.heap.size + 1 + 1) hin (by omega) (by omega) 1 (.bool ly))
  replace HB := Lib.hid (hb.setCell (p := ⟨w.heap.size + 1 + 1, 1, none⟩) (by show w.heap.size ≤ w.heap.size + 1 + 1; omega) (.bool ly))
  clear hoth hsz hcall hx hx1 hr hb hin hgr hlx hzu hzw
  go_wp2_with fail
  generalize (u1.setCell ⟨w.heap.size + 1 + 1, 1, none⟩ (.bool ly)) = w2 at HX HR HIN HB ⊢
  clear hcx0 hfx0 hfa hfb
  have hzw := HB.out.size
  have hcall := inNum_any w.heap.size (w.heap.size + 1) b s2 w2 HIN.out
  rw [HQ3.out] at hcall
  refine hcall.mono ?_
  rintro e u2 ⟨rfl, hin, hgr⟩
  have hx := (hgr.block (w.heap.size + 1 + 1) (row_lt HX.out) (fun e => by have := Option.some.inj e; omega)).trans HX.out
  have hr := (hgr.block w.heap.size (row_lt HR.out) (fun e => by have := Option.some.inj e; omega)).trans HR.out
  have hb := HB.out.grown hgr hzw (fun k e => by have := Option.some.inj e; omega)
  have hlx := row_lt HX.out
  have hzu := hgr.size
  have hcx0 : u2.cell? ⟨w.heap.size + 1 + 1, 2, none⟩ = some (.int .u64 0) := by rw [cell_of_row u2 _ 2 _ _ _ hx]; rfl
  have hfx0 : u2.frozen? ⟨w.heap.size + 1 + 1, 2, none⟩ = false := frozen_of_row u2 _ 2 _ _ hx
  have hx1 := heap_setCell_same u2 (w.heap.size + 1 + 1) 2 _ _ (.int .u64 (aq : Int)) hx
  have hoth : ∀ q, q ≠ w.heap.size + 1 + 1 → (u2.setCell ⟨w.heap.size + 1 + 1, 2, none⟩ (.int .u64 (aq : Int))).heap[q]? = u2.heap[q]? := fun q hq => heap_setCell_other _ ⟨w.heap.size + 1 + 1, 2, none⟩ q _ hq
  have hsz : (u2.setCell ⟨w.heap.size + 1 + 1, 2, none⟩ (.int .u64 (aq : Int))).heap.size = u2.heap.size := by simp only [size_setCell']
  replace HX := Lib.hid (show (u2.setCell ⟨w.heap.size + 1 + 1, 2, none⟩ (.int .u64 (aq : Int))).heap[w.heap.size + 1 + 1]? = some (.cells #[.bool lk, .bool ly, .int .u64 (aq : Int), .int .u64 0, .int .u64 0, .int .i64 0, .string ⟨#[]⟩, .int .i64 0, .int .i64 0, .int .u64 0, .string ⟨#[]⟩] 48 (0, 0)) from hx1)
  replace HR := Lib.hid ((hoth w.heap.size (by omega)).trans hr)
  replace HIN := Lib.hid (inAt_set (X := w.heap.size + 1 + 1) hin (by omega) (by omega) 2 (.int .u64 (aq : Int)))
  replace HB := Lib.hid (hb.setCell (p := ⟨w.heap.size + 1 + 1, 2, none⟩) (by show w.heap.size ≤ w.heap.size + 1 + 1; omega) (.int .u64 (aq : Int)))
  clear hoth hsz hcall hx hx1 hr hb hin hgr hlx hzu hzw
  go_wp2_with fail
  generalize (u2.setCell ⟨w.heap.size + 1 + 1, 2, none⟩ (.int .u64 (aq : Int))) = w3 at HX HR HIN HB ⊢
  clear hcx0 hfx0
  have hzw := HB.out.size
  have hcall := inCommand_any w.heap.size (w.heap.size + 1) b s3 w3 HIN.out hzw
  rw [HQ4.out] at hcall
  dsimp only at hcall
  refine hcall.mono ?_
  rintro e u3 ⟨rfl, hin, hgr⟩
  have hx := (hgr.block (w.heap.size + 1 + 1) (row_lt HX.out) (fun e => by have := Option.some.inj e; omega)).trans HX.out
  have hr := (hgr.block w.heap.size (row_lt HR.out) (fun e => by have := Option.some.inj e; omega)).trans HR.out
  have hb := HB.out.grown hgr hzw (fun k e => by have := Option.some.inj e; omega)
  have hlx := row_lt HX.out
  have hzu := hgr.size
  have hcx0 : u3.cell? ⟨w.heap.size + 1 + 1, 3, none⟩ = some (.int .u64 0) := by rw [cell_of_row u3 _ 3 _ _ _ hx]; rfl
  have hfx0 : u3.frozen? ⟨w.heap.size + 1 + 1, 3, none⟩ = false := frozen_of_row u3 _ 3 _ _ hx
  have hcx1 : u3.cell? ⟨w.heap.size + 1 + 1, 4, none⟩ = some (.int .u64 0) := by rw [cell_of_row u3 _ 4 _ _ _ hx]; rfl
  have hfx1 : u3.frozen? ⟨w.heap.size + 1 + 1, 4, none⟩ = false := frozen_of_row u3 _ 4 _ _ hx
  have hcx2 : u3.cell? ⟨w.heap.size + 1 + 1, 5, none⟩ = some (.int .i64 0) := by rw [cell_of_row u3 _ 5 _ _ _ hx]; rfl
  have hfx2 : u3.frozen? ⟨w.heap.size + 1 + 1, 5, none⟩ = false := frozen_of_row u3 _ 5 _ _ hx
  have hcx3 : u3.cell? ⟨w.heap.size + 1 + 1, 6, none⟩ = some (.string ⟨#[]⟩) := by rw [cell_of_row u3 _ 6 _ _ _ hx]; rfl
  have hfx3 : u3.frozen? ⟨w.heap.size + 1 + 1, 6, none⟩ = false := frozen_of_row u3 _ 6 _ _ hx
  have hcx4 : u3.cell? ⟨w.heap.size + 1 + 1, 7, none⟩ = some (.int .i64 0) := by rw [cell_of_row u3 _ 7 _ _ _ hx]; rfl
  have hfx4 : u3.frozen? ⟨w.heap.size + 1 + 1, 7, none⟩ = false := frozen_of_row u3 _ 7 _ _ hx
  have hcx5 : u3.cell? ⟨w.heap.size + 1 + 1, 8, none⟩ = some (.int .i64 0) := by rw [cell_of_row u3 _ 8 _ _ _ hx]; rfl
  have hfx5 : u3.frozen? ⟨w.heap.size + 1 + 1, 8, none⟩ = false := frozen_of_row u3 _ 8 _ _ hx
  have hcx6 : u3.cell? ⟨w.heap.size + 1 + 1, 9, none⟩ = some (.int .u64 0) := by rw [cell_of_row u3 _ 9 _ _ _ hx]; rfl
  have hfx6 : u3.frozen? ⟨w.heap.size + 1 + 1, 9, none⟩ = false := frozen_of_row u3 _ 9 _ _ hx
  have hx1 := heap_setCell_same u3 (w.heap.size + 1 + 1) 3 _ _ (.int .u64 (se : Int)) hx
  have hx2 := heap_setCell_same (u3.setCell ⟨w.heap.size + 1 + 1, 3, none⟩ (.int .u64 (se : Int))) (w.heap.size + 1 + 1) 4 _ _ (.int .u64 (sq : Int)) hx1
  have hx3 := heap_setCell_same ((u3.setCell ⟨w.heap.size + 1 + 1, 3, none⟩ (.int .u64 (se : Int))).setCell ⟨w.heap.size + 1 + 1, 4, none⟩ (.int .u64 (sq : Int))) (w.heap.size + 1 + 1) 5 _ _ (.int .i64 (op : Int)) hx2
  have hx4 := heap_setCell_same (((u3.setCell ⟨w.heap.size + 1 + 1, 3, none⟩ (.int .u64 (se : Int))).setCell ⟨w.heap.size + 1 + 1, 4, none⟩ (.int .u64 (sq : Int))).setCell ⟨w.heap.size + 1 + 1, 5, none⟩ (.int .i64 (op : Int))) (w.heap.size + 1 + 1) 6 _ _ (.string (str ke)) hx3
  have hx5 := heap_setCell_same ((((u3.setCell ⟨w.heap.size + 1 + 1, 3, none⟩ (.int .u64 (se : Int))).setCell ⟨w.heap.size + 1 + 1, 4, none⟩ (.int .u64 (sq : Int))).setCell ⟨w.heap.size + 1 + 1, 5, none⟩ (.int .i64 (op : Int))).setCell ⟨w.heap.size + 1 + 1, 6, none⟩ (.string (str ke))) (w.heap.size + 1 + 1) 7 _ _ (.int .i64 am) hx4
  have hx6 := heap_setCell_same (((((u3.setCell ⟨w.heap.size + 1 + 1, 3, none⟩ (.int .u64 (se : Int))).setCell ⟨w.heap.size + 1 + 1, 4, none⟩ (.int .u64 (sq : Int))).setCell ⟨w.heap.size + 1 + 1, 5, none⟩ (.int .i64 (op : Int))).setCell ⟨w.heap.size + 1 + 1, 6, none⟩ (.string (str ke))).setCell ⟨w.heap.size + 1 + 1, 7, none⟩ (.int .i64 am)) (w.heap.size + 1 + 1) 8 _ _ (.int .i64 sp) hx5
  have hx7 := heap_setCell_same ((((((u3.setCell ⟨w.heap.size + 1 + 1, 3, none⟩ (.int .u64 (se : Int))).setCell ⟨w.heap.size + 1 + 1, 4, none⟩ (.int .u64 (sq : Int))).setCell ⟨w.heap.size + 1 + 1, 5, none⟩ (.int .i64 (op : Int))).setCell ⟨w.heap.size + 1 + 1, 6, none⟩ (.string (str ke))).setCell ⟨w.heap.size + 1 + 1, 7, none⟩ (.int .i64 am)).setCell ⟨w.heap.size + 1 + 1, 8, none⟩ (.int .i64 sp)) (w.heap.size + 1 + 1) 9 _ _ (.int .u64 (le : Int)) hx6
  have hoth : ∀ q, q ≠ w.heap.size + 1 + 1 → (((((((u3.setCell ⟨w.heap.size + 1 + 1, 3, none⟩ (.int .u64 (se : Int))).setCell ⟨w.heap.size + 1 + 1, 4, none⟩ (.int .u64 (sq : Int))).setCell ⟨w.heap.size + 1 + 1, 5, none⟩ (.int .i64 (op : Int))).setCell ⟨w.heap.size + 1 + 1, 6, none⟩ (.string (str ke))).setCell ⟨w.heap.size + 1 + 1, 7, none⟩ (.int .i64 am)).setCell ⟨w.heap.size + 1 + 1, 8, none⟩ (.int .i64 sp)).setCell ⟨w.heap.size + 1 + 1, 9, none⟩ (.int .u64 (le : Int))).heap[q]? = u3.heap[q]? := fun q hq => (heap_setCell_other _ ⟨w.heap.size + 1 + 1, 9, none⟩ q _ hq).trans ((heap_setCell_other _ ⟨w.heap.size + 1 + 1, 8, none⟩ q _ hq).trans ((heap_setCell_other _ ⟨w.heap.size + 1 + 1, 7, none⟩ q _ hq).trans ((heap_setCell_other _ ⟨w.heap.size + 1 + 1, 6, none⟩ q _ hq).trans ((heap_setCell_other _ ⟨w.heap.size + 1 + 1, 5, none⟩ q _ hq).trans ((heap_setCell_other _ ⟨w.heap.size + 1 + 1, 4, none⟩ q _ hq).trans (heap_setCell_other _ ⟨w.heap.size + 1 + 1, 3, none⟩ q _ hq))))))
  have hsz : (((((((u3.setCell ⟨w.heap.size + 1 + 1, 3, none⟩ (.int .u64 (se : Int))).setCell ⟨w.heap.size + 1 + 1, 4, none⟩ (.int .u64 (sq : Int))).setCell ⟨w.heap.size + 1 + 1, 5, none⟩ (.int .i64 (op : Int))).setCell ⟨w.heap.size + 1 + 1, 6, none⟩ (.string (str ke))).setCell ⟨w.heap.size + 1 + 1, 7, none⟩ (.int .i64 am)).setCell ⟨w.heap.size + 1 + 1, 8, none⟩ (.int .i64 sp)).setCell ⟨w.heap.size + 1 + 1, 9, none⟩ (.int .u64 (le : Int))).heap.size = u3.heap.size := by simp only [size_setCell']
  replace HX := Lib.hid (show (((((((u3.setCell ⟨w.heap.size + 1 + 1, 3, none⟩ (.int .u64 (se : Int))).setCell ⟨w.heap.size + 1 + 1, 4, none⟩ (.int .u64 (sq : Int))).setCell ⟨w.heap.size + 1 + 1, 5, none⟩ (.int .i64 (op : Int))).setCell ⟨w.heap.size + 1 + 1, 6, none⟩ (.string (str ke))).setCell ⟨w.heap.size + 1 + 1, 7, none⟩ (.int .i64 am)).setCell ⟨w.heap.size + 1 + 1, 8, none⟩ (.int .i64 sp)).setCell ⟨w.heap.size + 1 + 1, 9, none⟩ (.int .u64 (le : Int))).heap[w.heap.size + 1 + 1]? = some (.cells #[.bool lk, .bool ly, .int .u64 (aq : Int), .int .u64 (se : Int), .int .u64 (sq : Int), .int .i64 (op : Int), .string (str ke), .int .i64 am, .int .i64 sp, .int .u64 (le : Int), .string ⟨#[]⟩] 48 (0, 0)) from hx7)
  replace HR := Lib.hid ((hoth w.heap.size (by omega)).trans hr)
  replace HIN := Lib.hid (inAt_set (X := w.heap.size + 1 + 1) (inAt_set (X := w.heap.size + 1 + 1) (inAt_set (X := w.heap.size + 1 + 1) (inAt_set (X := w.heap.size + 1 + 1) (inAt_set (X := w.heap.size + 1 + 1) (inAt_set (X := w.heap.size + 1 + 1) (inAt_set (X := w.heap.size + 1 + 1) hin (by omega) (by omega) 3 (.int .u64 (se : Int))) (by omega) (by omega) 4 (.int .u64 (sq : Int))) (by omega) (by omega) 5 (.int .i64 (op : Int))) (by omega) (by omega) 6 (.string (str ke))) (by omega) (by omega) 7 (.int .i64 am)) (by omega) (by omega) 8 (.int .i64 sp)) (by omega) (by omega) 9 (.int .u64 (le : Int)))
  replace HB := Lib.hid (((((((hb.setCell (p := ⟨w.heap.size + 1 + 1, 3, none⟩) (by show w.heap.size ≤ w.heap.size + 1 + 1; omega) (.int .u64 (se : Int))).setCell (p := ⟨w.heap.size + 1 + 1, 4, none⟩) (by show w.heap.size ≤ w.heap.size + 1 + 1; omega) (.int .u64 (sq : Int))).setCell (p := ⟨w.heap.size + 1 + 1, 5, none⟩) (by show w.heap.size ≤ w.heap.size + 1 + 1; omega) (.int .i64 (op : Int))).setCell (p := ⟨w.heap.size + 1 + 1, 6, none⟩) (by show w.heap.size ≤ w.heap.size + 1 + 1; omega) (.string (str ke))).setCell (p := ⟨w.heap.size + 1 + 1, 7, none⟩) (by show w.heap.size ≤ w.heap.size + 1 + 1; omega) (.int .i64 am)).setCell (p := ⟨w.heap.size + 1 + 1, 8, none⟩) (by show w.heap.size ≤ w.heap.size + 1 + 1; omega) (.int .i64 sp)).setCell (p := ⟨w.heap.size + 1 + 1, 9, none⟩) (by show w.heap.size ≤ w.heap.size + 1 + 1; omega) (.int .u64 (le : Int)))
  clear hoth hsz hcall hx hx1 hx2 hx3 hx4 hx5 hx6 hx7 hr hb hin hgr hlx hzu hzw
  go_wp2_with fail
  generalize (((((((u3.setCell ⟨w.heap.size + 1 + 1, 3, none⟩ (.int .u64 (se : Int))).setCell ⟨w.heap.size + 1 + 1, 4, none⟩ (.int .u64 (sq : Int))).setCell ⟨w.heap.size + 1 + 1, 5, none⟩ (.int .i64 (op : Int))).setCell ⟨w.heap.size + 1 + 1, 6, none⟩ (.string (str ke))).setCell ⟨w.heap.size + 1 + 1, 7, none⟩ (.int .i64 am)).setCell ⟨w.heap.size + 1 + 1, 8, none⟩ (.int .i64 sp)).setCell ⟨w.heap.size + 1 + 1, 9, none⟩ (.int .u64 (le : Int))) = w4 at HX HR HIN HB ⊢
  clear hcx0 hfx0 hcx1 hfx1 hcx2 hfx2 hcx3 hfx3 hcx4 hfx4 hcx5 hfx5 hcx6 hfx6
  have hzw := HB.out.size
  have hcall := inData_any w.heap.size (w.heap.size + 1) b s4 w4 HIN.out hzw
  rw [HQ5.out] at hcall
  refine hcall.mono ?_
  rintro e u4 ⟨v, rfl, ho, hin, hgr⟩
  obtain ⟨A4, c4, rfl, _, _, _, hl4, _⟩ := ho.form
  have ht4 := run_text u4 (n := ak.length) c4 rfl hl4
  clear ho hl4
  have hx := (hgr.block (w.heap.size + 1 + 1) (row_lt HX.out) (fun e => by have := Option.some.inj e; omega)).trans HX.out
  have hr := (hgr.block w.heap.size (row_lt HR.out) (fun e => by have := Option.some.inj e; omega)).trans HR.out
  have hb := HB.out.grown hgr hzw (fun k e => by have := Option.some.inj e; omega)
  have hlx := row_lt HX.out
  have hzu := hgr.size
  have hcx0 : u4.cell? ⟨w.heap.size + 1 + 1, 10, none⟩ = some (.string ⟨#[]⟩) := by rw [cell_of_row u4 _ 10 _ _ _ hx]; rfl
  have hfx0 : u4.frozen? ⟨w.heap.size + 1 + 1, 10, none⟩ = false := frozen_of_row u4 _ 10 _ _ hx
  have hx1 := heap_setCell_same u4 (w.heap.size + 1 + 1) 10 _ _ (.string (str ak)) hx
  have hoth : ∀ q, q ≠ w.heap.size + 1 + 1 → (u4.setCell ⟨w.heap.size + 1 + 1, 10, none⟩ (.string (str ak))).heap[q]? = u4.heap[q]? := fun q hq => heap_setCell_other _ ⟨w.heap.size + 1 + 1, 10, none⟩ q _ hq
  have hsz : (u4.setCell ⟨w.heap.size + 1 + 1, 10, none⟩ (.string (str ak))).heap.size = u4.heap.size := by simp only [size_setCell']
  replace HX := Lib.hid (show (u4.setCell ⟨w.heap.size + 1 + 1, 10, none⟩ (.string (str ak))).heap[w.heap.size + 1 + 1]? = some (.cells #[.bool lk, .bool ly, .int .u64 (aq : Int), .int .u64 (se : Int), .int .u64 (sq : Int), .int .i64 (op : Int), .string (str ke), .int .i64 am, .int .i64 sp, .int .u64 (le : Int), .string (str ak)] 48 (0, 0)) from hx1)
  replace HR := Lib.hid ((hoth w.heap.size (by omega)).trans hr)
  replace HIN := Lib.hid (inAt_set (X := w.heap.size + 1 + 1) hin (by omega) (by omega) 10 (.string (str ak)))
  replace HB := Lib.hid (hb.setCell (p := ⟨w.heap.size + 1 + 1, 10, none⟩) (by show w.heap.size ≤ w.heap.size + 1 + 1; omega) (.string (str ak)))
  clear hoth hsz hcall hx hx1 hr hb hin hgr hlx hzu hzw
  go_wp2_with fail
  generalize (u4.setCell ⟨w.heap.size + 1 + 1, 10, none⟩ (.string (str ak))) = w5 at HX HR HIN HB ⊢
  clear hcx0 hfx0 ht4
  have HX2 := HX
  have HR2 := HR
  have HIN2 := HIN
  have HREP2 := Lib.hid (HREP.out w5 (fun q => w.heap.size + 1 < q ∧ q < w5.heap.size))
  have HB2 := HB
  have hca0 : w5.cell? ⟨w.heap.size + 1 + 1, 0, none⟩ = some (.bool lk) := by rw [cell_of_row w5 _ 0 _ _ _ HX.out]; rfl
  have hca1 : w5.cell? ⟨w.heap.size + 1 + 1, 1, none⟩ = some (.bool ly) := by rw [cell_of_row w5 _ 1 _ _ _ HX.out]; rfl
  have hca2 : w5.cell? ⟨w.heap.size + 1 + 1, 2, none⟩ = some (.int .u64 (aq : Int)) := by rw [cell_of_row w5 _ 2 _ _ _ HX.out]; rfl
  have hca3 : w5.cell? ⟨w.heap.size + 1 + 1, 3, none⟩ = some (.int .u64 (se : Int)) := by rw [cell_of_row w5 _ 3 _ _ _ HX.out]; rfl
  have hca4 : w5.cell? ⟨w.heap.size + 1 + 1, 4, none⟩ = some (.int .u64 (sq : Int)) := by rw [cell_of_row w5 _ 4 _ _ _ HX.out]; rfl
  have hca5 : w5.cell? ⟨w.heap.size + 1 + 1, 5, none⟩ = some (.int .i64 (op : Int)) := by rw [cell_of_row w5 _ 5 _ _ _ HX.out]; rfl
  have hca6 : w5.cell? ⟨w.heap.size + 1 + 1, 6, none⟩ = some (.string (str ke)) := by rw [cell_of_row w5 _ 6 _ _ _ HX.out]; rfl
  have hca7 : w5.cell? ⟨w.heap.size + 1 + 1, 7, none⟩ = some (.int .i64 am) := by rw [cell_of_row w5 _ 7 _ _ _ HX.out]; rfl
  have hca8 : w5.cell? ⟨w.heap.size + 1 + 1, 8, none⟩ = some (.int .i64 sp) := by rw [cell_of_row w5 _ 8 _ _ _ HX.out]; rfl
  have hca9 : w5.cell? ⟨w.heap.size + 1 + 1, 9, none⟩ = some (.int .u64 (le : Int)) := by rw [cell_of_row w5 _ 9 _ _ _ HX.out]; rfl
  have hca10 : w5.cell? ⟨w.heap.size + 1 + 1, 10, none⟩ = some (.string (str ak)) := by rw [cell_of_row w5 _ 10 _ _ _ HX.out]; rfl
  have hXg : (some (w.heap.size + 1 + 1) : Option Nat) ≠ some (w.heap.size + 1) := fun e => by have := Option.some.inj e; omega
  clear HX HR HIN HB HREP
  have hRg : (some w.heap.size : Option Nat) ≠ some (w.heap.size + 1) := fun e => by have := Option.some.inj e; omega
  have hW := inWhole_any w.heap.size (w.heap.size + 1) b st w5.drew HIN2.out
  obtain ⟨ok, hpw⟩ : ∃ x, pWhole st = x := ⟨_, rfl⟩
  rw [hpw] at hW
  have HPW := Lib.hid hpw
  have HW := Lib.hid hW
  clear hpw hW
  cases ok with
  | false =>
    go_region_law ((go_simp; go_at_call 27; refine HW.out.mono ?_; rintro e w6 ⟨rfl, hin3, hgr3⟩
                    have hgr : w5.grownBy w6 (some (w.heap.size + 1)) := ⟨hgr3.os, hgr3.tape, hgr3.output, hgr3.size, hgr3.block⟩
                    have hx := (hgr.block (w.heap.size + 1 + 1) (row_lt HX2.out) hXg).trans HX2.out
                    have hr := (hgr.block w.heap.size (row_lt HR2.out) hRg).trans HR2.out
                    have hc0w6 : w6.cell? ⟨(w.heap.size + 1 + 1), 0, none⟩ = some (.bool lk) := by rw [cell_of_row w6 _ 0 _ _ _ hx]; rfl
                    have hz0w6 : w6.cell? ⟨w.heap.size, 0, none⟩ = some (.bool false) := by rw [cell_of_row w6 _ 0 _ _ _ hr]; rfl
                    have hf0w6 : w6.frozen? ⟨w.heap.size, 0, none⟩ = false := frozen_of_row w6 _ 0 _ _ hr
                    have hc1w6 : w6.cell? ⟨(w.heap.size + 1 + 1), 1, none⟩ = some (.bool ly) := by rw [cell_of_row w6 _ 1 _ _ _ hx]; rfl
                    have hz1w6 : w6.cell? ⟨w.heap.size, 1, none⟩ = some (.bool false) := by rw [cell_of_row w6 _ 1 _ _ _ hr]; rfl
                    have hf1w6 : w6.frozen? ⟨w.heap.size, 1, none⟩ = false := frozen_of_row w6 _ 1 _ _ hr
                    have hc2w6 : w6.cell? ⟨(w.heap.size + 1 + 1), 2, none⟩ = some (.int .u64 (aq : Int)) := by rw [cell_of_row w6 _ 2 _ _ _ hx]; rfl
                    have hz2w6 : w6.cell? ⟨w.heap.size, 2, none⟩ = some (.int .u64 0) := by rw [cell_of_row w6 _ 2 _ _ _ hr]; rfl
                    have hf2w6 : w6.frozen? ⟨w.heap.size, 2, none⟩ = false := frozen_of_row w6 _ 2 _ _ hr
                    have hc3w6 : w6.cell? ⟨(w.heap.size + 1 + 1), 3, none⟩ = some (.int .u64 (se : Int)) := by rw [cell_of_row w6 _ 3 _ _ _ hx]; rfl
                    have hz3w6 : w6.cell? ⟨w.heap.size, 3, none⟩ = some (.int .u64 0) := by rw [cell_of_row w6 _ 3 _ _ _ hr]; rfl
                    have hf3w6 : w6.frozen? ⟨w.heap.size, 3, none⟩ = false := frozen_of_row w6 _ 3 _ _ hr
                    have hc4w6 : w6.cell? ⟨(w.heap.size + 1 + 1), 4, none⟩ = some (.int .u64 (sq : Int)) := by rw [cell_of_row w6 _ 4 _ _ _ hx]; rfl
                    have hz4w6 : w6.cell? ⟨w.heap.size, 4, none⟩ = some (.int .u64 0) := by rw [cell_of_row w6 _ 4 _ _ _ hr]; rfl
                    have hf4w6 : w6.frozen? ⟨w.heap.size, 4, none⟩ = false := frozen_of_row w6 _ 4 _ _ hr
                    have hc5w6 : w6.cell? ⟨(w.heap.size + 1 + 1), 5, none⟩ = some (.int .i64 (op : Int)) := by rw [cell_of_row w6 _ 5 _ _ _ hx]; rfl
                    have hz5w6 : w6.cell? ⟨w.heap.size, 5, none⟩ = some (.int .i64 0) := by rw [cell_of_row w6 _ 5 _ _ _ hr]; rfl
                    have hf5w6 : w6.frozen? ⟨w.heap.size, 5, none⟩ = false := frozen_of_row w6 _ 5 _ _ hr
                    have hc6w6 : w6.cell? ⟨(w.heap.size + 1 + 1), 6, none⟩ = some (.string (str ke)) := by rw [cell_of_row w6 _ 6 _ _ _ hx]; rfl
                    have hz6w6 : w6.cell? ⟨w.heap.size, 6, none⟩ = some (.string ⟨#[]⟩) := by rw [cell_of_row w6 _ 6 _ _ _ hr]; rfl
                    have hf6w6 : w6.frozen? ⟨w.heap.size, 6, none⟩ = false := frozen_of_row w6 _ 6 _ _ hr
                    have hc7w6 : w6.cell? ⟨(w.heap.size + 1 + 1), 7, none⟩ = some (.int .i64 am) := by rw [cell_of_row w6 _ 7 _ _ _ hx]; rfl
                    have hz7w6 : w6.cell? ⟨w.heap.size, 7, none⟩ = some (.int .i64 0) := by rw [cell_of_row w6 _ 7 _ _ _ hr]; rfl
                    have hf7w6 : w6.frozen? ⟨w.heap.size, 7, none⟩ = false := frozen_of_row w6 _ 7 _ _ hr
                    have hc8w6 : w6.cell? ⟨(w.heap.size + 1 + 1), 8, none⟩ = some (.int .i64 sp) := by rw [cell_of_row w6 _ 8 _ _ _ hx]; rfl
                    have hz8w6 : w6.cell? ⟨w.heap.size, 8, none⟩ = some (.int .i64 0) := by rw [cell_of_row w6 _ 8 _ _ _ hr]; rfl
                    have hf8w6 : w6.frozen? ⟨w.heap.size, 8, none⟩ = false := frozen_of_row w6 _ 8 _ _ hr
                    have hc9w6 : w6.cell? ⟨(w.heap.size + 1 + 1), 9, none⟩ = some (.int .u64 (le : Int)) := by rw [cell_of_row w6 _ 9 _ _ _ hx]; rfl
                    have hz9w6 : w6.cell? ⟨w.heap.size, 9, none⟩ = some (.int .u64 0) := by rw [cell_of_row w6 _ 9 _ _ _ hr]; rfl
                    have hf9w6 : w6.frozen? ⟨w.heap.size, 9, none⟩ = false := frozen_of_row w6 _ 9 _ _ hr
                    have hc10w6 : w6.cell? ⟨(w.heap.size + 1 + 1), 10, none⟩ = some (.string (str ak)) := by rw [cell_of_row w6 _ 10 _ _ _ hx]; rfl
                    have hz10w6 : w6.cell? ⟨w.heap.size, 10, none⟩ = some (.string ⟨#[]⟩) := by rw [cell_of_row w6 _ 10 _ _ _ hr]; rfl
                    have hf10w6 : w6.frozen? ⟨w.heap.size, 10, none⟩ = false := frozen_of_row w6 _ 10 _ _ hr
                    have HR3 := Lib.hid hr
                    have HX3 := Lib.hid hx
                    have HREP3 := Lib.hid (askK_ok.keep HREP2.out (S' := (fun q => w.heap.size + 1 < q ∧ q < w6.heap.size)) (fun q hq => hgr.block q hq.2 (fun e => by have := Option.some.inj e; have := hq.1; omega)) (fun q hq => ⟨hq.1, Nat.lt_of_lt_of_le hq.2 hgr.size⟩))
                    have HB3 := Lib.hid (HB2.out.grown hgr HB2.out.size (fun k e => by have := Option.some.inj e; omega))
                    clear hin3 hgr3 hgr hx hr))
    all_goals
      go_wp2
      obtain ⟨x0, hx0⟩ : ∃ x, x = w6.setCell ⟨w.heap.size, 0, none⟩ (.bool lk) := ⟨_, rfl⟩
      rw [← hx0]
      have r0 : x0.heap[w.heap.size]? = some (.cells #[.bool lk, .bool false, .int .u64 0, .int .u64 0, .int .u64 0, .int .i64 0, .string ⟨#[]⟩, .int .i64 0, .int .i64 0, .int .u64 0, .string ⟨#[]⟩] 48 (0, 0)) := by rw [hx0]; exact heap_setCell_same w6 w.heap.size 0 _ _ (.bool lk) HR3.out
      have o0 : ∀ q, q ≠ w.heap.size → x0.heap[q]? = w6.heap[q]? := fun q hq => by rw [hx0, heap_setCell_other w6 ⟨w.heap.size, 0, none⟩ q _ hq]
      have z0 : x0.heap.size = w6.heap.size := by rw [hx0, size_setCell']
      have b0 : Below w.heap.size w x0 := by rw [hx0]; exact Below.setCell (p := ⟨w.heap.size, 0, none⟩) HB3.out (Nat.le_refl _) (.bool lk)
      clear hx0
      obtain ⟨x1, hx1⟩ : ∃ x, x = x0.setCell ⟨w.heap.size, 1, none⟩ (.bool ly) := ⟨_, rfl⟩
      rw [← hx1]
      have r1 : x1.heap[w.heap.size]? = some (.cells #[.bool lk, .bool ly, .int .u64 0, .int .u64 0, .int .u64 0, .int .i64 0, .string ⟨#[]⟩, .int .i64 0, .int .i64 0, .int .u64 0, .string ⟨#[]⟩] 48 (0, 0)) := by rw [hx1]; exact heap_setCell_same x0 w.heap.size 1 _ _ (.bool ly) r0
      have o1 : ∀ q, q ≠ w.heap.size → x1.heap[q]? = w6.heap[q]? := fun q hq => by rw [hx1, heap_setCell_other x0 ⟨w.heap.size, 1, none⟩ q _ hq]; exact o0 q hq
      have z1 : x1.heap.size = w6.heap.size := by rw [hx1, size_setCell']; exact z0
      have b1 : Below w.heap.size w x1 := by rw [hx1]; exact Below.setCell (p := ⟨w.heap.size, 1, none⟩) b0 (Nat.le_refl _) (.bool ly)
      clear hx1
      obtain ⟨x2, hx2⟩ : ∃ x, x = x1.setCell ⟨w.heap.size, 2, none⟩ (.int .u64 (aq : Int)) := ⟨_, rfl⟩
      rw [← hx2]
      have r2 : x2.heap[w.heap.size]? = some (.cells #[.bool lk, .bool ly, .int .u64 (aq : Int), .int .u64 0, .int .u64 0, .int .i64 0, .string ⟨#[]⟩, .int .i64 0, .int .i64 0, .int .u64 0, .string ⟨#[]⟩] 48 (0, 0)) := by rw [hx2]; exact heap_setCell_same x1 w.heap.size 2 _ _ (.int .u64 (aq : Int)) r1
      have o2 : ∀ q, q ≠ w.heap.size → x2.heap[q]? = w6.heap[q]? := fun q hq => by rw [hx2, heap_setCell_other x1 ⟨w.heap.size, 2, none⟩ q _ hq]; exact o1 q hq
      have z2 : x2.heap.size = w6.heap.size := by rw [hx2, size_setCell']; exact z1
      have b2 : Below w.heap.size w x2 := by rw [hx2]; exact Below.setCell (p := ⟨w.heap.size, 2, none⟩) b1 (Nat.le_refl _) (.int .u64 (aq : Int))
      clear hx2
      obtain ⟨x3, hx3⟩ : ∃ x, x = x2.setCell ⟨w.heap.size, 3, none⟩ (.int .u64 (se : Int)) := ⟨_, rfl⟩
      rw [← hx3]
      have r3 : x3.heap[w.heap.size]? = some (.cells #[.bool lk, .bool ly, .int .u64 (aq : Int), .int .u64 (se : Int), .int .u64 0, .int .i64 0, .string ⟨#[]⟩, .int .i64 0, .int .i64 0, .int .u64 0, .string ⟨#[]⟩] 48 (0, 0)) := by rw [hx3]; exact heap_setCell_same x2 w.heap.size 3 _ _ (.int .u64 (se : Int)) r2
      have o3 : ∀ q, q ≠ w.heap.size → x3.heap[q]? = w6.heap[q]? := fun q hq => by rw [hx3, heap_setCell_other x2 ⟨w.heap.size, 3, none⟩ q _ hq]; exact o2 q hq
      have z3 : x3.heap.size = w6.heap.size := by rw [hx3, size_setCell']; exact z2
      have b3 : Below w.heap.size w x3 := by rw [hx3]; exact Below.setCell (p := ⟨w.heap.size, 3, none⟩) b2 (Nat.le_refl _) (.int .u64 (se : Int))
      clear hx3
      obtain ⟨x4, hx4⟩ : ∃ x, x = x3.setCell ⟨w.heap.size, 4, none⟩ (.int .u64 (sq : Int)) := ⟨_, rfl⟩
      rw [← hx4]
      have r4 : x4.heap[w.heap.size]? = some (.cells #[.bool lk, .bool ly, .int .u64 (aq : Int), .int .u64 (se : Int), .int .u64 (sq : Int), .int .i64 0, .string ⟨#[]⟩, .int .i64 0, .int .i64 0, .int .u64 0, .string ⟨#[]⟩] 48 (0, 0)) := by rw [hx4]; exact heap_setCell_same x3 w.heap.size 4 _ _ (.int .u64 (sq : Int)) r3
      have o4 : ∀ q, q ≠ w.heap.size → x4.heap[q]? = w6.heap[q]? := fun q hq => by rw [hx4, heap_setCell_other x3 ⟨w.heap.size, 4, none⟩ q _ hq]; exact o3 q hq
      have z4 : x4.heap.size = w6.heap.size := by rw [hx4, size_setCell']; exact z3
      have b4 : Below w.heap.size w x4 := by rw [hx4]; exact Below.setCell (p := ⟨w.heap.size, 4, none⟩) b3 (Nat.le_refl _) (.int .u64 (sq : Int))
      clear hx4
      obtain ⟨x5, hx5⟩ : ∃ x, x = x4.setCell ⟨w.heap.size, 5, none⟩ (.int .i64 (op : Int)) := ⟨_, rfl⟩
      rw [← hx5]
      have r5 : x5.heap[w.heap.size]? = some (.cells #[.bool lk, .bool ly, .int .u64 (aq : Int), .int .u64 (se : Int), .int .u64 (sq : Int), .int .i64 (op : Int), .string ⟨#[]⟩, .int .i64 0, .int .i64 0, .int .u64 0, .string ⟨#[]⟩] 48 (0, 0)) := by rw [hx5]; exact heap_setCell_same x4 w.heap.size 5 _ _ (.int .i64 (op : Int)) r4
      have o5 : ∀ q, q ≠ w.heap.size → x5.heap[q]? = w6.heap[q]? := fun q hq => by rw [hx5, heap_setCell_other x4 ⟨w.heap.size, 5, none⟩ q _ hq]; exact o4 q hq
      have z5 : x5.heap.size = w6.heap.size := by rw [hx5, size_setCell']; exact z4
      have b5 : Below w.heap.size w x5 := by rw [hx5]; exact Below.setCell (p := ⟨w.heap.size, 5, none⟩) b4 (Nat.le_refl _) (.int .i64 (op : Int))
      clear hx5
      obtain ⟨x6, hx6⟩ : ∃ x, x = x5.setCell ⟨w.heap.size, 6, none⟩ (.string (str ke)) := ⟨_, rfl⟩
      rw [← hx6]
      have r6 : x6.heap[w.heap.size]? = some (.cells #[.bool lk, .bool ly, .int .u64 (aq : Int), .int .u64 (se : Int), .int .u64 (sq : Int), .int .i64 (op : Int), .string (str ke), .int .i64 0, .int .i64 0, .int .u64 0, .string ⟨#[]⟩] 48 (0, 0)) := by rw [hx6]; exact heap_setCell_same x5 w.heap.size 6 _ _ (.string (str ke)) r5
      have o6 : ∀ q, q ≠ w.heap.size → x6.heap[q]? = w6.heap[q]? := fun q hq => by rw [hx6, heap_setCell_other x5 ⟨w.heap.size, 6, none⟩ q _ hq]; exact o5 q hq
      have z6 : x6.heap.size = w6.heap.size := by rw [hx6, size_setCell']; exact z5
      have b6 : Below w.heap.size w x6 := by rw [hx6]; exact Below.setCell (p := ⟨w.heap.size, 6, none⟩) b5 (Nat.le_refl _) (.string (str ke))
      clear hx6
      obtain ⟨x7, hx7⟩ : ∃ x, x = x6.setCell ⟨w.heap.size, 7, none⟩ (.int .i64 am) := ⟨_, rfl⟩
      rw [← hx7]
      have r7 : x7.heap[w.heap.size]? = some (.cells #[.bool lk, .bool ly, .int .u64 (aq : Int), .int .u64 (se : Int), .int .u64 (sq : Int), .int .i64 (op : Int), .string (str ke), .int .i64 am, .int .i64 0, .int .u64 0, .string ⟨#[]⟩] 48 (0, 0)) := by rw [hx7]; exact heap_setCell_same x6 w.heap.size 7 _ _ (.int .i64 am) r6
      have o7 : ∀ q, q ≠ w.heap.size → x7.heap[q]? = w6.heap[q]? := fun q hq => by rw [hx7, heap_setCell_other x6 ⟨w.heap.size, 7, none⟩ q _ hq]; exact o6 q hq
      have z7 : x7.heap.size = w6.heap.size := by rw [hx7, size_setCell']; exact z6
      have b7 : Below w.heap.size w x7 := by rw [hx7]; exact Below.setCell (p := ⟨w.heap.size, 7, none⟩) b6 (Nat.le_refl _) (.int .i64 am)
      clear hx7
      obtain ⟨x8, hx8⟩ : ∃ x, x = x7.setCell ⟨w.heap.size, 8, none⟩ (.int .i64 sp) := ⟨_, rfl⟩
      rw [← hx8]
      have r8 : x8.heap[w.heap.size]? = some (.cells #[.bool lk, .bool ly, .int .u64 (aq : Int), .int .u64 (se : Int), .int .u64 (sq : Int), .int .i64 (op : Int), .string (str ke), .int .i64 am, .int .i64 sp, .int .u64 0, .string ⟨#[]⟩] 48 (0, 0)) := by rw [hx8]; exact heap_setCell_same x7 w.heap.size 8 _ _ (.int .i64 sp) r7
      have o8 : ∀ q, q ≠ w.heap.size → x8.heap[q]? = w6.heap[q]? := fun q hq => by rw [hx8, heap_setCell_other x7 ⟨w.heap.size, 8, none⟩ q _ hq]; exact o7 q hq
      have z8 : x8.heap.size = w6.heap.size := by rw [hx8, size_setCell']; exact z7
      have b8 : Below w.heap.size w x8 := by rw [hx8]; exact Below.setCell (p := ⟨w.heap.size, 8, none⟩) b7 (Nat.le_refl _) (.int .i64 sp)
      clear hx8
      obtain ⟨x9, hx9⟩ : ∃ x, x = x8.setCell ⟨w.heap.size, 9, none⟩ (.int .u64 (le : Int)) := ⟨_, rfl⟩
      rw [← hx9]
      have r9 : x9.heap[w.heap.size]? = some (.cells #[.bool lk, .bool ly, .int .u64 (aq : Int), .int .u64 (se : Int), .int .u64 (sq : Int), .int .i64 (op : Int), .string (str ke), .int .i64 am, .int .i64 sp, .int .u64 (le : Int), .string ⟨#[]⟩] 48 (0, 0)) := by rw [hx9]; exact heap_setCell_same x8 w.heap.size 9 _ _ (.int .u64 (le : Int)) r8
      have o9 : ∀ q, q ≠ w.heap.size → x9.heap[q]? = w6.heap[q]? := fun q hq => by rw [hx9, heap_setCell_other x8 ⟨w.heap.size, 9, none⟩ q _ hq]; exact o8 q hq
      have z9 : x9.heap.size = w6.heap.size := by rw [hx9, size_setCell']; exact z8
      have b9 : Below w.heap.size w x9 := by rw [hx9]; exact Below.setCell (p := ⟨w.heap.size, 9, none⟩) b8 (Nat.le_refl _) (.int .u64 (le : Int))
      clear hx9
      obtain ⟨x10, hx10⟩ : ∃ x, x = x9.setCell ⟨w.heap.size, 10, none⟩ (.string (str ak)) := ⟨_, rfl⟩
      rw [← hx10]
      have r10 : x10.heap[w.heap.size]? = some (.cells #[.bool lk, .bool ly, .int .u64 (aq : Int), .int .u64 (se : Int), .int .u64 (sq : Int), .int .i64 (op : Int), .string (str ke), .int .i64 am, .int .i64 sp, .int .u64 (le : Int), .string (str ak)] 48 (0, 0)) := by rw [hx10]; exact heap_setCell_same x9 w.heap.size 10 _ _ (.string (str ak)) r9
      have o10 : ∀ q, q ≠ w.heap.size → x10.heap[q]? = w6.heap[q]? := fun q hq => by rw [hx10, heap_setCell_other x9 ⟨w.heap.size, 10, none⟩ q _ hq]; exact o9 q hq
      have z10 : x10.heap.size = w6.heap.size := by rw [hx10, size_setCell']; exact z9
      have b10 : Below w.heap.size w x10 := by rw [hx10]; exact Below.setCell (p := ⟨w.heap.size, 10, none⟩) b9 (Nat.le_refl _) (.string (str ak))
      clear hx10
      have hrep := askK_ok.keep HREP3.out (S' := New w x10) (fun q hq => o10 q (by have := hq.1; omega)) (fun q hq => ⟨by have := hq.1; omega, by rw [z10]; exact hq.2⟩)
      exact bodyPost_ret (v := .tuple #[.agg #[.bool lk, .bool ly, .int .u64 (aq : Int), .int .u64 (se : Int), .int .u64 (sq : Int), .int .i64 (op : Int), .string (str ke), .int .i64 am, .int .i64 sp, .int .u64 (le : Int), .string (str ak)], .bool false]) (results_cell_tmp (fn := Tryz.f12) (p := 2) (q := 3) rfl _ _ w.heap.size 48 #[.bool lk, .bool ly, .int .u64 (aq : Int), .int .u64 (se : Int), .int .u64 (sq : Int), .int .i64 (op : Int), .string (str ke), .int .i64 am, .int .i64 sp, .int .u64 (le : Int), .string (str ak)] (0, 0) _ rfl r10 Tryz.underlying48 (by kernel_rfl)) rfl ⟨_, by rw [HPW.out, Bool.false_and], hrep, b10⟩
  | true =>
    obtain ⟨sd, hsd⟩ : ∃ x, askK.sound d = x := ⟨_, rfl⟩
    have HSD := Lib.hid hsd
    have HOK := Lib.hid (fun (w : World) (h : askK.rep w (Old w) [.bool lk, .bool ly, .int .u64 (aq : Int), .int .u64 (se : Int), .int .u64 (sq : Int), .int .i64 (op : Int), .string (str ke), .int .i64 am, .int .i64 sp, .int .u64 (le : Int), .string (str ak)] d) => hsd ▸ ask_ok w h)
    clear hsd
    go_region_law (first
      | (go_simp; go_at_call 27; refine HW.out.mono ?_; rintro e w6 ⟨rfl, hin3, hgr3⟩
         have hgr : w5.grownBy w6 (some (w.heap.size + 1)) := ⟨hgr3.os, hgr3.tape, hgr3.output, hgr3.size, hgr3.block⟩
         have hx := (hgr.block (w.heap.size + 1 + 1) (row_lt HX2.out) hXg).trans HX2.out
         have hr := (hgr.block w.heap.size (row_lt HR2.out) hRg).trans HR2.out
         have hc0w6 : w6.cell? ⟨(w.heap.size + 1 + 1), 0, none⟩ = some (.bool lk) := by rw [cell_of_row w6 _ 0 _ _ _ hx]; rfl
         have hz0w6 : w6.cell? ⟨w.heap.size, 0, none⟩ = some (.bool false) := by rw [cell_of_row w6 _ 0 _ _ _ hr]; rfl
         have hf0w6 : w6.frozen? ⟨w.heap.size, 0, none⟩ = false := frozen_of_row w6 _ 0 _ _ hr
         have hc1w6 : w6.cell? ⟨(w.heap.size + 1 + 1), 1, none⟩ = some (.bool ly) := by rw [cell_of_row w6 _ 1 _ _ _ hx]; rfl
         have hz1w6 : w6.cell? ⟨w.heap.size, 1, none⟩ = some (.bool false) := by rw [cell_of_row w6 _ 1 _ _ _ hr]; rfl
         have hf1w6 : w6.frozen? ⟨w.heap.size, 1, none⟩ = false := frozen_of_row w6 _ 1 _ _ hr
         have hc2w6 : w6.cell? ⟨(w.heap.size + 1 + 1), 2, none⟩ = some (.int .u64 (aq : Int)) := by rw [cell_of_row w6 _ 2 _ _ _ hx]; rfl
         have hz2w6 : w6.cell? ⟨w.heap.size, 2, none⟩ = some (.int .u64 0) := by rw [cell_of_row w6 _ 2 _ _ _ hr]; rfl
         have hf2w6 : w6.frozen? ⟨w.heap.size, 2, none⟩ = false := frozen_of_row w6 _ 2 _ _ hr
         have hc3w6 : w6.cell? ⟨(w.heap.size + 1 + 1), 3, none⟩ = some (.int .u64 (se : Int)) := by rw [cell_of_row w6 _ 3 _ _ _ hx]; rfl
         have hz3w6 : w6.cell? ⟨w.heap.size, 3, none⟩ = some (.int .u64 0) := by rw [cell_of_row w6 _ 3 _ _ _ hr]; rfl
         have hf3w6 : w6.frozen? ⟨w.heap.size, 3, none⟩ = false := frozen_of_row w6 _ 3 _ _ hr
         have hc4w6 : w6.cell? ⟨(w.heap.size + 1 + 1), 4, none⟩ = some (.int .u64 (sq : Int)) := by rw [cell_of_row w6 _ 4 _ _ _ hx]; rfl
         have hz4w6 : w6.cell? ⟨w.heap.size, 4, none⟩ = some (.int .u64 0) := by rw [cell_of_row w6 _ 4 _ _ _ hr]; rfl
         have hf4w6 : w6.frozen? ⟨w.heap.size, 4, none⟩ = false := frozen_of_row w6 _ 4 _ _ hr
         have hc5w6 : w6.cell? ⟨(w.heap.size + 1 + 1), 5, none⟩ = some (.int .i64 (op : Int)) := by rw [cell_of_row w6 _ 5 _ _ _ hx]; rfl
         have hz5w6 : w6.cell? ⟨w.heap.size, 5, none⟩ = some (.int .i64 0) := by rw [cell_of_row w6 _ 5 _ _ _ hr]; rfl
         have hf5w6 : w6.frozen? ⟨w.heap.size, 5, none⟩ = false := frozen_of_row w6 _ 5 _ _ hr
         have hc6w6 : w6.cell? ⟨(w.heap.size + 1 + 1), 6, none⟩ = some (.string (str ke)) := by rw [cell_of_row w6 _ 6 _ _ _ hx]; rfl
         have hz6w6 : w6.cell? ⟨w.heap.size, 6, none⟩ = some (.string ⟨#[]⟩) := by rw [cell_of_row w6 _ 6 _ _ _ hr]; rfl
         have hf6w6 : w6.frozen? ⟨w.heap.size, 6, none⟩ = false := frozen_of_row w6 _ 6 _ _ hr
         have hc7w6 : w6.cell? ⟨(w.heap.size + 1 + 1), 7, none⟩ = some (.int .i64 am) := by rw [cell_of_row w6 _ 7 _ _ _ hx]; rfl
         have hz7w6 : w6.cell? ⟨w.heap.size, 7, none⟩ = some (.int .i64 0) := by rw [cell_of_row w6 _ 7 _ _ _ hr]; rfl
         have hf7w6 : w6.frozen? ⟨w.heap.size, 7, none⟩ = false := frozen_of_row w6 _ 7 _ _ hr
         have hc8w6 : w6.cell? ⟨(w.heap.size + 1 + 1), 8, none⟩ = some (.int .i64 sp) := by rw [cell_of_row w6 _ 8 _ _ _ hx]; rfl
         have hz8w6 : w6.cell? ⟨w.heap.size, 8, none⟩ = some (.int .i64 0) := by rw [cell_of_row w6 _ 8 _ _ _ hr]; rfl
         have hf8w6 : w6.frozen? ⟨w.heap.size, 8, none⟩ = false := frozen_of_row w6 _ 8 _ _ hr
         have hc9w6 : w6.cell? ⟨(w.heap.size + 1 + 1), 9, none⟩ = some (.int .u64 (le : Int)) := by rw [cell_of_row w6 _ 9 _ _ _ hx]; rfl
         have hz9w6 : w6.cell? ⟨w.heap.size, 9, none⟩ = some (.int .u64 0) := by rw [cell_of_row w6 _ 9 _ _ _ hr]; rfl
         have hf9w6 : w6.frozen? ⟨w.heap.size, 9, none⟩ = false := frozen_of_row w6 _ 9 _ _ hr
         have hc10w6 : w6.cell? ⟨(w.heap.size + 1 + 1), 10, none⟩ = some (.string (str ak)) := by rw [cell_of_row w6 _ 10 _ _ _ hx]; rfl
         have hz10w6 : w6.cell? ⟨w.heap.size, 10, none⟩ = some (.string ⟨#[]⟩) := by rw [cell_of_row w6 _ 10 _ _ _ hr]; rfl
         have hf10w6 : w6.frozen? ⟨w.heap.size, 10, none⟩ = false := frozen_of_row w6 _ 10 _ _ hr
         have HR3 := Lib.hid hr
         have HX3 := Lib.hid hx
         have HREP3 := Lib.hid (askK_ok.keep HREP2.out (S' := (fun q => w.heap.size + 1 < q ∧ q < w6.heap.size)) (fun q hq => hgr.block q hq.2 (fun e => by have := Option.some.inj e; have := hq.1; omega)) (fun q hq => ⟨hq.1, Nat.lt_of_lt_of_le hq.2 hgr.size⟩))
         have HB3 := Lib.hid (HB2.out.grown hgr HB2.out.size (fun k e => by have := Option.some.inj e; omega))
         clear hin3 hgr3 hgr hx hr)
      | (go_simp; go_at_call 39; refine (HOK.out _ (askK_ok.keep HREP3.out (S' := Old w6) (fun _ _ => rfl) (fun q hq => hq.2))).mono ?_; rintro e w7 ⟨rfl, hb4⟩
         have hx := (hb4.block (w.heap.size + 1 + 1) (row_lt HX3.out)).trans HX3.out
         have hr := (hb4.block w.heap.size (row_lt HR3.out)).trans HR3.out
         have hc0w7 : w7.cell? ⟨(w.heap.size + 1 + 1), 0, none⟩ = some (.bool lk) := by rw [cell_of_row w7 _ 0 _ _ _ hx]; rfl
         have hz0w7 : w7.cell? ⟨w.heap.size, 0, none⟩ = some (.bool false) := by rw [cell_of_row w7 _ 0 _ _ _ hr]; rfl
         have hf0w7 : w7.frozen? ⟨w.heap.size, 0, none⟩ = false := frozen_of_row w7 _ 0 _ _ hr
         have hc1w7 : w7.cell? ⟨(w.heap.size + 1 + 1), 1, none⟩ = some (.bool ly) := by rw [cell_of_row w7 _ 1 _ _ _ hx]; rfl
         have hz1w7 : w7.cell? ⟨w.heap.size, 1, none⟩ = some (.bool false) := by rw [cell_of_row w7 _ 1 _ _ _ hr]; rfl
         have hf1w7 : w7.frozen? ⟨w.heap.size, 1, none⟩ = false := frozen_of_row w7 _ 1 _ _ hr
         have hc2w7 : w7.cell? ⟨(w.heap.size + 1 + 1), 2, none⟩ = some (.int .u64 (aq : Int)) := by rw [cell_of_row w7 _ 2 _ _ _ hx]; rfl
         have hz2w7 : w7.cell? ⟨w.heap.size, 2, none⟩ = some (.int .u64 0) := by rw [cell_of_row w7 _ 2 _ _ _ hr]; rfl
         have hf2w7 : w7.frozen? ⟨w.heap.size, 2, none⟩ = false := frozen_of_row w7 _ 2 _ _ hr
         have hc3w7 : w7.cell? ⟨(w.heap.size + 1 + 1), 3, none⟩ = some (.int .u64 (se : Int)) := by rw [cell_of_row w7 _ 3 _ _ _ hx]; rfl
         have hz3w7 : w7.cell? ⟨w.heap.size, 3, none⟩ = some (.int .u64 0) := by rw [cell_of_row w7 _ 3 _ _ _ hr]; rfl
         have hf3w7 : w7.frozen? ⟨w.heap.size, 3, none⟩ = false := frozen_of_row w7 _ 3 _ _ hr
         have hc4w7 : w7.cell? ⟨(w.heap.size + 1 + 1), 4, none⟩ = some (.int .u64 (sq : Int)) := by rw [cell_of_row w7 _ 4 _ _ _ hx]; rfl
         have hz4w7 : w7.cell? ⟨w.heap.size, 4, none⟩ = some (.int .u64 0) := by rw [cell_of_row w7 _ 4 _ _ _ hr]; rfl
         have hf4w7 : w7.frozen? ⟨w.heap.size, 4, none⟩ = false := frozen_of_row w7 _ 4 _ _ hr
         have hc5w7 : w7.cell? ⟨(w.heap.size + 1 + 1), 5, none⟩ = some (.int .i64 (op : Int)) := by rw [cell_of_row w7 _ 5 _ _ _ hx]; rfl
         have hz5w7 : w7.cell? ⟨w.heap.size, 5, none⟩ = some (.int .i64 0) := by rw [cell_of_row w7 _ 5 _ _ _ hr]; rfl
         have hf5w7 : w7.frozen? ⟨w.heap.size, 5, none⟩ = false := frozen_of_row w7 _ 5 _ _ hr
         have hc6w7 : w7.cell? ⟨(w.heap.size + 1 + 1), 6, none⟩ = some (.string (str ke)) := by rw [cell_of_row w7 _ 6 _ _ _ hx]; rfl
         have hz6w7 : w7.cell? ⟨w.heap.size, 6, none⟩ = some (.string ⟨#[]⟩) := by rw [cell_of_row w7 _ 6 _ _ _ hr]; rfl
         have hf6w7 : w7.frozen? ⟨w.heap.size, 6, none⟩ = false := frozen_of_row w7 _ 6 _ _ hr
         have hc7w7 : w7.cell? ⟨(w.heap.size + 1 + 1), 7, none⟩ = some (.int .i64 am) := by rw [cell_of_row w7 _ 7 _ _ _ hx]; rfl
         have hz7w7 : w7.cell? ⟨w.heap.size, 7, none⟩ = some (.int .i64 0) := by rw [cell_of_row w7 _ 7 _ _ _ hr]; rfl
         have hf7w7 : w7.frozen? ⟨w.heap.size, 7, none⟩ = false := frozen_of_row w7 _ 7 _ _ hr
         have hc8w7 : w7.cell? ⟨(w.heap.size + 1 + 1), 8, none⟩ = some (.int .i64 sp) := by rw [cell_of_row w7 _ 8 _ _ _ hx]; rfl
         have hz8w7 : w7.cell? ⟨w.heap.size, 8, none⟩ = some (.int .i64 0) := by rw [cell_of_row w7 _ 8 _ _ _ hr]; rfl
         have hf8w7 : w7.frozen? ⟨w.heap.size, 8, none⟩ = false := frozen_of_row w7 _ 8 _ _ hr
         have hc9w7 : w7.cell? ⟨(w.heap.size + 1 + 1), 9, none⟩ = some (.int .u64 (le : Int)) := by rw [cell_of_row w7 _ 9 _ _ _ hx]; rfl
         have hz9w7 : w7.cell? ⟨w.heap.size, 9, none⟩ = some (.int .u64 0) := by rw [cell_of_row w7 _ 9 _ _ _ hr]; rfl
         have hf9w7 : w7.frozen? ⟨w.heap.size, 9, none⟩ = false := frozen_of_row w7 _ 9 _ _ hr
         have hc10w7 : w7.cell? ⟨(w.heap.size + 1 + 1), 10, none⟩ = some (.string (str ak)) := by rw [cell_of_row w7 _ 10 _ _ _ hx]; rfl
         have hz10w7 : w7.cell? ⟨w.heap.size, 10, none⟩ = some (.string ⟨#[]⟩) := by rw [cell_of_row w7 _ 10 _ _ _ hr]; rfl
         have hf10w7 : w7.frozen? ⟨w.heap.size, 10, none⟩ = false := frozen_of_row w7 _ 10 _ _ hr
         have HR4 := Lib.hid hr
         have HREP4 := Lib.hid (askK_ok.keep HREP3.out (S' := (fun q => w.heap.size + 1 < q ∧ q < w7.heap.size)) (fun q hq => hb4.block q hq.2) (fun q hq => ⟨hq.1, Nat.lt_of_lt_of_le hq.2 hb4.size⟩))
         have HB4 := Lib.hid (HB3.out.trans (hb4.mono HB3.out.size))
         clear hx hr hb4))
    all_goals
      go_wp2
      obtain ⟨x0, hx0⟩ : ∃ x, x = w7.setCell ⟨w.heap.size, 0, none⟩ (.bool lk) := ⟨_, rfl⟩
      rw [← hx0]
      have r0 : x0.heap[w.heap.size]? = some (.cells #[.bool lk, .bool false, .int .u64 0, .int .u64 0, .int .u64 0, .int .i64 0, .string ⟨#[]⟩, .int .i64 0, .int .i64 0, .int .u64 0, .string ⟨#[]⟩] 48 (0, 0)) := by rw [hx0]; exact heap_setCell_same w7 w.heap.size 0 _ _ (.bool lk) HR4.out
      have o0 : ∀ q, q ≠ w.heap.size → x0.heap[q]? = w7.heap[q]? := fun q hq => by rw [hx0, heap_setCell_other w7 ⟨w.heap.size, 0, none⟩ q _ hq]
      have z0 : x0.heap.size = w7.heap.size := by rw [hx0, size_setCell']
      have b0 : Below w.heap.size w x0 := by rw [hx0]; exact Below.setCell (p := ⟨w.heap.size, 0, none⟩) HB4.out (Nat.le_refl _) (.bool lk)
      clear hx0
      obtain ⟨x1, hx1⟩ : ∃ x, x = x0.setCell ⟨w.heap.size, 1, none⟩ (.bool ly) := ⟨_, rfl⟩
      rw [← hx1]
      have r1 : x1.heap[w.heap.size]? = some (.cells #[.bool lk, .bool ly, .int .u64 0, .int .u64 0, .int .u64 0, .int .i64 0, .string ⟨#[]⟩, .int .i64 0, .int .i64 0, .int .u64 0, .string ⟨#[]⟩] 48 (0, 0)) := by rw [hx1]; exact heap_setCell_same x0 w.heap.size 1 _ _ (.bool ly) r0
      have o1 : ∀ q, q ≠ w.heap.size → x1.heap[q]? = w7.heap[q]? := fun q hq => by rw [hx1, heap_setCell_other x0 ⟨w.heap.size, 1, none⟩ q _ hq]; exact o0 q hq
      have z1 : x1.heap.size = w7.heap.size := by rw [hx1, size_setCell']; exact z0
      have b1 : Below w.heap.size w x1 := by rw [hx1]; exact Below.setCell (p := ⟨w.heap.size, 1, none⟩) b0 (Nat.le_refl _) (.bool ly)
      clear hx1
      obtain ⟨x2, hx2⟩ : ∃ x, x = x1.setCell ⟨w.heap.size, 2, none⟩ (.int .u64 (aq : Int)) := ⟨_, rfl⟩
      rw [← hx2]
      have r2 : x2.heap[w.heap.size]? = some (.cells #[.bool lk, .bool ly, .int .u64 (aq : Int), .int .u64 0, .int .u64 0, .int .i64 0, .string ⟨#[]⟩, .int .i64 0, .int .i64 0, .int .u64 0, .string ⟨#[]⟩] 48 (0, 0)) := by rw [hx2]; exact heap_setCell_same x1 w.heap.size 2 _ _ (.int .u64 (aq : Int)) r1
      have o2 : ∀ q, q ≠ w.heap.size → x2.heap[q]? = w7.heap[q]? := fun q hq => by rw [hx2, heap_setCell_other x1 ⟨w.heap.size, 2, none⟩ q _ hq]; exact o1 q hq
      have z2 : x2.heap.size = w7.heap.size := by rw [hx2, size_setCell']; exact z1
      have b2 : Below w.heap.size w x2 := by rw [hx2]; exact Below.setCell (p := ⟨w.heap.size, 2, none⟩) b1 (Nat.le_refl _) (.int .u64 (aq : Int))
      clear hx2
      obtain ⟨x3, hx3⟩ : ∃ x, x = x2.setCell ⟨w.heap.size, 3, none⟩ (.int .u64 (se : Int)) := ⟨_, rfl⟩
      rw [← hx3]
      have r3 : x3.heap[w.heap.size]? = some (.cells #[.bool lk, .bool ly, .int .u64 (aq : Int), .int .u64 (se : Int), .int .u64 0, .int .i64 0, .string ⟨#[]⟩, .int .i64 0, .int .i64 0, .int .u64 0, .string ⟨#[]⟩] 48 (0, 0)) := by rw [hx3]; exact heap_setCell_same x2 w.heap.size 3 _ _ (.int .u64 (se : Int)) r2
      have o3 : ∀ q, q ≠ w.heap.size → x3.heap[q]? = w7.heap[q]? := fun q hq => by rw [hx3, heap_setCell_other x2 ⟨w.heap.size, 3, none⟩ q _ hq]; exact o2 q hq
      have z3 : x3.heap.size = w7.heap.size := by rw [hx3, size_setCell']; exact z2
      have b3 : Below w.heap.size w x3 := by rw [hx3]; exact Below.setCell (p := ⟨w.heap.size, 3, none⟩) b2 (Nat.le_refl _) (.int .u64 (se : Int))
      clear hx3
      obtain ⟨x4, hx4⟩ : ∃ x, x = x3.setCell ⟨w.heap.size, 4, none⟩ (.int .u64 (sq : Int)) := ⟨_, rfl⟩
      rw [← hx4]
      have r4 : x4.heap[w.heap.size]? = some (.cells #[.bool lk, .bool ly, .int .u64 (aq : Int), .int .u64 (se : Int), .int .u64 (sq : Int), .int .i64 0, .string ⟨#[]⟩, .int .i64 0, .int .i64 0, .int .u64 0, .string ⟨#[]⟩] 48 (0, 0)) := by rw [hx4]; exact heap_setCell_same x3 w.heap.size 4 _ _ (.int .u64 (sq : Int)) r3
      have o4 : ∀ q, q ≠ w.heap.size → x4.heap[q]? = w7.heap[q]? := fun q hq => by rw [hx4, heap_setCell_other x3 ⟨w.heap.size, 4, none⟩ q _ hq]; exact o3 q hq
      have z4 : x4.heap.size = w7.heap.size := by rw [hx4, size_setCell']; exact z3
      have b4 : Below w.heap.size w x4 := by rw [hx4]; exact Below.setCell (p := ⟨w.heap.size, 4, none⟩) b3 (Nat.le_refl _) (.int .u64 (sq : Int))
      clear hx4
      obtain ⟨x5, hx5⟩ : ∃ x, x = x4.setCell ⟨w.heap.size, 5, none⟩ (.int .i64 (op : Int)) := ⟨_, rfl⟩
      rw [← hx5]
      have r5 : x5.heap[w.heap.size]? = some (.cells #[.bool lk, .bool ly, .int .u64 (aq : Int), .int .u64 (se : Int), .int .u64 (sq : Int), .int .i64 (op : Int), .string ⟨#[]⟩, .int .i64 0, .int .i64 0, .int .u64 0, .string ⟨#[]⟩] 48 (0, 0)) := by rw [hx5]; exact heap_setCell_same x4 w.heap.size 5 _ _ (.int .i64 (op : Int)) r4
      have o5 : ∀ q, q ≠ w.heap.size → x5.heap[q]? = w7.heap[q]? := fun q hq => by rw [hx5, heap_setCell_other x4 ⟨w.heap.size, 5, none⟩ q _ hq]; exact o4 q hq
      have z5 : x5.heap.size = w7.heap.size := by rw [hx5, size_setCell']; exact z4
      have b5 : Below w.heap.size w x5 := by rw [hx5]; exact Below.setCell (p := ⟨w.heap.size, 5, none⟩) b4 (Nat.le_refl _) (.int .i64 (op : Int))
      clear hx5
      obtain ⟨x6, hx6⟩ : ∃ x, x = x5.setCell ⟨w.heap.size, 6, none⟩ (.string (str ke)) := ⟨_, rfl⟩
      rw [← hx6]
      have r6 : x6.heap[w.heap.size]? = some (.cells #[.bool lk, .bool ly, .int .u64 (aq : Int), .int .u64 (se : Int), .int .u64 (sq : Int), .int .i64 (op : Int), .string (str ke), .int .i64 0, .int .i64 0, .int .u64 0, .string ⟨#[]⟩] 48 (0, 0)) := by rw [hx6]; exact heap_setCell_same x5 w.heap.size 6 _ _ (.string (str ke)) r5
      have o6 : ∀ q, q ≠ w.heap.size → x6.heap[q]? = w7.heap[q]? := fun q hq => by rw [hx6, heap_setCell_other x5 ⟨w.heap.size, 6, none⟩ q _ hq]; exact o5 q hq
      have z6 : x6.heap.size = w7.heap.size := by rw [hx6, size_setCell']; exact z5
      have b6 : Below w.heap.size w x6 := by rw [hx6]; exact Below.setCell (p := ⟨w.heap.size, 6, none⟩) b5 (Nat.le_refl _) (.string (str ke))
      clear hx6
      obtain ⟨x7, hx7⟩ : ∃ x, x = x6.setCell ⟨w.heap.size, 7, none⟩ (.int .i64 am) := ⟨_, rfl⟩
      rw [← hx7]
      have r7 : x7.heap[w.heap.size]? = some (.cells #[.bool lk, .bool ly, .int .u64 (aq : Int), .int .u64 (se : Int), .int .u64 (sq : Int), .int .i64 (op : Int), .string (str ke), .int .i64 am, .int .i64 0, .int .u64 0, .string ⟨#[]⟩] 48 (0, 0)) := by rw [hx7]; exact heap_setCell_same x6 w.heap.size 7 _ _ (.int .i64 am) r6
      have o7 : ∀ q, q ≠ w.heap.size → x7.heap[q]? = w7.heap[q]? := fun q hq => by rw [hx7, heap_setCell_other x6 ⟨w.heap.size, 7, none⟩ q _ hq]; exact o6 q hq
      have z7 : x7.heap.size = w7.heap.size := by rw [hx7, size_setCell']; exact z6
      have b7 : Below w.heap.size w x7 := by rw [hx7]; exact Below.setCell (p := ⟨w.heap.size, 7, none⟩) b6 (Nat.le_refl _) (.int .i64 am)
      clear hx7
      obtain ⟨x8, hx8⟩ : ∃ x, x = x7.setCell ⟨w.heap.size, 8, none⟩ (.int .i64 sp) := ⟨_, rfl⟩
      rw [← hx8]
      have r8 : x8.heap[w.heap.size]? = some (.cells #[.bool lk, .bool ly, .int .u64 (aq : Int), .int .u64 (se : Int), .int .u64 (sq : Int), .int .i64 (op : Int), .string (str ke), .int .i64 am, .int .i64 sp, .int .u64 0, .string ⟨#[]⟩] 48 (0, 0)) := by rw [hx8]; exact heap_setCell_same x7 w.heap.size 8 _ _ (.int .i64 sp) r7
      have o8 : ∀ q, q ≠ w.heap.size → x8.heap[q]? = w7.heap[q]? := fun q hq => by rw [hx8, heap_setCell_other x7 ⟨w.heap.size, 8, none⟩ q _ hq]; exact o7 q hq
      have z8 : x8.heap.size = w7.heap.size := by rw [hx8, size_setCell']; exact z7
      have b8 : Below w.heap.size w x8 := by rw [hx8]; exact Below.setCell (p := ⟨w.heap.size, 8, none⟩) b7 (Nat.le_refl _) (.int .i64 sp)
      clear hx8
      obtain ⟨x9, hx9⟩ : ∃ x, x = x8.setCell ⟨w.heap.size, 9, none⟩ (.int .u64 (le : Int)) := ⟨_, rfl⟩
      rw [← hx9]
      have r9 : x9.heap[w.heap.size]? = some (.cells #[.bool lk, .bool ly, .int .u64 (aq : Int), .int .u64 (se : Int), .int .u64 (sq : Int), .int .i64 (op : Int), .string (str ke), .int .i64 am, .int .i64 sp, .int .u64 (le : Int), .string ⟨#[]⟩] 48 (0, 0)) := by rw [hx9]; exact heap_setCell_same x8 w.heap.size 9 _ _ (.int .u64 (le : Int)) r8
      have o9 : ∀ q, q ≠ w.heap.size → x9.heap[q]? = w7.heap[q]? := fun q hq => by rw [hx9, heap_setCell_other x8 ⟨w.heap.size, 9, none⟩ q _ hq]; exact o8 q hq
      have z9 : x9.heap.size = w7.heap.size := by rw [hx9, size_setCell']; exact z8
      have b9 : Below w.heap.size w x9 := by rw [hx9]; exact Below.setCell (p := ⟨w.heap.size, 9, none⟩) b8 (Nat.le_refl _) (.int .u64 (le : Int))
      clear hx9
      obtain ⟨x10, hx10⟩ : ∃ x, x = x9.setCell ⟨w.heap.size, 10, none⟩ (.string (str ak)) := ⟨_, rfl⟩
      rw [← hx10]
      have r10 : x10.heap[w.heap.size]? = some (.cells #[.bool lk, .bool ly, .int .u64 (aq : Int), .int .u64 (se : Int), .int .u64 (sq : Int), .int .i64 (op : Int), .string (str ke), .int .i64 am, .int .i64 sp, .int .u64 (le : Int), .string (str ak)] 48 (0, 0)) := by rw [hx10]; exact heap_setCell_same x9 w.heap.size 10 _ _ (.string (str ak)) r9
      have o10 : ∀ q, q ≠ w.heap.size → x10.heap[q]? = w7.heap[q]? := fun q hq => by rw [hx10, heap_setCell_other x9 ⟨w.heap.size, 10, none⟩ q _ hq]; exact o9 q hq
      have z10 : x10.heap.size = w7.heap.size := by rw [hx10, size_setCell']; exact z9
      have b10 : Below w.heap.size w x10 := by rw [hx10]; exact Below.setCell (p := ⟨w.heap.size, 10, none⟩) b9 (Nat.le_refl _) (.string (str ak))
      clear hx10
      have hrep := askK_ok.keep HREP4.out (S' := New w x10) (fun q hq => o10 q (by have := hq.1; omega)) (fun q hq => ⟨by have := hq.1; omega, by rw [z10]; exact hq.2⟩)
      exact bodyPost_ret (v := .tuple #[.agg #[.bool lk, .bool ly, .int .u64 (aq : Int), .int .u64 (se : Int), .int .u64 (sq : Int), .int .i64 (op : Int), .string (str ke), .int .i64 am, .int .i64 sp, .int .u64 (le : Int), .string (str ak)], .bool sd]) (results_cell_tmp (fn := Tryz.f12) (p := 2) (q := 3) rfl _ _ w.heap.size 48 #[.bool lk, .bool ly, .int .u64 (aq : Int), .int .u64 (se : Int), .int .u64 (sq : Int), .int .i64 (op : Int), .string (str ke), .int .i64 am, .int .i64 sp, .int .u64 (le : Int), .string (str ak)] (0, 0) _ rfl r10 Tryz.underlying48 (by kernel_rfl)) rfl ⟨_, by rw [HPW.out, HSD.out, Bool.true_and], hrep, b10⟩
set_option maxRecDepth 100000 in
set_option maxHeartbeats 8000000 in
theorem refToTold_any {A : Option Addr} {n c : Nat} {b : List UInt8} (w : World) (hn : n = b.length) (hnc : n ≤ c) (hm : n ≤ 140737488355328) (hr : Lies w w.heap.size A b) :
    Calls Tryz.prog 14 #[.slice A n c] w (RefTo toldK pToldD b w) := by
  subst hn
  obtain ⟨tq, s1, q1⟩ : ∃ n1 s1, pNum (some b) = (n1, s1) := ⟨_, _, rfl⟩
  obtain ⟨n2, s2, q2⟩ : ∃ n2 s2, pInt 1 s1 = (n2, s2) := ⟨_, _, rfl⟩
  obtain ⟨ld, s3, q3⟩ : ∃ n s3, pInt 16 s2 = (n, s3) := ⟨_, _, rfl⟩
  have lc := pReply_lim s3
  have hpc := pReplyD_eq s3
  obtain ⟨se, sq, er, lz, am, un, s4, q4⟩ : ∃ se sq er lz am un s4, pReply s3 = ((se, sq, er, lz, am, un), s4) := ⟨_, _, _, _, _, _, _, rfl⟩
  rw [q4] at lc hpc
  dsimp only at lc hpc
  obtain ⟨cp, s5, q5⟩ : ∃ n s5, pNum s4 = (n, s5) := ⟨_, _, rfl⟩
  obtain ⟨ln, st, q6⟩ : ∃ n st, pNum s5 = (n, st) := ⟨_, _, rfl⟩
  obtain ⟨rt, f2⟩ : ∃ v, ((n2 : Int) == 1) = v := ⟨_, rfl⟩
  have g2 : decide ((n2 : Int) = 1) = rt := by rw [← f2]; rfl
  have d2 : decide (n2 = 1) = rt := by rw [← g2]; congr 1; exact propext (by omega)
  have l1 : tq < 18446744073709551616 := by have := pNum_lt (some b); rw [q1] at this; exact this
  have l3 : ld ≤ 16 := by have := pInt_le' 16 s2; rw [q3] at this; exact this
  have hd : pToldD (some b) = (toldD tq rt (ld : Nat) se sq (er : Nat) lz am un (wrap64 (cp : Int)) (wrap64 (ln : Int)), st) := by simp only [pToldD, pRec, pAll, pFlagD, pNumD, pIntD, pI64D, q1, q2, q3, hpc, q5, q6, d2, toldD]
  unfold RefTo
  rw [hd]
  simp only
  have hrep : ∀ (w : World) (S : Nat → Prop), toldK.rep w S [.int .u64 (tq : Int), .bool rt, .int .i64 (ld : Int), .int .u64 (se : Int), .int .u64 (sq : Int), .int .i64 (er : Int), .int .u64 (lz : Int), .int .i64 am, .int .i64 un, .int .i64 (wrap64 (cp : Int)), .int .i64 (wrap64 (ln : Int))] (toldD tq rt (ld : Nat) se sq (er : Nat) lz am un (wrap64 (cp : Int)) (wrap64 (ln : Int))) := fun w S =>
    ⟨_, rfl, [_], _, _, _, rfl, rfl, ⟨tq, l1, rfl, rfl⟩, [_], _, _, _, rfl, rfl, ⟨rt, rfl, rfl⟩, [_], _, _, _, rfl, rfl, ⟨(ld : Int), by omega, by omega, rfl, rfl⟩, [_, _, _, _, _, _], _, _, _, rfl, rfl, rep_rep w S lc.1 lc.2.1 (by omega) lc.2.2.2.1 lc.2.2.2.2.1 lc.2.2.2.2.2, [_], _, _, _, rfl, rfl, ⟨_, (wrap_in cp).1, (wrap_in cp).2, rfl, rfl⟩, [_], _, _, _, rfl, rfl, ⟨_, (wrap_in ln).1, (wrap_in ln).2, rfl, rfl⟩, rfl, rfl⟩
  generalize toldD tq rt (ld : Nat) se sq (er : Nat) lz am un (wrap64 (cp : Int)) (wrap64 (ln : Int)) = d at hrep ⊢
  have HQ1 := Lib.hid q1
  have HQ2 := Lib.hid q2
  have HQ3 := Lib.hid q3
  have HQ4 := Lib.hid q4
  have HQ5 := Lib.hid q5
  have HQ6 := Lib.hid q6
  have HFL2 := Lib.hid f2
  have HFM2 := Lib.hid g2
  have HREP := Lib.hid hrep
  clear q1 q2 q3 q4 q5 q6 f2 g2 d2 lc hpc l1 l3 hd hrep
  obtain ⟨w0, hw0⟩ : ∃ w0, w0 = (((w.alloc (.cells #[.int .u64 0, .bool false, .int .i64 0, .int .u64 0, .int .u64 0, .int .i64 0, .int .u64 0, .int .i64 0, .int .i64 0, .int .i64 0, .int .i64 0] 54)).alloc (.cells #[.slice A b.length c, .int .i64 0, .bool false] 77)).alloc (.cells #[.int .u64 0, .bool false, .int .i64 0, .int .u64 0, .int .u64 0, .int .i64 0, .int .u64 0, .int .i64 0, .int .i64 0, .int .i64 0, .int .i64 0] 54)) := ⟨_, rfl⟩
  have hb0 : Below w.heap.size w w0 := by rw [hw0]; exact (((Below.refl _ _).alloc (Nat.le_refl _) _).alloc (by simp only [World.size_alloc]; omega) _).alloc (by simp only [World.size_alloc]; omega) _
  have hri : w0.heap[w.heap.size + 1]? = some (.cells #[.slice A b.length c, .int .i64 0, .bool false] 77 (0, 0)) := by
    rw [hw0, heap_alloc_old _ _ (by simp only [World.size_alloc]; omega)]; exact heap_alloc2_new w _ _
  have hin0 : InAt w.heap.size (w.heap.size + 1) w0 b (some b) := ⟨A, c, 0, false, Nat.le_succ _, hnc, hm, hri, hr.below hb0, Nat.zero_le _, .inr ⟨rfl, rfl⟩⟩
  have hrr0 : w0.heap[w.heap.size]? = some (.cells #[.int .u64 0, .bool false, .int .i64 0, .int .u64 0, .int .u64 0, .int .i64 0, .int .u64 0, .int .i64 0, .int .i64 0, .int .i64 0, .int .i64 0] 54 (0, 0)) := by rw [hw0, heap_alloc_old _ _ (by simp only [World.size_alloc]; omega)]; exact heap_alloc2_old w _ _
  have hx0 : w0.heap[w.heap.size + 1 + 1]? = some (.cells #[.int .u64 0, .bool false, .int .i64 0, .int .u64 0, .int .u64 0, .int .i64 0, .int .u64 0, .int .i64 0, .int .i64 0, .int .i64 0, .int .i64 0] 54 (0, 0)) := by
    have h := heap_alloc_new ((w.alloc (.cells #[.int .u64 0, .bool false, .int .i64 0, .int .u64 0, .int .u64 0, .int .i64 0, .int .u64 0, .int .i64 0, .int .i64 0, .int .i64 0, .int .i64 0] 54)).alloc (.cells #[.slice A b.length c, .int .i64 0, .bool false] 77)) (.cells #[.int .u64 0, .bool false, .int .i64 0, .int .u64 0, .int .u64 0, .int .i64 0, .int .u64 0, .int .i64 0, .int .i64 0, .int .i64 0, .int .i64 0] 54)
    rw [hw0]
    simpa only [World.size_alloc] using h
  have HB := Lib.hid hb0
  have HIN := Lib.hid hin0
  have HR := Lib.hid hrr0
  have HX := Lib.hid hx0
  clear hb0 hri hin0 hrr0 hx0 hr hnc hm
  go_enter Tryz.func14, Tryz.ntmps14
  go_wp2_with fail
  rw [← hw0]
  clear hw0
  have hzw := HB.out.size
  have hcall := inNum_any w.heap.size (w.heap.size + 1) b (some b) w0 HIN.out
  rw [HQ1.out] at hcall
  refine hcall.mono ?_
  rintro e u0 ⟨rfl, hin, hgr⟩
  have hx := (hgr.block (w.heap.size + 1 + 1) (row_lt HX.out) (fun e => by have := Option.some.inj e; omega)).trans HX.out
  have hr := (hgr.block w.heap.size (row_lt HR.out) (fun e => by have := Option.some.inj e; omega)).trans HR.out
  have hb := HB.out.grown hgr hzw (fun k e => by have := Option.some.inj e; omega)
  have hlx := row_lt HX.out
  have hzu := hgr.size
  have hcx0 : u0.cell? ⟨w.heap.size + 1 + 1, 0, none⟩ = some (.int .u64 0) := by rw [cell_of_row u0 _ 0 _ _ _ hx]; rfl
  have hfx0 : u0.frozen? ⟨w.heap.size + 1 + 1, 0, none⟩ = false := frozen_of_row u0 _ 0 _ _ hx
  have hx1 := heap_setCell_same u0 (w.heap.size + 1 + 1) 0 _ _ (.int .u64 (tq : Int)) hx
  have hoth : ∀ q, q ≠ w.heap.size + 1 + 1 → (u0.setCell ⟨w.heap.size + 1 + 1, 0, none⟩ (.int .u64 (tq : Int))).heap[q]? = u0.heap[q]? := fun q hq => heap_setCell_other _ ⟨w.heap.size + 1 + 1, 0, none⟩ q _ hq
  have hsz : (u0.setCell ⟨w.heap.size + 1 + 1, 0, none⟩ (.int .u64 (tq : Int))).heap.size = u0.heap.size := by simp only [size_setCell']
  replace HX := Lib.hid (show (u0.setCell ⟨w.heap.size + 1 + 1, 0, none⟩ (.int .u64 (tq : Int))).heap[w.heap.size + 1 + 1]? = some (.cells #[.int .u64 (tq : Int), .bool false, .int .i64 0, .int .u64 0, .int .u64 0, .int .i64 0, .int .u64 0, .int .i64 0, .int .i64 0, .int .i64 0, .int .i64 0] 54 (0, 0)) from hx1)
  replace HR := Lib.hid ((hoth w.heap.size (by omega)).trans hr)
  replace HIN := Lib.hid (inAt_set (X := w.heap.size + 1 + 1) hin (by omega) (by omega) 0 (.int .u64 (tq : Int)))
  replace HB := Lib.hid (hb.setCell (p := ⟨w.heap.size + 1 + 1, 0, none⟩) (by show w.heap.size ≤ w.heap.size + 1 + 1; omega) (.int .u64 (tq : Int)))
  clear hoth hsz hcall hx hx1 hr hb hin hgr hlx hzu hzw
  go_wp2_with fail
  generalize (u0.setCell ⟨w.heap.size + 1 + 1, 0, none⟩ (.int .u64 (tq : Int))) = w1 at HX HR HIN HB ⊢
  clear hcx0 hfx0
  have hzw := HB.out.size
  have hcall : Calls Tryz.prog 22 #[.pointer (some ⟨w.heap.size + 1, 0, none⟩), .int .u64 1] w1 _ := inInt_any w.heap.size (w.heap.size + 1) b s1 1 (by decide) w1 HIN.out
  rw [HQ2.out] at hcall
  refine hcall.mono ?_
  rintro e u1 ⟨rfl, hin, hgr⟩
  have hfa := HFL2.out
  have hfb := HFM2.out
  have hx := (hgr.block (w.heap.size + 1 + 1) (row_lt HX.out) (fun e => by have := Option.some.inj e; omega)).trans HX.out
  have hr := (hgr.block w.heap.size (row_lt HR.out) (fun e => by have := Option.some.inj e; omega)).trans HR.out
  have hb := HB.out.grown hgr hzw (fun k e => by have := Option.some.inj e; omega)
  have hlx := row_lt HX.out
  have hzu := hgr.size
  have hcx0 : u1.cell? ⟨w.heap.size + 1 + 1, 1, none⟩ = some (.bool false) := by rw [cell_of_row u1 _ 1 _ _ _ hx]; rfl
  have hfx0 : u1.frozen? ⟨w.heap.size + 1 + 1, 1, none⟩ = false := frozen_of_row u1 _ 1 _ _ hx
  have hx1 := heap_setCell_same u1 (w.heap.size + 1 + 1) 1 _ _ (.bool rt) hx
  have hoth : ∀ q, q ≠ w.heap.size + 1 + 1 → (u1.setCell ⟨w.heap.size + 1 + 1, 1, none⟩ (.bool rt)).heap[q]? = u1.heap[q]? := fun q hq => heap_setCell_other _ ⟨w.heap.size + 1 + 1, 1, none⟩ q _ hq
  have hsz : (u1.setCell ⟨w.heap.size + 1 + 1, 1, none⟩ (.bool rt)).heap.size = u1.heap.size := by simp only [size_setCell']
  replace HX := Lib.hid (show (u1.setCell ⟨w.heap.size + 1 + 1, 1, none⟩ (.bool rt)).heap[w.heap.size + 1 + 1]? = some (.cells #[.int .u64 (tq : Int), .bool rt, .int .i64 0, .int .u64 0, .int .u64 0, .int .i64 0, .int .u64 0, .int .i64 0, .int .i64 0, .int .i64 0, .int .i64 0] 54 (0, 0)) from hx1)
  replace HR := Lib.hid ((hoth w.heap.size (by omega)).trans hr)
  replace HIN := Lib.hid (inAt_set (X := w.heap.size + 1 + 1) hin (by omega) (by omega) 1 (.bool rt))
  replace HB := Lib.hid (hb.setCell (p := ⟨w.heap.size + 1 + 1, 1, none⟩) (by show w.heap.size ≤ w.heap.size + 1 + 1; omega) (.bool rt))
  clear hoth hsz hcall hx hx1 hr hb hin hgr hlx hzu hzw
  go_wp2_with fail
  generalize (u1.setCell ⟨w.heap.size + 1 + 1, 1, none⟩ (.bool rt)) = w2 at HX HR HIN HB ⊢
  clear hcx0 hfx0 hfa hfb
  have hzw := HB.out.size
  have hcall : Calls Tryz.prog 22 #[.pointer (some ⟨w.heap.size + 1, 0, none⟩), .int .u64 16] w2 _ := inInt_any w.heap.size (w.heap.size + 1) b s2 16 (by decide) w2 HIN.out
  rw [HQ3.out] at hcall
  refine hcall.mono ?_
  rintro e u2 ⟨rfl, hin, hgr⟩
  have hx := (hgr.block (w.heap.size + 1 + 1) (row_lt HX.out) (fun e => by have := Option.some.inj e; omega)).trans HX.out
  have hr := (hgr.block w.heap.size (row_lt HR.out) (fun e => by have := Option.some.inj e; omega)).trans HR.out
  have hb := HB.out.grown hgr hzw (fun k e => by have := Option.some.inj e; omega)
  have hlx := row_lt HX.out
  have hzu := hgr.size
  have hcx0 : u2.cell? ⟨w.heap.size + 1 + 1, 2, none⟩ = some (.int .i64 0) := by rw [cell_of_row u2 _ 2 _ _ _ hx]; rfl
  have hfx0 : u2.frozen? ⟨w.heap.size + 1 + 1, 2, none⟩ = false := frozen_of_row u2 _ 2 _ _ hx
  have hx1 := heap_setCell_same u2 (w.heap.size + 1 + 1) 2 _ _ (.int .i64 (ld : Int)) hx
  have hoth : ∀ q, q ≠ w.heap.size + 1 + 1 → (u2.setCell ⟨w.heap.size + 1 + 1, 2, none⟩ (.int .i64 (ld : Int))).heap[q]? = u2.heap[q]? := fun q hq => heap_setCell_other _ ⟨w.heap.size + 1 + 1, 2, none⟩ q _ hq
  have hsz : (u2.setCell ⟨w.heap.size + 1 + 1, 2, none⟩ (.int .i64 (ld : Int))).heap.size = u2.heap.size := by simp only [size_setCell']
  replace HX := Lib.hid (show (u2.setCell ⟨w.heap.size + 1 + 1, 2, none⟩ (.int .i64 (ld : Int))).heap[w.heap.size + 1 + 1]? = some (.cells #[.int .u64 (tq : Int), .bool rt, .int .i64 (ld : Int), .int .u64 0, .int .u64 0, .int .i64 0, .int .u64 0, .int .i64 0, .int .i64 0, .int .i64 0, .int .i64 0] 54 (0, 0)) from hx1)
  replace HR := Lib.hid ((hoth w.heap.size (by omega)).trans hr)
  replace HIN := Lib.hid (inAt_set (X := w.heap.size + 1 + 1) hin (by omega) (by omega) 2 (.int .i64 (ld : Int)))
  replace HB := Lib.hid (hb.setCell (p := ⟨w.heap.size + 1 + 1, 2, none⟩) (by show w.heap.size ≤ w.heap.size + 1 + 1; omega) (.int .i64 (ld : Int)))
  clear hoth hsz hcall hx hx1 hr hb hin hgr hlx hzu hzw
  go_wp2_with fail
  generalize (u2.setCell ⟨w.heap.size + 1 + 1, 2, none⟩ (.int .i64 (ld : Int))) = w3 at HX HR HIN HB ⊢
  clear hcx0 hfx0
  have hzw := HB.out.size
  have hcall := inReply_any w.heap.size (w.heap.size + 1) b s3 w3 HIN.out hzw
  rw [HQ4.out] at hcall
  dsimp only at hcall
  refine hcall.mono ?_
  rintro e u3 ⟨rfl, hin, hgr⟩
  have hx := (hgr.block (w.heap.size + 1 + 1) (row_lt HX.out) (fun e => by have := Option.some.inj e; omega)).trans HX.out
  have hr := (hgr.block w.heap.size (row_lt HR.out) (fun e => by have := Option.some.inj e; omega)).trans HR.out
  have hb := HB.out.grown hgr hzw (fun k e => by have := Option.some.inj e; omega)
  have hlx := row_lt HX.out
  have hzu := hgr.size
  have hcx0 : u3.cell? ⟨w.heap.size + 1 + 1, 3, none⟩ = some (.int .u64 0) := by rw [cell_of_row u3 _ 3 _ _ _ hx]; rfl
  have hfx0 : u3.frozen? ⟨w.heap.size + 1 + 1, 3, none⟩ = false := frozen_of_row u3 _ 3 _ _ hx
  have hcx1 : u3.cell? ⟨w.heap.size + 1 + 1, 4, none⟩ = some (.int .u64 0) := by rw [cell_of_row u3 _ 4 _ _ _ hx]; rfl
  have hfx1 : u3.frozen? ⟨w.heap.size + 1 + 1, 4, none⟩ = false := frozen_of_row u3 _ 4 _ _ hx
  have hcx2 : u3.cell? ⟨w.heap.size + 1 + 1, 5, none⟩ = some (.int .i64 0) := by rw [cell_of_row u3 _ 5 _ _ _ hx]; rfl
  have hfx2 : u3.frozen? ⟨w.heap.size + 1 + 1, 5, none⟩ = false := frozen_of_row u3 _ 5 _ _ hx
  have hcx3 : u3.cell? ⟨w.heap.size + 1 + 1, 6, none⟩ = some (.int .u64 0) := by rw [cell_of_row u3 _ 6 _ _ _ hx]; rfl
  have hfx3 : u3.frozen? ⟨w.heap.size + 1 + 1, 6, none⟩ = false := frozen_of_row u3 _ 6 _ _ hx
  have hcx4 : u3.cell? ⟨w.heap.size + 1 + 1, 7, none⟩ = some (.int .i64 0) := by rw [cell_of_row u3 _ 7 _ _ _ hx]; rfl
  have hfx4 : u3.frozen? ⟨w.heap.size + 1 + 1, 7, none⟩ = false := frozen_of_row u3 _ 7 _ _ hx
  have hcx5 : u3.cell? ⟨w.heap.size + 1 + 1, 8, none⟩ = some (.int .i64 0) := by rw [cell_of_row u3 _ 8 _ _ _ hx]; rfl
  have hfx5 : u3.frozen? ⟨w.heap.size + 1 + 1, 8, none⟩ = false := frozen_of_row u3 _ 8 _ _ hx
  have hx1 := heap_setCell_same u3 (w.heap.size + 1 + 1) 3 _ _ (.int .u64 (se : Int)) hx
  have hx2 := heap_setCell_same (u3.setCell ⟨w.heap.size + 1 + 1, 3, none⟩ (.int .u64 (se : Int))) (w.heap.size + 1 + 1) 4 _ _ (.int .u64 (sq : Int)) hx1
  have hx3 := heap_setCell_same ((u3.setCell ⟨w.heap.size + 1 + 1, 3, none⟩ (.int .u64 (se : Int))).setCell ⟨w.heap.size + 1 + 1, 4, none⟩ (.int .u64 (sq : Int))) (w.heap.size + 1 + 1) 5 _ _ (.int .i64 (er : Int)) hx2
  have hx4 := heap_setCell_same (((u3.setCell ⟨w.heap.size + 1 + 1, 3, none⟩ (.int .u64 (se : Int))).setCell ⟨w.heap.size + 1 + 1, 4, none⟩ (.int .u64 (sq : Int))).setCell ⟨w.heap.size + 1 + 1, 5, none⟩ (.int .i64 (er : Int))) (w.heap.size + 1 + 1) 6 _ _ (.int .u64 (lz : Int)) hx3
  have hx5 := heap_setCell_same ((((u3.setCell ⟨w.heap.size + 1 + 1, 3, none⟩ (.int .u64 (se : Int))).setCell ⟨w.heap.size + 1 + 1, 4, none⟩ (.int .u64 (sq : Int))).setCell ⟨w.heap.size + 1 + 1, 5, none⟩ (.int .i64 (er : Int))).setCell ⟨w.heap.size + 1 + 1, 6, none⟩ (.int .u64 (lz : Int))) (w.heap.size + 1 + 1) 7 _ _ (.int .i64 am) hx4
  have hx6 := heap_setCell_same (((((u3.setCell ⟨w.heap.size + 1 + 1, 3, none⟩ (.int .u64 (se : Int))).setCell ⟨w.heap.size + 1 + 1, 4, none⟩ (.int .u64 (sq : Int))).setCell ⟨w.heap.size + 1 + 1, 5, none⟩ (.int .i64 (er : Int))).setCell ⟨w.heap.size + 1 + 1, 6, none⟩ (.int .u64 (lz : Int))).setCell ⟨w.heap.size + 1 + 1, 7, none⟩ (.int .i64 am)) (w.heap.size + 1 + 1) 8 _ _ (.int .i64 un) hx5
  have hoth : ∀ q, q ≠ w.heap.size + 1 + 1 → ((((((u3.setCell ⟨w.heap.size + 1 + 1, 3, none⟩ (.int .u64 (se : Int))).setCell ⟨w.heap.size + 1 + 1, 4, none⟩ (.int .u64 (sq : Int))).setCell ⟨w.heap.size + 1 + 1, 5, none⟩ (.int .i64 (er : Int))).setCell ⟨w.heap.size + 1 + 1, 6, none⟩ (.int .u64 (lz : Int))).setCell ⟨w.heap.size + 1 + 1, 7, none⟩ (.int .i64 am)).setCell ⟨w.heap.size + 1 + 1, 8, none⟩ (.int .i64 un)).heap[q]? = u3.heap[q]? := fun q hq => (heap_setCell_other _ ⟨w.heap.size + 1 + 1, 8, none⟩ q _ hq).trans ((heap_setCell_other _ ⟨w.heap.size + 1 + 1, 7, none⟩ q _ hq).trans ((heap_setCell_other _ ⟨w.heap.size + 1 + 1, 6, none⟩ q _ hq).trans ((heap_setCell_other _ ⟨w.heap.size + 1 + 1, 5, none⟩ q _ hq).trans ((heap_setCell_other _ ⟨w.heap.size + 1 + 1, 4, none⟩ q _ hq).trans (heap_setCell_other _ ⟨w.heap.size + 1 + 1, 3, none⟩ q _ hq)))))
  have hsz : ((((((u3.setCell ⟨w.heap.size + 1 + 1, 3, none⟩ (.int .u64 (se : Int))).setCell ⟨w.heap.size + 1 + 1, 4, none⟩ (.int .u64 (sq : Int))).setCell ⟨w.heap.size + 1 + 1, 5, none⟩ (.int .i64 (er : Int))).setCell ⟨w.heap.size + 1 + 1, 6, none⟩ (.int .u64 (lz : Int))).setCell ⟨w.heap.size + 1 + 1, 7, none⟩ (.int .i64 am)).setCell ⟨w.heap.size + 1 + 1, 8, none⟩ (.int .i64 un)).heap.size = u3.heap.size := by simp only [size_setCell']
  replace HX := Lib.hid (show ((((((u3.setCell ⟨w.heap.size + 1 + 1, 3, none⟩ (.int .u64 (se : Int))).setCell ⟨w.heap.size + 1 + 1, 4, none⟩ (.int .u64 (sq : Int))).setCell ⟨w.heap.size + 1 + 1, 5, none⟩ (.int .i64 (er : Int))).setCell ⟨w.heap.size + 1 + 1, 6, none⟩ (.int .u64 (lz : Int))).setCell ⟨w.heap.size + 1 + 1, 7, none⟩ (.int .i64 am)).setCell ⟨w.heap.size + 1 + 1, 8, none⟩ (.int .i64 un)).heap[w.heap.size + 1 + 1]? = some (.cells #[.int .u64 (tq : Int), .bool rt, .int .i64 (ld : Int), .int .u64 (se : Int), .int .u64 (sq : Int), .int .i64 (er : Int), .int .u64 (lz : Int), .int .i64 am, .int .i64 un, .int .i64 0, .int .i64 0] 54 (0, 0)) from hx6)
  replace HR := Lib.hid ((hoth w.heap.size (by omega)).trans hr)
  replace HIN := Lib.hid (inAt_set (X := w.heap.size + 1 + 1) (inAt_set (X := w.heap.size + 1 + 1) (inAt_set (X := w.heap.size + 1 + 1) (inAt_set (X := w.heap.size + 1 + 1) (inAt_set (X := w.heap.size + 1 + 1) (inAt_set (X := w.heap.size + 1 + 1) hin (by omega) (by omega) 3 (.int .u64 (se : Int))) (by omega) (by omega) 4 (.int .u64 (sq : Int))) (by omega) (by omega) 5 (.int .i64 (er : Int))) (by omega) (by omega) 6 (.int .u64 (lz : Int))) (by omega) (by omega) 7 (.int .i64 am)) (by omega) (by omega) 8 (.int .i64 un))
  replace HB := Lib.hid ((((((hb.setCell (p := ⟨w.heap.size + 1 + 1, 3, none⟩) (by show w.heap.size ≤ w.heap.size + 1 + 1; omega) (.int .u64 (se : Int))).setCell (p := ⟨w.heap.size + 1 + 1, 4, none⟩) (by show w.heap.size ≤ w.heap.size + 1 + 1; omega) (.int .u64 (sq : Int))).setCell (p := ⟨w.heap.size + 1 + 1, 5, none⟩) (by show w.heap.size ≤ w.heap.size + 1 + 1; omega) (.int .i64 (er : Int))).setCell (p := ⟨w.heap.size + 1 + 1, 6, none⟩) (by show w.heap.size ≤ w.heap.size + 1 + 1; omega) (.int .u64 (lz : Int))).setCell (p := ⟨w.heap.size + 1 + 1, 7, none⟩) (by show w.heap.size ≤ w.heap.size + 1 + 1; omega) (.int .i64 am)).setCell (p := ⟨w.heap.size + 1 + 1, 8, none⟩) (by show w.heap.size ≤ w.heap.size + 1 + 1; omega) (.int .i64 un))
  clear hoth hsz hcall hx hx1 hx2 hx3 hx4 hx5 hx6 hr hb hin hgr hlx hzu hzw
  go_wp2_with fail
  generalize ((((((u3.setCell ⟨w.heap.size + 1 + 1, 3, none⟩ (.int .u64 (se : Int))).setCell ⟨w.heap.size + 1 + 1, 4, none⟩ (.int .u64 (sq : Int))).setCell ⟨w.heap.size + 1 + 1, 5, none⟩ (.int .i64 (er : Int))).setCell ⟨w.heap.size + 1 + 1, 6, none⟩ (.int .u64 (lz : Int))).setCell ⟨w.heap.size + 1 + 1, 7, none⟩ (.int .i64 am)).setCell ⟨w.heap.size + 1 + 1, 8, none⟩ (.int .i64 un)) = w4 at HX HR HIN HB ⊢
  clear hcx0 hfx0 hcx1 hfx1 hcx2 hfx2 hcx3 hfx3 hcx4 hfx4 hcx5 hfx5
  have hzw := HB.out.size
  have hcall := inNum_any w.heap.size (w.heap.size + 1) b s4 w4 HIN.out
  rw [HQ5.out] at hcall
  refine hcall.mono ?_
  rintro e u4 ⟨rfl, hin, hgr⟩
  have hx := (hgr.block (w.heap.size + 1 + 1) (row_lt HX.out) (fun e => by have := Option.some.inj e; omega)).trans HX.out
  have hr := (hgr.block w.heap.size (row_lt HR.out) (fun e => by have := Option.some.inj e; omega)).trans HR.out
  have hb := HB.out.grown hgr hzw (fun k e => by have := Option.some.inj e; omega)
  have hlx := row_lt HX.out
  have hzu := hgr.size
  have hcx0 : u4.cell? ⟨w.heap.size + 1 + 1, 9, none⟩ = some (.int .i64 0) := by rw [cell_of_row u4 _ 9 _ _ _ hx]; rfl
  have hfx0 : u4.frozen? ⟨w.heap.size + 1 + 1, 9, none⟩ = false := frozen_of_row u4 _ 9 _ _ hx
  have hx1 := heap_setCell_same u4 (w.heap.size + 1 + 1) 9 _ _ (.int .i64 (wrap64 (cp : Int))) hx
  have hoth : ∀ q, q ≠ w.heap.size + 1 + 1 → (u4.setCell ⟨w.heap.size + 1 + 1, 9, none⟩ (.int .i64 (wrap64 (cp : Int)))).heap[q]? = u4.heap[q]? := fun q hq => heap_setCell_other _ ⟨w.heap.size + 1 + 1, 9, none⟩ q _ hq
  have hsz : (u4.setCell ⟨w.heap.size + 1 + 1, 9, none⟩ (.int .i64 (wrap64 (cp : Int)))).heap.size = u4.heap.size := by simp only [size_setCell']
  replace HX := Lib.hid (show (u4.setCell ⟨w.heap.size + 1 + 1, 9, none⟩ (.int .i64 (wrap64 (cp : Int)))).heap[w.heap.size + 1 + 1]? = some (.cells #[.int .u64 (tq : Int), .bool rt, .int .i64 (ld : Int), .int .u64 (se : Int), .int .u64 (sq : Int), .int .i64 (er : Int), .int .u64 (lz : Int), .int .i64 am, .int .i64 un, .int .i64 (wrap64 (cp : Int)), .int .i64 0] 54 (0, 0)) from hx1)
  replace HR := Lib.hid ((hoth w.heap.size (by omega)).trans hr)
  replace HIN := Lib.hid (inAt_set (X := w.heap.size + 1 + 1) hin (by omega) (by omega) 9 (.int .i64 (wrap64 (cp : Int))))
  replace HB := Lib.hid (hb.setCell (p := ⟨w.heap.size + 1 + 1, 9, none⟩) (by show w.heap.size ≤ w.heap.size + 1 + 1; omega) (.int .i64 (wrap64 (cp : Int))))
  clear hoth hsz hcall hx hx1 hr hb hin hgr hlx hzu hzw
  go_wp2_with fail
  generalize (u4.setCell ⟨w.heap.size + 1 + 1, 9, none⟩ (.int .i64 (wrap64 (cp : Int)))) = w5 at HX HR HIN HB ⊢
  clear hcx0 hfx0
  have hzw := HB.out.size
  have hcall := inNum_any w.heap.size (w.heap.size + 1) b s5 w5 HIN.out
  rw [HQ6.out] at hcall
  refine hcall.mono ?_
  rintro e u5 ⟨rfl, hin, hgr⟩
  have hx := (hgr.block (w.heap.size + 1 + 1) (row_lt HX.out) (fun e => by have := Option.some.inj e; omega)).trans HX.out
  have hr := (hgr.block w.heap.size (row_lt HR.out) (fun e => by have := Option.some.inj e; omega)).trans HR.out
  have hb := HB.out.grown hgr hzw (fun k e => by have := Option.some.inj e; omega)
  have hlx := row_lt HX.out
  have hzu := hgr.size
  have hcx0 : u5.cell? ⟨w.heap.size + 1 + 1, 10, none⟩ = some (.int .i64 0) := by rw [cell_of_row u5 _ 10 _ _ _ hx]; rfl
  have hfx0 : u5.frozen? ⟨w.heap.size + 1 + 1, 10, none⟩ = false := frozen_of_row u5 _ 10 _ _ hx
  have hx1 := heap_setCell_same u5 (w.heap.size + 1 + 1) 10 _ _ (.int .i64 (wrap64 (ln : Int))) hx
  have hoth : ∀ q, q ≠ w.heap.size + 1 + 1 → (u5.setCell ⟨w.heap.size + 1 + 1, 10, none⟩ (.int .i64 (wrap64 (ln : Int)))).heap[q]? = u5.heap[q]? := fun q hq => heap_setCell_other _ ⟨w.heap.size + 1 + 1, 10, none⟩ q _ hq
  have hsz : (u5.setCell ⟨w.heap.size + 1 + 1, 10, none⟩ (.int .i64 (wrap64 (ln : Int)))).heap.size = u5.heap.size := by simp only [size_setCell']
  replace HX := Lib.hid (show (u5.setCell ⟨w.heap.size + 1 + 1, 10, none⟩ (.int .i64 (wrap64 (ln : Int)))).heap[w.heap.size + 1 + 1]? = some (.cells #[.int .u64 (tq : Int), .bool rt, .int .i64 (ld : Int), .int .u64 (se : Int), .int .u64 (sq : Int), .int .i64 (er : Int), .int .u64 (lz : Int), .int .i64 am, .int .i64 un, .int .i64 (wrap64 (cp : Int)), .int .i64 (wrap64 (ln : Int))] 54 (0, 0)) from hx1)
  replace HR := Lib.hid ((hoth w.heap.size (by omega)).trans hr)
  replace HIN := Lib.hid (inAt_set (X := w.heap.size + 1 + 1) hin (by omega) (by omega) 10 (.int .i64 (wrap64 (ln : Int))))
  replace HB := Lib.hid (hb.setCell (p := ⟨w.heap.size + 1 + 1, 10, none⟩) (by show w.heap.size ≤ w.heap.size + 1 + 1; omega) (.int .i64 (wrap64 (ln : Int))))
  clear hoth hsz hcall hx hx1 hr hb hin hgr hlx hzu hzw
  go_wp2_with fail
  generalize (u5.setCell ⟨w.heap.size + 1 + 1, 10, none⟩ (.int .i64 (wrap64 (ln : Int)))) = w6 at HX HR HIN HB ⊢
  clear hcx0 hfx0
  have HX2 := HX
  have HR2 := HR
  have HIN2 := HIN
  have HREP2 := Lib.hid (HREP.out w6 (fun q => w.heap.size + 1 < q ∧ q < w6.heap.size))
  have HB2 := HB
  have hca0 : w6.cell? ⟨w.heap.size + 1 + 1, 0, none⟩ = some (.int .u64 (tq : Int)) := by rw [cell_of_row w6 _ 0 _ _ _ HX.out]; rfl
  have hca1 : w6.cell? ⟨w.heap.size + 1 + 1, 1, none⟩ = some (.bool rt) := by rw [cell_of_row w6 _ 1 _ _ _ HX.out]; rfl
  have hca2 : w6.cell? ⟨w.heap.size + 1 + 1, 2, none⟩ = some (.int .i64 (ld : Int)) := by rw [cell_of_row w6 _ 2 _ _ _ HX.out]; rfl
  have hca3 : w6.cell? ⟨w.heap.size + 1 + 1, 3, none⟩ = some (.int .u64 (se : Int)) := by rw [cell_of_row w6 _ 3 _ _ _ HX.out]; rfl
  have hca4 : w6.cell? ⟨w.heap.size + 1 + 1, 4, none⟩ = some (.int .u64 (sq : Int)) := by rw [cell_of_row w6 _ 4 _ _ _ HX.out]; rfl
  have hca5 : w6.cell? ⟨w.heap.size + 1 + 1, 5, none⟩ = some (.int .i64 (er : Int)) := by rw [cell_of_row w6 _ 5 _ _ _ HX.out]; rfl
  have hca6 : w6.cell? ⟨w.heap.size + 1 + 1, 6, none⟩ = some (.int .u64 (lz : Int)) := by rw [cell_of_row w6 _ 6 _ _ _ HX.out]; rfl
  have hca7 : w6.cell? ⟨w.heap.size + 1 + 1, 7, none⟩ = some (.int .i64 am) := by rw [cell_of_row w6 _ 7 _ _ _ HX.out]; rfl
  have hca8 : w6.cell? ⟨w.heap.size + 1 + 1, 8, none⟩ = some (.int .i64 un) := by rw [cell_of_row w6 _ 8 _ _ _ HX.out]; rfl
  have hca9 : w6.cell? ⟨w.heap.size + 1 + 1, 9, none⟩ = some (.int .i64 (wrap64 (cp : Int))) := by rw [cell_of_row w6 _ 9 _ _ _ HX.out]; rfl
  have hca10 : w6.cell? ⟨w.heap.size + 1 + 1, 10, none⟩ = some (.int .i64 (wrap64 (ln : Int))) := by rw [cell_of_row w6 _ 10 _ _ _ HX.out]; rfl
  have hXg : (some (w.heap.size + 1 + 1) : Option Nat) ≠ some (w.heap.size + 1) := fun e => by have := Option.some.inj e; omega
  clear HX HR HIN HB HREP
  have hRg : (some w.heap.size : Option Nat) ≠ some (w.heap.size + 1) := fun e => by have := Option.some.inj e; omega
  have hW := inWhole_any w.heap.size (w.heap.size + 1) b st w6.drew HIN2.out
  obtain ⟨ok, hpw⟩ : ∃ x, pWhole st = x := ⟨_, rfl⟩
  rw [hpw] at hW
  have HPW := Lib.hid hpw
  have HW := Lib.hid hW
  clear hpw hW
  cases ok with
  | false =>
    go_region_law ((go_simp; go_at_call 27; refine HW.out.mono ?_; rintro e w7 ⟨rfl, hin3, hgr3⟩
                    have hgr : w6.grownBy w7 (some (w.heap.size + 1)) := ⟨hgr3.os, hgr3.tape, hgr3.output, hgr3.size, hgr3.block⟩
                    have hx := (hgr.block (w.heap.size + 1 + 1) (row_lt HX2.out) hXg).trans HX2.out
                    have hr := (hgr.block w.heap.size (row_lt HR2.out) hRg).trans HR2.out
                    have hc0w7 : w7.cell? ⟨(w.heap.size + 1 + 1), 0, none⟩ = some (.int .u64 (tq : Int)) := by rw [cell_of_row w7 _ 0 _ _ _ hx]; rfl
                    have hz0w7 : w7.cell? ⟨w.heap.size, 0, none⟩ = some (.int .u64 0) := by rw [cell_of_row w7 _ 0 _ _ _ hr]; rfl
                    have hf0w7 : w7.frozen? ⟨w.heap.size, 0, none⟩ = false := frozen_of_row w7 _ 0 _ _ hr
                    have hc1w7 : w7.cell? ⟨(w.heap.size + 1 + 1), 1, none⟩ = some (.bool rt) := by rw [cell_of_row w7 _ 1 _ _ _ hx]; rfl
                    have hz1w7 : w7.cell? ⟨w.heap.size, 1, none⟩ = some (.bool false) := by rw [cell_of_row w7 _ 1 _ _ _ hr]; rfl
                    have hf1w7 : w7.frozen? ⟨w.heap.size, 1, none⟩ = false := frozen_of_row w7 _ 1 _ _ hr
                    have hc2w7 : w7.cell? ⟨(w.heap.size + 1 + 1), 2, none⟩ = some (.int .i64 (ld : Int)) := by rw [cell_of_row w7 _ 2 _ _ _ hx]; rfl
                    have hz2w7 : w7.cell? ⟨w.heap.size, 2, none⟩ = some (.int .i64 0) := by rw [cell_of_row w7 _ 2 _ _ _ hr]; rfl
                    have hf2w7 : w7.frozen? ⟨w.heap.size, 2, none⟩ = false := frozen_of_row w7 _ 2 _ _ hr
                    have hc3w7 : w7.cell? ⟨(w.heap.size + 1 + 1), 3, none⟩ = some (.int .u64 (se : Int)) := by rw [cell_of_row w7 _ 3 _ _ _ hx]; rfl
                    have hz3w7 : w7.cell? ⟨w.heap.size, 3, none⟩ = some (.int .u64 0) := by rw [cell_of_row w7 _ 3 _ _ _ hr]; rfl
                    have hf3w7 : w7.frozen? ⟨w.heap.size, 3, none⟩ = false := frozen_of_row w7 _ 3 _ _ hr
                    have hc4w7 : w7.cell? ⟨(w.heap.size + 1 + 1), 4, none⟩ = some (.int .u64 (sq : Int)) := by rw [cell_of_row w7 _ 4 _ _ _ hx]; rfl
                    have hz4w7 : w7.cell? ⟨w.heap.size, 4, none⟩ = some (.int .u64 0) := by rw [cell_of_row w7 _ 4 _ _ _ hr]; rfl
                    have hf4w7 : w7.frozen? ⟨w.heap.size, 4, none⟩ = false := frozen_of_row w7 _ 4 _ _ hr
                    have hc5w7 : w7.cell? ⟨(w.heap.size + 1 + 1), 5, none⟩ = some (.int .i64 (er : Int)) := by rw [cell_of_row w7 _ 5 _ _ _ hx]; rfl
                    have hz5w7 : w7.cell? ⟨w.heap.size, 5, none⟩ = some (.int .i64 0) := by rw [cell_of_row w7 _ 5 _ _ _ hr]; rfl
                    have hf5w7 : w7.frozen? ⟨w.heap.size, 5, none⟩ = false := frozen_of_row w7 _ 5 _ _ hr
                    have hc6w7 : w7.cell? ⟨(w.heap.size + 1 + 1), 6, none⟩ = some (.int .u64 (lz : Int)) := by rw [cell_of_row w7 _ 6 _ _ _ hx]; rfl
                    have hz6w7 : w7.cell? ⟨w.heap.size, 6, none⟩ = some (.int .u64 0) := by rw [cell_of_row w7 _ 6 _ _ _ hr]; rfl
                    have hf6w7 : w7.frozen? ⟨w.heap.size, 6, none⟩ = false := frozen_of_row w7 _ 6 _ _ hr
                    have hc7w7 : w7.cell? ⟨(w.heap.size + 1 + 1), 7, none⟩ = some (.int .i64 am) := by rw [cell_of_row w7 _ 7 _ _ _ hx]; rfl
                    have hz7w7 : w7.cell? ⟨w.heap.size, 7, none⟩ = some (.int .i64 0) := by rw [cell_of_row w7 _ 7 _ _ _ hr]; rfl
                    have hf7w7 : w7.frozen? ⟨w.heap.size, 7, none⟩ = false := frozen_of_row w7 _ 7 _ _ hr
                    have hc8w7 : w7.cell? ⟨(w.heap.size + 1 + 1), 8, none⟩ = some (.int .i64 un) := by rw [cell_of_row w7 _ 8 _ _ _ hx]; rfl
                    have hz8w7 : w7.cell? ⟨w.heap.size, 8, none⟩ = some (.int .i64 0) := by rw [cell_of_row w7 _ 8 _ _ _ hr]; rfl
                    have hf8w7 : w7.frozen? ⟨w.heap.size, 8, none⟩ = false := frozen_of_row w7 _ 8 _ _ hr
                    have hc9w7 : w7.cell? ⟨(w.heap.size + 1 + 1), 9, none⟩ = some (.int .i64 (wrap64 (cp : Int))) := by rw [cell_of_row w7 _ 9 _ _ _ hx]; rfl
                    have hz9w7 : w7.cell? ⟨w.heap.size, 9, none⟩ = some (.int .i64 0) := by rw [cell_of_row w7 _ 9 _ _ _ hr]; rfl
                    have hf9w7 : w7.frozen? ⟨w.heap.size, 9, none⟩ = false := frozen_of_row w7 _ 9 _ _ hr
                    have hc10w7 : w7.cell? ⟨(w.heap.size + 1 + 1), 10, none⟩ = some (.int .i64 (wrap64 (ln : Int))) := by rw [cell_of_row w7 _ 10 _ _ _ hx]; rfl
                    have hz10w7 : w7.cell? ⟨w.heap.size, 10, none⟩ = some (.int .i64 0) := by rw [cell_of_row w7 _ 10 _ _ _ hr]; rfl
                    have hf10w7 : w7.frozen? ⟨w.heap.size, 10, none⟩ = false := frozen_of_row w7 _ 10 _ _ hr
                    have HR3 := Lib.hid hr
                    have HX3 := Lib.hid hx
                    have HREP3 := Lib.hid (toldK_ok.keep HREP2.out (S' := (fun q => w.heap.size + 1 < q ∧ q < w7.heap.size)) (fun q hq => hgr.block q hq.2 (fun e => by have := Option.some.inj e; have := hq.1; omega)) (fun q hq => ⟨hq.1, Nat.lt_of_lt_of_le hq.2 hgr.size⟩))
                    have HB3 := Lib.hid (HB2.out.grown hgr HB2.out.size (fun k e => by have := Option.some.inj e; omega))
                    clear hin3 hgr3 hgr hx hr))
    all_goals
      go_wp2
      obtain ⟨x0, hx0⟩ : ∃ x, x = w7.setCell ⟨w.heap.size, 0, none⟩ (.int .u64 (tq : Int)) := ⟨_, rfl⟩
      rw [← hx0]
      have r0 : x0.heap[w.heap.size]? = some (.cells #[.int .u64 (tq : Int), .bool false, .int .i64 0, .int .u64 0, .int .u64 0, .int .i64 0, .int .u64 0, .int .i64 0, .int .i64 0, .int .i64 0, .int .i64 0] 54 (0, 0)) := by rw [hx0]; exact heap_setCell_same w7 w.heap.size 0 _ _ (.int .u64 (tq : Int)) HR3.out
      have o0 : ∀ q, q ≠ w.heap.size → x0.heap[q]? = w7.heap[q]? := fun q hq => by rw [hx0, heap_setCell_other w7 ⟨w.heap.size, 0, none⟩ q _ hq]
      have z0 : x0.heap.size = w7.heap.size := by rw [hx0, size_setCell']
      have b0 : Below w.heap.size w x0 := by rw [hx0]; exact Below.setCell (p := ⟨w.heap.size, 0, none⟩) HB3.out (Nat.le_refl _) (.int .u64 (tq : Int))
      clear hx0
      obtain ⟨x1, hx1⟩ : ∃ x, x = x0.setCell ⟨w.heap.size, 1, none⟩ (.bool rt) := ⟨_, rfl⟩
      rw [← hx1]
      have r1 : x1.heap[w.heap.size]? = some (.cells #[.int .u64 (tq : Int), .bool rt, .int .i64 0, .int .u64 0, .int .u64 0, .int .i64 0, .int .u64 0, .int .i64 0, .int .i64 0, .int .i64 0, .int .i64 0] 54 (0, 0)) := by rw [hx1]; exact heap_setCell_same x0 w.heap.size 1 _ _ (.bool rt) r0
      have o1 : ∀ q, q ≠ w.heap.size → x1.heap[q]? = w7.heap[q]? := fun q hq => by rw [hx1, heap_setCell_other x0 ⟨w.heap.size, 1, none⟩ q _ hq]; exact o0 q hq
      have z1 : x1.heap.size = w7.heap.size := by rw [hx1, size_setCell']; exact z0
      have b1 : Below w.heap.size w x1 := by rw [hx1]; exact Below.setCell (p := ⟨w.heap.size, 1, none⟩) b0 (Nat.le_refl _) (.bool rt)
      clear hx1
      obtain ⟨x2, hx2⟩ : ∃ x, x = x1.setCell ⟨w.heap.size, 2, none⟩ (.int .i64 (ld : Int)) := ⟨_, rfl⟩
      rw [← hx2]
      have r2 : x2.heap[w.heap.size]? = some (.cells #[.int .u64 (tq : Int), .bool rt, .int .i64 (ld : Int), .int .u64 0, .int .u64 0, .int .i64 0, .int .u64 0, .int .i64 0, .int .i64 0, .int .i64 0, .int .i64 0] 54 (0, 0)) := by rw [hx2]; exact heap_setCell_same x1 w.heap.size 2 _ _ (.int .i64 (ld : Int)) r1
      have o2 : ∀ q, q ≠ w.heap.size → x2.heap[q]? = w7.heap[q]? := fun q hq => by rw [hx2, heap_setCell_other x1 ⟨w.heap.size, 2, none⟩ q _ hq]; exact o1 q hq
      have z2 : x2.heap.size = w7.heap.size := by rw [hx2, size_setCell']; exact z1
      have b2 : Below w.heap.size w x2 := by rw [hx2]; exact Below.setCell (p := ⟨w.heap.size, 2, none⟩) b1 (Nat.le_refl _) (.int .i64 (ld : Int))
      clear hx2
      obtain ⟨x3, hx3⟩ : ∃ x, x = x2.setCell ⟨w.heap.size, 3, none⟩ (.int .u64 (se : Int)) := ⟨_, rfl⟩
      rw [← hx3]
      have r3 : x3.heap[w.heap.size]? = some (.cells #[.int .u64 (tq : Int), .bool rt, .int .i64 (ld : Int), .int .u64 (se : Int), .int .u64 0, .int .i64 0, .int .u64 0, .int .i64 0, .int .i64 0, .int .i64 0, .int .i64 0] 54 (0, 0)) := by rw [hx3]; exact heap_setCell_same x2 w.heap.size 3 _ _ (.int .u64 (se : Int)) r2
      have o3 : ∀ q, q ≠ w.heap.size → x3.heap[q]? = w7.heap[q]? := fun q hq => by rw [hx3, heap_setCell_other x2 ⟨w.heap.size, 3, none⟩ q _ hq]; exact o2 q hq
      have z3 : x3.heap.size = w7.heap.size := by rw [hx3, size_setCell']; exact z2
      have b3 : Below w.heap.size w x3 := by rw [hx3]; exact Below.setCell (p := ⟨w.heap.size, 3, none⟩) b2 (Nat.le_refl _) (.int .u64 (se : Int))
      clear hx3
      obtain ⟨x4, hx4⟩ : ∃ x, x = x3.setCell ⟨w.heap.size, 4, none⟩ (.int .u64 (sq : Int)) := ⟨_, rfl⟩
      rw [← hx4]
      have r4 : x4.heap[w.heap.size]? = some (.cells #[.int .u64 (tq : Int), .bool rt, .int .i64 (ld : Int), .int .u64 (se : Int), .int .u64 (sq : Int), .int .i64 0, .int .u64 0, .int .i64 0, .int .i64 0, .int .i64 0, .int .i64 0] 54 (0, 0)) := by rw [hx4]; exact heap_setCell_same x3 w.heap.size 4 _ _ (.int .u64 (sq : Int)) r3
      have o4 : ∀ q, q ≠ w.heap.size → x4.heap[q]? = w7.heap[q]? := fun q hq => by rw [hx4, heap_setCell_other x3 ⟨w.heap.size, 4, none⟩ q _ hq]; exact o3 q hq
      have z4 : x4.heap.size = w7.heap.size := by rw [hx4, size_setCell']; exact z3
      have b4 : Below w.heap.size w x4 := by rw [hx4]; exact Below.setCell (p := ⟨w.heap.size, 4, none⟩) b3 (Nat.le_refl _) (.int .u64 (sq : Int))
      clear hx4
      obtain ⟨x5, hx5⟩ : ∃ x, x = x4.setCell ⟨w.heap.size, 5, none⟩ (.int .i64 (er : Int)) := ⟨_, rfl⟩
      rw [← hx5]
      have r5 : x5.heap[w.heap.size]? = some (.cells #[.int .u64 (tq : Int), .bool rt, .int .i64 (ld : Int), .int .u64 (se : Int), .int .u64 (sq : Int), .int .i64 (er : Int), .int .u64 0, .int .i64 0, .int .i64 0, .int .i64 0, .int .i64 0] 54 (0, 0)) := by rw [hx5]; exact heap_setCell_same x4 w.heap.size 5 _ _ (.int .i64 (er : Int)) r4
      have o5 : ∀ q, q ≠ w.heap.size → x5.heap[q]? = w7.heap[q]? := fun q hq => by rw [hx5, heap_setCell_other x4 ⟨w.heap.size, 5, none⟩ q _ hq]; exact o4 q hq
      have z5 : x5.heap.size = w7.heap.size := by rw [hx5, size_setCell']; exact z4
      have b5 : Below w.heap.size w x5 := by rw [hx5]; exact Below.setCell (p := ⟨w.heap.size, 5, none⟩) b4 (Nat.le_refl _) (.int .i64 (er : Int))
      clear hx5
      obtain ⟨x6, hx6⟩ : ∃ x, x = x5.setCell ⟨w.heap.size, 6, none⟩ (.int .u64 (lz : Int)) := ⟨_, rfl⟩
      rw [← hx6]
      have r6 : x6.heap[w.heap.size]? = some (.cells #[.int .u64 (tq : Int), .bool rt, .int .i64 (ld : Int), .int .u64 (se : Int), .int .u64 (sq : Int), .int .i64 (er : Int), .int .u64 (lz : Int), .int .i64 0, .int .i64 0, .int .i64 0, .int .i64 0] 54 (0, 0)) := by rw [hx6]; exact heap_setCell_same x5 w.heap.size 6 _ _ (.int .u64 (lz : Int)) r5
      have o6 : ∀ q, q ≠ w.heap.size → x6.heap[q]? = w7.heap[q]? := fun q hq => by rw [hx6, heap_setCell_other x5 ⟨w.heap.size, 6, none⟩ q _ hq]; exact o5 q hq
      have z6 : x6.heap.size = w7.heap.size := by rw [hx6, size_setCell']; exact z5
      have b6 : Below w.heap.size w x6 := by rw [hx6]; exact Below.setCell (p := ⟨w.heap.size, 6, none⟩) b5 (Nat.le_refl _) (.int .u64 (lz : Int))
      clear hx6
      obtain ⟨x7, hx7⟩ : ∃ x, x = x6.setCell ⟨w.heap.size, 7, none⟩ (.int .i64 am) := ⟨_, rfl⟩
      rw [← hx7]
      have r7 : x7.heap[w.heap.size]? = some (.cells #[.int .u64 (tq : Int), .bool rt, .int .i64 (ld : Int), .int .u64 (se : Int), .int .u64 (sq : Int), .int .i64 (er : Int), .int .u64 (lz : Int), .int .i64 am, .int .i64 0, .int .i64 0, .int .i64 0] 54 (0, 0)) := by rw [hx7]; exact heap_setCell_same x6 w.heap.size 7 _ _ (.int .i64 am) r6
      have o7 : ∀ q, q ≠ w.heap.size → x7.heap[q]? = w7.heap[q]? := fun q hq => by rw [hx7, heap_setCell_other x6 ⟨w.heap.size, 7, none⟩ q _ hq]; exact o6 q hq
      have z7 : x7.heap.size = w7.heap.size := by rw [hx7, size_setCell']; exact z6
      have b7 : Below w.heap.size w x7 := by rw [hx7]; exact Below.setCell (p := ⟨w.heap.size, 7, none⟩) b6 (Nat.le_refl _) (.int .i64 am)
      clear hx7
      obtain ⟨x8, hx8⟩ : ∃ x, x = x7.setCell ⟨w.heap.size, 8, none⟩ (.int .i64 un) := ⟨_, rfl⟩
      rw [← hx8]
      have r8 : x8.heap[w.heap.size]? = some (.cells #[.int .u64 (tq : Int), .bool rt, .int .i64 (ld : Int), .int .u64 (se : Int), .int .u64 (sq : Int), .int .i64 (er : Int), .int .u64 (lz : Int), .int .i64 am, .int .i64 un, .int .i64 0, .int .i64 0] 54 (0, 0)) := by rw [hx8]; exact heap_setCell_same x7 w.heap.size 8 _ _ (.int .i64 un) r7
      have o8 : ∀ q, q ≠ w.heap.size → x8.heap[q]? = w7.heap[q]? := fun q hq => by rw [hx8, heap_setCell_other x7 ⟨w.heap.size, 8, none⟩ q _ hq]; exact o7 q hq
      have z8 : x8.heap.size = w7.heap.size := by rw [hx8, size_setCell']; exact z7
      have b8 : Below w.heap.size w x8 := by rw [hx8]; exact Below.setCell (p := ⟨w.heap.size, 8, none⟩) b7 (Nat.le_refl _) (.int .i64 un)
      clear hx8
      obtain ⟨x9, hx9⟩ : ∃ x, x = x8.setCell ⟨w.heap.size, 9, none⟩ (.int .i64 (wrap64 (cp : Int))) := ⟨_, rfl⟩
      rw [← hx9]
      have r9 : x9.heap[w.heap.size]? = some (.cells #[.int .u64 (tq : Int), .bool rt, .int .i64 (ld : Int), .int .u64 (se : Int), .int .u64 (sq : Int), .int .i64 (er : Int), .int .u64 (lz : Int), .int .i64 am, .int .i64 un, .int .i64 (wrap64 (cp : Int)), .int .i64 0] 54 (0, 0)) := by rw [hx9]; exact heap_setCell_same x8 w.heap.size 9 _ _ (.int .i64 (wrap64 (cp : Int))) r8
      have o9 : ∀ q, q ≠ w.heap.size → x9.heap[q]? = w7.heap[q]? := fun q hq => by rw [hx9, heap_setCell_other x8 ⟨w.heap.size, 9, none⟩ q _ hq]; exact o8 q hq
      have z9 : x9.heap.size = w7.heap.size := by rw [hx9, size_setCell']; exact z8
      have b9 : Below w.heap.size w x9 := by rw [hx9]; exact Below.setCell (p := ⟨w.heap.size, 9, none⟩) b8 (Nat.le_refl _) (.int .i64 (wrap64 (cp : Int)))
      clear hx9
      obtain ⟨x10, hx10⟩ : ∃ x, x = x9.setCell ⟨w.heap.size, 10, none⟩ (.int .i64 (wrap64 (ln : Int))) := ⟨_, rfl⟩
      rw [← hx10]
      have r10 : x10.heap[w.heap.size]? = some (.cells #[.int .u64 (tq : Int), .bool rt, .int .i64 (ld : Int), .int .u64 (se : Int), .int .u64 (sq : Int), .int .i64 (er : Int), .int .u64 (lz : Int), .int .i64 am, .int .i64 un, .int .i64 (wrap64 (cp : Int)), .int .i64 (wrap64 (ln : Int))] 54 (0, 0)) := by rw [hx10]; exact heap_setCell_same x9 w.heap.size 10 _ _ (.int .i64 (wrap64 (ln : Int))) r9
      have o10 : ∀ q, q ≠ w.heap.size → x10.heap[q]? = w7.heap[q]? := fun q hq => by rw [hx10, heap_setCell_other x9 ⟨w.heap.size, 10, none⟩ q _ hq]; exact o9 q hq
      have z10 : x10.heap.size = w7.heap.size := by rw [hx10, size_setCell']; exact z9
      have b10 : Below w.heap.size w x10 := by rw [hx10]; exact Below.setCell (p := ⟨w.heap.size, 10, none⟩) b9 (Nat.le_refl _) (.int .i64 (wrap64 (ln : Int)))
      clear hx10
      have hrep := toldK_ok.keep HREP3.out (S' := New w x10) (fun q hq => o10 q (by have := hq.1; omega)) (fun q hq => ⟨by have := hq.1; omega, by rw [z10]; exact hq.2⟩)
      exact bodyPost_ret (v := .tuple #[.agg #[.int .u64 (tq : Int), .bool rt, .int .i64 (ld : Int), .int .u64 (se : Int), .int .u64 (sq : Int), .int .i64 (er : Int), .int .u64 (lz : Int), .int .i64 am, .int .i64 un, .int .i64 (wrap64 (cp : Int)), .int .i64 (wrap64 (ln : Int))], .bool false]) (results_cell_tmp (fn := Tryz.f14) (p := 2) (q := 3) rfl _ _ w.heap.size 54 #[.int .u64 (tq : Int), .bool rt, .int .i64 (ld : Int), .int .u64 (se : Int), .int .u64 (sq : Int), .int .i64 (er : Int), .int .u64 (lz : Int), .int .i64 am, .int .i64 un, .int .i64 (wrap64 (cp : Int)), .int .i64 (wrap64 (ln : Int))] (0, 0) _ rfl r10 Tryz.underlying54 (by kernel_rfl)) rfl ⟨_, by rw [HPW.out, Bool.false_and], hrep, b10⟩
  | true =>
    obtain ⟨sd, hsd⟩ : ∃ x, toldK.sound d = x := ⟨_, rfl⟩
    have HSD := Lib.hid hsd
    have HOK := Lib.hid (fun (w : World) (h : toldK.rep w (Old w) [.int .u64 (tq : Int), .bool rt, .int .i64 (ld : Int), .int .u64 (se : Int), .int .u64 (sq : Int), .int .i64 (er : Int), .int .u64 (lz : Int), .int .i64 am, .int .i64 un, .int .i64 (wrap64 (cp : Int)), .int .i64 (wrap64 (ln : Int))] d) => hsd ▸ told_ok w h)
    clear hsd
    go_region_law (first
      | (go_simp; go_at_call 27; refine HW.out.mono ?_; rintro e w7 ⟨rfl, hin3, hgr3⟩
         have hgr : w6.grownBy w7 (some (w.heap.size + 1)) := ⟨hgr3.os, hgr3.tape, hgr3.output, hgr3.size, hgr3.block⟩
         have hx := (hgr.block (w.heap.size + 1 + 1) (row_lt HX2.out) hXg).trans HX2.out
         have hr := (hgr.block w.heap.size (row_lt HR2.out) hRg).trans HR2.out
         have hc0w7 : w7.cell? ⟨(w.heap.size + 1 + 1), 0, none⟩ = some (.int .u64 (tq : Int)) := by rw [cell_of_row w7 _ 0 _ _ _ hx]; rfl
         have hz0w7 : w7.cell? ⟨w.heap.size, 0, none⟩ = some (.int .u64 0) := by rw [cell_of_row w7 _ 0 _ _ _ hr]; rfl
         have hf0w7 : w7.frozen? ⟨w.heap.size, 0, none⟩ = false := frozen_of_row w7 _ 0 _ _ hr
         have hc1w7 : w7.cell? ⟨(w.heap.size + 1 + 1), 1, none⟩ = some (.bool rt) := by rw [cell_of_row w7 _ 1 _ _ _ hx]; rfl
         have hz1w7 : w7.cell? ⟨w.heap.size, 1, none⟩ = some (.bool false) := by rw [cell_of_row w7 _ 1 _ _ _ hr]; rfl
         have hf1w7 : w7.frozen? ⟨w.heap.size, 1, none⟩ = false := frozen_of_row w7 _ 1 _ _ hr
         have hc2w7 : w7.cell? ⟨(w.heap.size + 1 + 1), 2, none⟩ = some (.int .i64 (ld : Int)) := by rw [cell_of_row w7 _ 2 _ _ _ hx]; rfl
         have hz2w7 : w7.cell? ⟨w.heap.size, 2, none⟩ = some (.int .i64 0) := by rw [cell_of_row w7 _ 2 _ _ _ hr]; rfl
         have hf2w7 : w7.frozen? ⟨w.heap.size, 2, none⟩ = false := frozen_of_row w7 _ 2 _ _ hr
         have hc3w7 : w7.cell? ⟨(w.heap.size + 1 + 1), 3, none⟩ = some (.int .u64 (se : Int)) := by rw [cell_of_row w7 _ 3 _ _ _ hx]; rfl
         have hz3w7 : w7.cell? ⟨w.heap.size, 3, none⟩ = some (.int .u64 0) := by rw [cell_of_row w7 _ 3 _ _ _ hr]; rfl
         have hf3w7 : w7.frozen? ⟨w.heap.size, 3, none⟩ = false := frozen_of_row w7 _ 3 _ _ hr
         have hc4w7 : w7.cell? ⟨(w.heap.size + 1 + 1), 4, none⟩ = some (.int .u64 (sq : Int)) := by rw [cell_of_row w7 _ 4 _ _ _ hx]; rfl
         have hz4w7 : w7.cell? ⟨w.heap.size, 4, none⟩ = some (.int .u64 0) := by rw [cell_of_row w7 _ 4 _ _ _ hr]; rfl
         have hf4w7 : w7.frozen? ⟨w.heap.size, 4, none⟩ = false := frozen_of_row w7 _ 4 _ _ hr
         have hc5w7 : w7.cell? ⟨(w.heap.size + 1 + 1), 5, none⟩ = some (.int .i64 (er : Int)) := by rw [cell_of_row w7 _ 5 _ _ _ hx]; rfl
         have hz5w7 : w7.cell? ⟨w.heap.size, 5, none⟩ = some (.int .i64 0) := by rw [cell_of_row w7 _ 5 _ _ _ hr]; rfl
         have hf5w7 : w7.frozen? ⟨w.heap.size, 5, none⟩ = false := frozen_of_row w7 _ 5 _ _ hr
         have hc6w7 : w7.cell? ⟨(w.heap.size + 1 + 1), 6, none⟩ = some (.int .u64 (lz : Int)) := by rw [cell_of_row w7 _ 6 _ _ _ hx]; rfl
         have hz6w7 : w7.cell? ⟨w.heap.size, 6, none⟩ = some (.int .u64 0) := by rw [cell_of_row w7 _ 6 _ _ _ hr]; rfl
         have hf6w7 : w7.frozen? ⟨w.heap.size, 6, none⟩ = false := frozen_of_row w7 _ 6 _ _ hr
         have hc7w7 : w7.cell? ⟨(w.heap.size + 1 + 1), 7, none⟩ = some (.int .i64 am) := by rw [cell_of_row w7 _ 7 _ _ _ hx]; rfl
         have hz7w7 : w7.cell? ⟨w.heap.size, 7, none⟩ = some (.int .i64 0) := by rw [cell_of_row w7 _ 7 _ _ _ hr]; rfl
         have hf7w7 : w7.frozen? ⟨w.heap.size, 7, none⟩ = false := frozen_of_row w7 _ 7 _ _ hr
         have hc8w7 : w7.cell? ⟨(w.heap.size + 1 + 1), 8, none⟩ = some (.int .i64 un) := by rw [cell_of_row w7 _ 8 _ _ _ hx]; rfl
         have hz8w7 : w7.cell? ⟨w.heap.size, 8, none⟩ = some (.int .i64 0) := by rw [cell_of_row w7 _ 8 _ _ _ hr]; rfl
         have hf8w7 : w7.frozen? ⟨w.heap.size, 8, none⟩ = false := frozen_of_row w7 _ 8 _ _ hr
         have hc9w7 : w7.cell? ⟨(w.heap.size + 1 + 1), 9, none⟩ = some (.int .i64 (wrap64 (cp : Int))) := by rw [cell_of_row w7 _ 9 _ _ _ hx]; rfl
         have hz9w7 : w7.cell? ⟨w.heap.size, 9, none⟩ = some (.int .i64 0) := by rw [cell_of_row w7 _ 9 _ _ _ hr]; rfl
         have hf9w7 : w7.frozen? ⟨w.heap.size, 9, none⟩ = false := frozen_of_row w7 _ 9 _ _ hr
         have hc10w7 : w7.cell? ⟨(w.heap.size + 1 + 1), 10, none⟩ = some (.int .i64 (wrap64 (ln : Int))) := by rw [cell_of_row w7 _ 10 _ _ _ hx]; rfl
         have hz10w7 : w7.cell? ⟨w.heap.size, 10, none⟩ = some (.int .i64 0) := by rw [cell_of_row w7 _ 10 _ _ _ hr]; rfl
         have hf10w7 : w7.frozen? ⟨w.heap.size, 10, none⟩ = false := frozen_of_row w7 _ 10 _ _ hr
         have HR3 := Lib.hid hr
         have HX3 := Lib.hid hx
         have HREP3 := Lib.hid (toldK_ok.keep HREP2.out (S' := (fun q => w.heap.size + 1 < q ∧ q < w7.heap.size)) (fun q hq => hgr.block q hq.2 (fun e => by have := Option.some.inj e; have := hq.1; omega)) (fun q hq => ⟨hq.1, Nat.lt_of_lt_of_le hq.2 hgr.size⟩))
         have HB3 := Lib.hid (HB2.out.grown hgr HB2.out.size (fun k e => by have := Option.some.inj e; omega))
         clear hin3 hgr3 hgr hx hr)
      | (go_simp; go_at_call 42; refine (HOK.out _ (toldK_ok.keep HREP3.out (S' := Old w7) (fun _ _ => rfl) (fun q hq => hq.2))).mono ?_; rintro e w8 ⟨rfl, hb4⟩
         have hx := (hb4.block (w.heap.size + 1 + 1) (row_lt HX3.out)).trans HX3.out
         have hr := (hb4.block w.heap.size (row_lt HR3.out)).trans HR3.out
         have hc0w8 : w8.cell? ⟨(w.heap.size + 1 + 1), 0, none⟩ = some (.int .u64 (tq : Int)) := by rw [cell_of_row w8 _ 0 _ _ _ hx]; rfl
         have hz0w8 : w8.cell? ⟨w.heap.size, 0, none⟩ = some (.int .u64 0) := by rw [cell_of_row w8 _ 0 _ _ _ hr]; rfl
         have hf0w8 : w8.frozen? ⟨w.heap.size, 0, none⟩ = false := frozen_of_row w8 _ 0 _ _ hr
         have hc1w8 : w8.cell? ⟨(w.heap.size + 1 + 1), 1, none⟩ = some (.bool rt) := by rw [cell_of_row w8 _ 1 _ _ _ hx]; rfl
         have hz1w8 : w8.cell? ⟨w.heap.size, 1, none⟩ = some (.bool false) := by rw [cell_of_row w8 _ 1 _ _ _ hr]; rfl
         have hf1w8 : w8.frozen? ⟨w.heap.size, 1, none⟩ = false := frozen_of_row w8 _ 1 _ _ hr
         have hc2w8 : w8.cell? ⟨(w.heap.size + 1 + 1), 2, none⟩ = some (.int .i64 (ld : Int)) := by rw [cell_of_row w8 _ 2 _ _ _ hx]; rfl
         have hz2w8 : w8.cell? ⟨w.heap.size, 2, none⟩ = some (.int .i64 0) := by rw [cell_of_row w8 _ 2 _ _ _ hr]; rfl
         have hf2w8 : w8.frozen? ⟨w.heap.size, 2, none⟩ = false := frozen_of_row w8 _ 2 _ _ hr
         have hc3w8 : w8.cell? ⟨(w.heap.size + 1 + 1), 3, none⟩ = some (.int .u64 (se : Int)) := by rw [cell_of_row w8 _ 3 _ _ _ hx]; rfl
         have hz3w8 : w8.cell? ⟨w.heap.size, 3, none⟩ = some (.int .u64 0) := by rw [cell_of_row w8 _ 3 _ _ _ hr]; rfl
         have hf3w8 : w8.frozen? ⟨w.heap.size, 3, none⟩ = false := frozen_of_row w8 _ 3 _ _ hr
         have hc4w8 : w8.cell? ⟨(w.heap.size + 1 + 1), 4, none⟩ = some (.int .u64 (sq : Int)) := by rw [cell_of_row w8 _ 4 _ _ _ hx]; rfl
         have hz4w8 : w8.cell? ⟨w.heap.size, 4, none⟩ = some (.int .u64 0) := by rw [cell_of_row w8 _ 4 _ _ _ hr]; rfl
         have hf4w8 : w8.frozen? ⟨w.heap.size, 4, none⟩ = false := frozen_of_row w8 _ 4 _ _ hr
         have hc5w8 : w8.cell? ⟨(w.heap.size + 1 + 1), 5, none⟩ = some (.int .i64 (er : Int)) := by rw [cell_of_row w8 _ 5 _ _ _ hx]; rfl
         have hz5w8 : w8.cell? ⟨w.heap.size, 5, none⟩ = some (.int .i64 0) := by rw [cell_of_row w8 _ 5 _ _ _ hr]; rfl
         have hf5w8 : w8.frozen? ⟨w.heap.size, 5, none⟩ = false := frozen_of_row w8 _ 5 _ _ hr
         have hc6w8 : w8.cell? ⟨(w.heap.size + 1 + 1), 6, none⟩ = some (.int .u64 (lz : Int)) := by rw [cell_of_row w8 _ 6 _ _ _ hx]; rfl
         have hz6w8 : w8.cell? ⟨w.heap.size, 6, none⟩ = some (.int .u64 0) := by rw [cell_of_row w8 _ 6 _ _ _ hr]; rfl
         have hf6w8 : w8.frozen? ⟨w.heap.size, 6, none⟩ = false := frozen_of_row w8 _ 6 _ _ hr
         have hc7w8 : w8.cell? ⟨(w.heap.size + 1 + 1), 7, none⟩ = some (.int .i64 am) := by rw [cell_of_row w8 _ 7 _ _ _ hx]; rfl
         have hz7w8 : w8.cell? ⟨w.heap.size, 7, none⟩ = some (.int .i64 0) := by rw [cell_of_row w8 _ 7 _ _ _ hr]; rfl
         have hf7w8 : w8.frozen? ⟨w.heap.size, 7, none⟩ = false := frozen_of_row w8 _ 7 _ _ hr
         have hc8w8 : w8.cell? ⟨(w.heap.size + 1 + 1), 8, none⟩ = some (.int .i64 un) := by rw [cell_of_row w8 _ 8 _ _ _ hx]; rfl
         have hz8w8 : w8.cell? ⟨w.heap.size, 8, none⟩ = some (.int .i64 0) := by rw [cell_of_row w8 _ 8 _ _ _ hr]; rfl
         have hf8w8 : w8.frozen? ⟨w.heap.size, 8, none⟩ = false := frozen_of_row w8 _ 8 _ _ hr
         have hc9w8 : w8.cell? ⟨(w.heap.size + 1 + 1), 9, none⟩ = some (.int .i64 (wrap64 (cp : Int))) := by rw [cell_of_row w8 _ 9 _ _ _ hx]; rfl
         have hz9w8 : w8.cell? ⟨w.heap.size, 9, none⟩ = some (.int .i64 0) := by rw [cell_of_row w8 _ 9 _ _ _ hr]; rfl
         have hf9w8 : w8.frozen? ⟨w.heap.size, 9, none⟩ = false := frozen_of_row w8 _ 9 _ _ hr
         have hc10w8 : w8.cell? ⟨(w.heap.size + 1 + 1), 10, none⟩ = some (.int .i64 (wrap64 (ln : Int))) := by rw [cell_of_row w8 _ 10 _ _ _ hx]; rfl
         have hz10w8 : w8.cell? ⟨w.heap.size, 10, none⟩ = some (.int .i64 0) := by rw [cell_of_row w8 _ 10 _ _ _ hr]; rfl
         have hf10w8 : w8.frozen? ⟨w.heap.size, 10, none⟩ = false := frozen_of_row w8 _ 10 _ _ hr
         have HR4 := Lib.hid hr
         have HREP4 := Lib.hid (toldK_ok.keep HREP3.out (S' := (fun q => w.heap.size + 1 < q ∧ q < w8.heap.size)) (fun q hq => hb4.block q hq.2) (fun q hq => ⟨hq.1, Nat.lt_of_lt_of_le hq.2 hb4.size⟩))
         have HB4 := Lib.hid (HB3.out.trans (hb4.mono HB3.out.size))
         clear hx hr hb4))
    all_goals
      go_wp2
      obtain ⟨x0, hx0⟩ : ∃ x, x = w8.setCell ⟨w.heap.size, 0, none⟩ (.int .u64 (tq : Int)) := ⟨_, rfl⟩
      rw [← hx0]
      have r0 : x0.heap[w.heap.size]? = some (.cells #[.int .u64 (tq : Int), .bool false, .int .i64 0, .int .u64 0, .int .u64 0, .int .i64 0, .int .u64 0, .int .i64 0, .int .i64 0, .int .i64 0, .int .i64 0] 54 (0, 0)) := by rw [hx0]; exact heap_setCell_same w8 w.heap.size 0 _ _ (.int .u64 (tq : Int)) HR4.out
      have o0 : ∀ q, q ≠ w.heap.size → x0.heap[q]? = w8.heap[q]? := fun q hq => by rw [hx0, heap_setCell_other w8 ⟨w.heap.size, 0, none⟩ q _ hq]
      have z0 : x0.heap.size = w8.heap.size := by rw [hx0, size_setCell']
      have b0 : Below w.heap.size w x0 := by rw [hx0]; exact Below.setCell (p := ⟨w.heap.size, 0, none⟩) HB4.out (Nat.le_refl _) (.int .u64 (tq : Int))
      clear hx0
      obtain ⟨x1, hx1⟩ : ∃ x, x = x0.setCell ⟨w.heap.size, 1, none⟩ (.bool rt) := ⟨_, rfl⟩
      rw [← hx1]
      have r1 : x1.heap[w.heap.size]? = some (.cells #[.int .u64 (tq : Int), .bool rt, .int .i64 0, .int .u64 0, .int .u64 0, .int .i64 0, .int .u64 0, .int .i64 0, .int .i64 0, .int .i64 0, .int .i64 0] 54 (0, 0)) := by rw [hx1]; exact heap_setCell_same x0 w.heap.size 1 _ _ (.bool rt) r0
      have o1 : ∀ q, q ≠ w.heap.size → x1.heap[q]? = w8.heap[q]? := fun q hq => by rw [hx1, heap_setCell_other x0 ⟨w.heap.size, 1, none⟩ q _ hq]; exact o0 q hq
      have z1 : x1.heap.size = w8.heap.size := by rw [hx1, size_setCell']; exact z0
      have b1 : Below w.heap.size w x1 := by rw [hx1]; exact Below.setCell (p := ⟨w.heap.size, 1, none⟩) b0 (Nat.le_refl _) (.bool rt)
      clear hx1
      obtain ⟨x2, hx2⟩ : ∃ x, x = x1.setCell ⟨w.heap.size, 2, none⟩ (.int .i64 (ld : Int)) := ⟨_, rfl⟩
      rw [← hx2]
      have r2 : x2.heap[w.heap.size]? = some (.cells #[.int .u64 (tq : Int), .bool rt, .int .i64 (ld : Int), .int .u64 0, .int .u64 0, .int .i64 0, .int .u64 0, .int .i64 0, .int .i64 0, .int .i64 0, .int .i64 0] 54 (0, 0)) := by rw [hx2]; exact heap_setCell_same x1 w.heap.size 2 _ _ (.int .i64 (ld : Int)) r1
      have o2 : ∀ q, q ≠ w.heap.size → x2.heap[q]? = w8.heap[q]? := fun q hq => by rw [hx2, heap_setCell_other x1 ⟨w.heap.size, 2, none⟩ q _ hq]; exact o1 q hq
      have z2 : x2.heap.size = w8.heap.size := by rw [hx2, size_setCell']; exact z1
      have b2 : Below w.heap.size w x2 := by rw [hx2]; exact Below.setCell (p := ⟨w.heap.size, 2, none⟩) b1 (Nat.le_refl _) (.int .i64 (ld : Int))
      clear hx2
      obtain ⟨x3, hx3⟩ : ∃ x, x = x2.setCell ⟨w.heap.size, 3, none⟩ (.int .u64 (se : Int)) := ⟨_, rfl⟩
      rw [← hx3]
      have r3 : x3.heap[w.heap.size]? = some (.cells #[.int .u64 (tq : Int), .bool rt, .int .i64 (ld : Int), .int .u64 (se : Int), .int .u64 0, .int .i64 0, .int .u64 0, .int .i64 0, .int .i64 0, .int .i64 0, .int .i64 0] 54 (0, 0)) := by rw [hx3]; exact heap_setCell_same x2 w.heap.size 3 _ _ (.int .u64 (se : Int)) r2
      have o3 : ∀ q, q ≠ w.heap.size → x3.heap[q]? = w8.heap[q]? := fun q hq => by rw [hx3, heap_setCell_other x2 ⟨w.heap.size, 3, none⟩ q _ hq]; exact o2 q hq
      have z3 : x3.heap.size = w8.heap.size := by rw [hx3, size_setCell']; exact z2
      have b3 : Below w.heap.size w x3 := by rw [hx3]; exact Below.setCell (p := ⟨w.heap.size, 3, none⟩) b2 (Nat.le_refl _) (.int .u64 (se : Int))
      clear hx3
      obtain ⟨x4, hx4⟩ : ∃ x, x = x3.setCell ⟨w.heap.size, 4, none⟩ (.int .u64 (sq : Int)) := ⟨_, rfl⟩
      rw [← hx4]
      have r4 : x4.heap[w.heap.size]? = some (.cells #[.int .u64 (tq : Int), .bool rt, .int .i64 (ld : Int), .int .u64 (se : Int), .int .u64 (sq : Int), .int .i64 0, .int .u64 0, .int .i64 0, .int .i64 0, .int .i64 0, .int .i64 0] 54 (0, 0)) := by rw [hx4]; exact heap_setCell_same x3 w.heap.size 4 _ _ (.int .u64 (sq : Int)) r3
      have o4 : ∀ q, q ≠ w.heap.size → x4.heap[q]? = w8.heap[q]? := fun q hq => by rw [hx4, heap_setCell_other x3 ⟨w.heap.size, 4, none⟩ q _ hq]; exact o3 q hq
      have z4 : x4.heap.size = w8.heap.size := by rw [hx4, size_setCell']; exact z3
      have b4 : Below w.heap.size w x4 := by rw [hx4]; exact Below.setCell (p := ⟨w.heap.size, 4, none⟩) b3 (Nat.le_refl _) (.int .u64 (sq : Int))
      clear hx4
      obtain ⟨x5, hx5⟩ : ∃ x, x = x4.setCell ⟨w.heap.size, 5, none⟩ (.int .i64 (er : Int)) := ⟨_, rfl⟩
      rw [← hx5]
      have r5 : x5.heap[w.heap.size]? = some (.cells #[.int .u64 (tq : Int), .bool rt, .int .i64 (ld : Int), .int .u64 (se : Int), .int .u64 (sq : Int), .int .i64 (er : Int), .int .u64 0, .int .i64 0, .int .i64 0, .int .i64 0, .int .i64 0] 54 (0, 0)) := by rw [hx5]; exact heap_setCell_same x4 w.heap.size 5 _ _ (.int .i64 (er : Int)) r4
      have o5 : ∀ q, q ≠ w.heap.size → x5.heap[q]? = w8.heap[q]? := fun q hq => by rw [hx5, heap_setCell_other x4 ⟨w.heap.size, 5, none⟩ q _ hq]; exact o4 q hq
      have z5 : x5.heap.size = w8.heap.size := by rw [hx5, size_setCell']; exact z4
      have b5 : Below w.heap.size w x5 := by rw [hx5]; exact Below.setCell (p := ⟨w.heap.size, 5, none⟩) b4 (Nat.le_refl _) (.int .i64 (er : Int))
      clear hx5
      obtain ⟨x6, hx6⟩ : ∃ x, x = x5.setCell ⟨w.heap.size, 6, none⟩ (.int .u64 (lz : Int)) := ⟨_, rfl⟩
      rw [← hx6]
      have r6 : x6.heap[w.heap.size]? = some (.cells #[.int .u64 (tq : Int), .bool rt, .int .i64 (ld : Int), .int .u64 (se : Int), .int .u64 (sq : Int), .int .i64 (er : Int), .int .u64 (lz : Int), .int .i64 0, .int .i64 0, .int .i64 0, .int .i64 0] 54 (0, 0)) := by rw [hx6]; exact heap_setCell_same x5 w.heap.size 6 _ _ (.int .u64 (lz : Int)) r5
      have o6 : ∀ q, q ≠ w.heap.size → x6.heap[q]? = w8.heap[q]? := fun q hq => by rw [hx6, heap_setCell_other x5 ⟨w.heap.size, 6, none⟩ q _ hq]; exact o5 q hq
      have z6 : x6.heap.size = w8.heap.size := by rw [hx6, size_setCell']; exact z5
      have b6 : Below w.heap.size w x6 := by rw [hx6]; exact Below.setCell (p := ⟨w.heap.size, 6, none⟩) b5 (Nat.le_refl _) (.int .u64 (lz : Int))
      clear hx6
      obtain ⟨x7, hx7⟩ : ∃ x, x = x6.setCell ⟨w.heap.size, 7, none⟩ (.int .i64 am) := ⟨_, rfl⟩
      rw [← hx7]
      have r7 : x7.heap[w.heap.size]? = some (.cells #[.int .u64 (tq : Int), .bool rt, .int .i64 (ld : Int), .int .u64 (se : Int), .int .u64 (sq : Int), .int .i64 (er : Int), .int .u64 (lz : Int), .int .i64 am, .int .i64 0, .int .i64 0, .int .i64 0] 54 (0, 0)) := by rw [hx7]; exact heap_setCell_same x6 w.heap.size 7 _ _ (.int .i64 am) r6
      have o7 : ∀ q, q ≠ w.heap.size → x7.heap[q]? = w8.heap[q]? := fun q hq => by rw [hx7, heap_setCell_other x6 ⟨w.heap.size, 7, none⟩ q _ hq]; exact o6 q hq
      have z7 : x7.heap.size = w8.heap.size := by rw [hx7, size_setCell']; exact z6
      have b7 : Below w.heap.size w x7 := by rw [hx7]; exact Below.setCell (p := ⟨w.heap.size, 7, none⟩) b6 (Nat.le_refl _) (.int .i64 am)
      clear hx7
      obtain ⟨x8, hx8⟩ : ∃ x, x = x7.setCell ⟨w.heap.size, 8, none⟩ (.int .i64 un) := ⟨_, rfl⟩
      rw [← hx8]
      have r8 : x8.heap[w.heap.size]? = some (.cells #[.int .u64 (tq : Int), .bool rt, .int .i64 (ld : Int), .int .u64 (se : Int), .int .u64 (sq : Int), .int .i64 (er : Int), .int .u64 (lz : Int), .int .i64 am, .int .i64 un, .int .i64 0, .int .i64 0] 54 (0, 0)) := by rw [hx8]; exact heap_setCell_same x7 w.heap.size 8 _ _ (.int .i64 un) r7
      have o8 : ∀ q, q ≠ w.heap.size → x8.heap[q]? = w8.heap[q]? := fun q hq => by rw [hx8, heap_setCell_other x7 ⟨w.heap.size, 8, none⟩ q _ hq]; exact o7 q hq
      have z8 : x8.heap.size = w8.heap.size := by rw [hx8, size_setCell']; exact z7
      have b8 : Below w.heap.size w x8 := by rw [hx8]; exact Below.setCell (p := ⟨w.heap.size, 8, none⟩) b7 (Nat.le_refl _) (.int .i64 un)
      clear hx8
      obtain ⟨x9, hx9⟩ : ∃ x, x = x8.setCell ⟨w.heap.size, 9, none⟩ (.int .i64 (wrap64 (cp : Int))) := ⟨_, rfl⟩
      rw [← hx9]
      have r9 : x9.heap[w.heap.size]? = some (.cells #[.int .u64 (tq : Int), .bool rt, .int .i64 (ld : Int), .int .u64 (se : Int), .int .u64 (sq : Int), .int .i64 (er : Int), .int .u64 (lz : Int), .int .i64 am, .int .i64 un, .int .i64 (wrap64 (cp : Int)), .int .i64 0] 54 (0, 0)) := by rw [hx9]; exact heap_setCell_same x8 w.heap.size 9 _ _ (.int .i64 (wrap64 (cp : Int))) r8
      have o9 : ∀ q, q ≠ w.heap.size → x9.heap[q]? = w8.heap[q]? := fun q hq => by rw [hx9, heap_setCell_other x8 ⟨w.heap.size, 9, none⟩ q _ hq]; exact o8 q hq
      have z9 : x9.heap.size = w8.heap.size := by rw [hx9, size_setCell']; exact z8
      have b9 : Below w.heap.size w x9 := by rw [hx9]; exact Below.setCell (p := ⟨w.heap.size, 9, none⟩) b8 (Nat.le_refl _) (.int .i64 (wrap64 (cp : Int)))
      clear hx9
      obtain ⟨x10, hx10⟩ : ∃ x, x = x9.setCell ⟨w.heap.size, 10, none⟩ (.int .i64 (wrap64 (ln : Int))) := ⟨_, rfl⟩
      rw [← hx10]
      have r10 : x10.heap[w.heap.size]? = some (.cells #[.int .u64 (tq : Int), .bool rt, .int .i64 (ld : Int), .int .u64 (se : Int), .int .u64 (sq : Int), .int .i64 (er : Int), .int .u64 (lz : Int), .int .i64 am, .int .i64 un, .int .i64 (wrap64 (cp : Int)), .int .i64 (wrap64 (ln : Int))] 54 (0, 0)) := by rw [hx10]; exact heap_setCell_same x9 w.heap.size 10 _ _ (.int .i64 (wrap64 (ln : Int))) r9
      have o10 : ∀ q, q ≠ w.heap.size → x10.heap[q]? = w8.heap[q]? := fun q hq => by rw [hx10, heap_setCell_other x9 ⟨w.heap.size, 10, none⟩ q _ hq]; exact o9 q hq
      have z10 : x10.heap.size = w8.heap.size := by rw [hx10, size_setCell']; exact z9
      have b10 : Below w.heap.size w x10 := by rw [hx10]; exact Below.setCell (p := ⟨w.heap.size, 10, none⟩) b9 (Nat.le_refl _) (.int .i64 (wrap64 (ln : Int)))
      clear hx10
      have hrep := toldK_ok.keep HREP4.out (S' := New w x10) (fun q hq => o10 q (by have := hq.1; omega)) (fun q hq => ⟨by have := hq.1; omega, by rw [z10]; exact hq.2⟩)
      exact bodyPost_ret (v := .tuple #[.agg #[.int .u64 (tq : Int), .bool rt, .int .i64 (ld : Int), .int .u64 (se : Int), .int .u64 (sq : Int), .int .i64 (er : Int), .int .u64 (lz : Int), .int .i64 am, .int .i64 un, .int .i64 (wrap64 (cp : Int)), .int .i64 (wrap64 (ln : Int))], .bool sd]) (results_cell_tmp (fn := Tryz.f14) (p := 2) (q := 3) rfl _ _ w.heap.size 54 #[.int .u64 (tq : Int), .bool rt, .int .i64 (ld : Int), .int .u64 (se : Int), .int .u64 (sq : Int), .int .i64 (er : Int), .int .u64 (lz : Int), .int .i64 am, .int .i64 un, .int .i64 (wrap64 (cp : Int)), .int .i64 (wrap64 (ln : Int))] (0, 0) _ rfl r10 Tryz.underlying54 (by kernel_rfl)) rfl ⟨_, by rw [HPW.out, HSD.out, Bool.true_and], hrep, b10⟩
end Go.Proofs.YtlgbipmmpocepaaGreat.Kd
