/- Package wal: last of an empty log, as a contract of a call. -/
import Derived.Test.YtnjifhbooikdbaaGreatDoorWaF
namespace Go.Proofs.YtnjifhbooikdbaaGreatDoor.Wa
open Go.RowKit Go.Maps By Mp Dk

theorem bAlloc {w w' : World} (h : Below w.heap.size w w') (o : Obj) : Below w.heap.size w (w'.alloc o) := h.alloc h.size o
theorem bSet {w w' : World} (h : Below w.heap.size w w') (p : Addr) (hp : w.heap.size ≤ p.block) (u : Value) : Below w.heap.size w (w'.setCell p u) := h.setCell (p := p) hp u
def seg0 : Seg := ⟨0, 1, true, []⟩
set_option maxRecDepth 100000 in
set_option maxHeartbeats 2000000 in
theorem last_empty (g d : Nat) (dead : Bool) (T : Nat → Prop) (w : World) (h : LogAt w g d [] dead T) : Calls Tryz.prog 19 #[.pointer (some ⟨g, 0, none⟩)] w (RetB (.tuple #[.int .i64 0, segV seg0 none 0]) w) := by
  obtain ⟨v, ac, h⟩ := h
  obtain ⟨A, c, rfl⟩ := h.form
  have hl := row_lt h.row
  have h1 : (w.alloc (.cells #[.int .u64 0, .int .u64 0, .bool false, .slice none 0 0] 59)).cell? ⟨g, 1, none⟩ = some (.slice A 0 c) := by rw [World.cell?_alloc_lt w _ ⟨g, 1, none⟩ hl, cell_of_row w g 1 _ _ _ h.row]; rfl
  have hnx := next_any g d [] dead T _ (LogAt.below ⟨_, ac, h⟩ ((Below.refl w.heap.size w).alloc (Nat.le_refl _) (.cells #[.int .u64 0, .int .u64 0, .bool false, .slice none 0 0] 59)))
  have HNX := Lib.hid hnx
  have HNB := Lib.hid (heap_alloc_new w (.cells #[.int .u64 0, .int .u64 0, .bool false, .slice none 0 0] 59))
  have HB1 := Lib.hid ((Below.refl w.heap.size w).alloc (Nat.le_refl _) (.cells #[.int .u64 0, .int .u64 0, .bool false, .slice none 0 0] 59))
  clear h hnx
  dsimp only [segV, segC, seg0]
  go_enter Tryz.func19, Tryz.ntmps19
  go_upto_region 3 with fail
  generalize w.alloc (.cells #[.int .u64 0, .int .u64 0, .bool false, .slice none 0 0] 59) = w1 at *
  have hlr := row_lt HNB.out
  go_wp2_with fail
  refine HNX.out.mono ?_
  rintro e w2 ⟨rfl, hb2⟩
  have hr2 := (hb2.block _ hlr).trans HNB.out
  have f2 : ∀ i, w2.frozen? ⟨w.heap.size, i, none⟩ = false := fun i => frozen_of_row w2 _ i _ _ hr2
  have c0 : w2.cell? ⟨w.heap.size, 0, none⟩ = some (.int .u64 0) := by rw [cell_of_row w2 _ 0 _ _ _ hr2]; rfl
  have c1 : w2.cell? ⟨w.heap.size, 1, none⟩ = some (.int .u64 0) := by rw [cell_of_row w2 _ 1 _ _ _ hr2]; rfl
  have c2 : w2.cell? ⟨w.heap.size, 2, none⟩ = some (.bool false) := by rw [cell_of_row w2 _ 2 _ _ _ hr2]; rfl
  have c3 : w2.cell? ⟨w.heap.size, 3, none⟩ = some (.slice none 0 0) := by rw [cell_of_row w2 _ 3 _ _ _ hr2]; rfl
  go_wp2
  have hres : Tryz.f19.results = #[.tmp 2, .cell 3 59] := by kernel_rfl
  have hr3 := Go.heap_setCell_same _ _ 3 _ _ (.slice none 0 0) (Go.heap_setCell_same _ _ 2 _ _ (.bool true) (Go.heap_setCell_same _ _ 1 _ _ (.int .u64 (nextS [] : Nat)) (Go.heap_setCell_same w2 _ 0 _ _ (.int .u64 0) hr2)))
  have hb3 : Below w.heap.size w ((((w2.setCell ⟨w.heap.size, 0, none⟩ (.int .u64 0)).setCell ⟨w.heap.size, 1, none⟩ (.int .u64 (nextS [] : Nat))).setCell ⟨w.heap.size, 2, none⟩ (.bool true)).setCell ⟨w.heap.size, 3, none⟩ (.slice none 0 0)) := bSet (bSet (bSet (bSet (By.ext HB1.out hb2) _ (Nat.le_refl _) _) _ (Nat.le_refl _) _) _ (Nat.le_refl _) _) _ (Nat.le_refl _) _
  generalize (((w2.setCell ⟨w.heap.size, 0, none⟩ (.int .u64 0)).setCell ⟨w.heap.size, 1, none⟩ (.int .u64 (nextS [] : Nat))).setCell ⟨w.heap.size, 2, none⟩ (.bool true)).setCell ⟨w.heap.size, 3, none⟩ (.slice none 0 0) = w3 at *
  refine bodyPost_ret (v := .tuple #[.int .i64 0, .agg #[.int .u64 0, .int .u64 (1 : Nat), .bool true, .slice none 0 0]]) ?_ rfl ⟨rfl, hb3⟩
  have hlv : (loadVar 59 ⟨w.heap.size, 0, none⟩).run Tryz.prog w3 = .ok (.agg #[.int .u64 0, .int .u64 (1 : Nat), .bool true, .slice none 0 0]) w3 := run_loadVar_row w3 _ _ _ _ _ _ hr3 Tryz.underlying59 rfl (by kernel_rfl)
  unfold results
  rw [hres]
  simp [asAddr, hlv]
end Go.Proofs.YtnjifhbooikdbaaGreatDoor.Wa
