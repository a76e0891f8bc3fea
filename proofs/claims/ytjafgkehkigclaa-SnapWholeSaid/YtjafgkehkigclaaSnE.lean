/- What every law of layer 7 asks first; and the law's own copy of a piece. -/
import Derived.Test.YtjafgkehkigclaaSnD
import Derived.Deep.RegionLaw
import Derived.Deep.RegionHeld3
namespace Go.Proofs.Ytjafgkehkigclaa.Sn
open Go.RowKit By

theorem pcells {w : World} {g : Nat} {b0 b1 b2 b3 b4 : Value} (hr : w.heap[g]? = some (.cells #[b0, b1, b2, b3, b4] tP (0, 0))) : w.cell? ⟨g, 0, none⟩ = some b0 ∧ w.cell? ⟨g, 1, none⟩ = some b1 ∧ w.cell? ⟨g, 2, none⟩ = some b2 ∧ w.cell? ⟨g, 3, none⟩ = some b3 ∧ w.cell? ⟨g, 4, none⟩ = some b4 :=
  ⟨(cell_of_row w _ 0 _ _ _ hr).trans rfl, (cell_of_row w _ 1 _ _ _ hr).trans rfl, (cell_of_row w _ 2 _ _ _ hr).trans rfl, (cell_of_row w _ 3 _ _ _ hr).trans rfl, (cell_of_row w _ 4 _ _ _ hr).trans rfl⟩
theorem nAlloc {B : Nat} {w w1 : World} (h : Below B w w1) (hB : B ≤ w.heap.size) (o : Obj) : Below B w (w1.alloc o) := h.alloc (Nat.le_trans hB h.size) o
set_option maxHeartbeats 1600000 in
theorem answers_any (w : World) : Calls Try.prog 10 #[] w (True_ w) := by
  have hl1 := Lies.one w 7 7 rfl
  obtain ⟨w1, hw1⟩ : ∃ w1, w1 = w.alloc (.cells #[.int .u8 7] 5) := ⟨_, rfl⟩
  have hz1 : w1.heap.size = w.heap.size + 1 := by rw [hw1, World.size_alloc]
  have hb1 : Below w.heap.size w w1 := by rw [hw1]; exact (Below.refl _ _).alloc (Nat.le_refl _) _
  rw [← hw1, ← hz1] at hl1
  have HC := Lib.hid (cut_in 3 2 (some ⟨w.heap.size, 0, none⟩) 1 1 0 [7] w1 rfl (Nat.le_refl _) (by omega) (by omega) hl1)
  have HB1 := Lib.hid hb1
  have HW1 := Lib.hid hw1
  clear hl1 hz1 hb1 hw1
  go_enter Try.func10, Try.ntmps10
  go_wp2_with fail
  rw [← HW1.out]
  refine HC.out.mono ?_
  rintro e w2 ⟨A, c, rfl, ho, hb2⟩
  have ho1 : Own w1.heap.size w2 (.slice A 1 c) [7] := ho
  obtain ⟨A', c', hv, -, -, -, hl2, -⟩ := ho1.form
  obtain ⟨rfl, rfl⟩ : A = A' ∧ c = c' := by injection hv with h1 h2 h3; exact ⟨h1, h3⟩
  rw [show pC (cutP [7] 3 2 0) A c = #[.int .u64 3, .int .u64 2, .int .i64 0, .bool true, .slice A 1 c] from rfl]
  obtain ⟨w3, hw3⟩ : ∃ w3, w3 = w2.alloc (.cells #[.int .u64 3, .int .u64 2, .int .i64 0, .bool true, .slice A 1 c] tP) := ⟨_, rfl⟩
  have hr3 : w3.heap[w2.heap.size]? = some (.cells #[.int .u64 3, .int .u64 2, .int .i64 0, .bool true, .slice A 1 c] tP (0, 0)) := by rw [hw3]; exact heap_alloc_new w2 _
  obtain ⟨p0, p1, p2, p3, p4⟩ := pcells hr3
  have ht : (convert 23 9 (.slice A 1 c)).run Try.prog w3 = .ok (.string ⟨#[7]⟩) w3 := run_text w3 c rfl (by rw [hw3]; exact hl2.alloc (Nat.le_refl _) _)
  have HW3 := Lib.hid hw3
  have HFIN := Lib.hid (show Below w.heap.size w w3 by rw [hw3]; exact nAlloc (By.ext HB1.out hb2) (Nat.le_refl _) _)
  clear ho ho1 hv hl2 hb2 hw3 hr3 HC
  have hq : ((⟨#[7]⟩ : ByteArray).toList == (⟨#[7]⟩ : ByteArray).toList) = true := by simp
  go_upto_region 2 with fail
  rw [← HW3.out]
  go_wp2
  go_ret
  exact ⟨rfl, HFIN.out⟩
/-- The law's own copy of a piece. -/
def PiecePost (p : P7) (w : World) (e : Ending) (w' : World) : Prop := ∃ A c, e = .returned (.agg (pC p A c)) ∧ Own w.heap.size w' (.slice A p.d.length c) p.d ∧ Below w.heap.size w w'
theorem ret_piece {w4 : World} {r : Nat} {a0 a1 a2 a3 a4 : Value} {tm : Array Value} (h8 : tm[2]?.getD undef = .pointer (some ⟨r, 0, none⟩)) (hrow : w4.heap[r]? = some (.cells #[a0, a1, a2, a3, a4] tP (0, 0))) :
    (results Try.f13 tm).run Try.prog w4 = .ok (.agg #[a0, a1, a2, a3, a4]) w4 := by
  have hres : Try.f13.results = #[.cell 2 tP] := by kernel_rfl
  have hlv : (loadVar tP ⟨r, 0, none⟩).run Try.prog w4 = .ok (.agg #[a0, a1, a2, a3, a4]) w4 := run_loadVar_row w4 _ _ _ _ _ _ hrow Try.underlying25 rfl (by kernel_rfl)
  unfold results
  rw [hres]
  simp [asAddr, hlv, h8]

theorem piece_end {i t : Nat} {o : Int} {last : Bool} {x : Bs} {w w2 w5 : World} {A5 : Option Addr} {c5 : Nat} (HO : Own w2.heap.size w5 (.slice A5 x.length c5) x) (HB2 : Below w.heap.size w w2) (HB5 : Below w2.heap.size w2 w5) (hz : w.heap.size + 2 ≤ w2.heap.size) :
    PiecePost ⟨i, t, o, last, x⟩ w (.returned (.agg #[.int .u64 (i : Nat), .int .u64 (t : Nat), .int .i64 o, .bool last, .slice A5 x.length c5])) (((((w5.setCell ⟨w.heap.size + 1, 0, none⟩ (.int .u64 (i : Nat))).setCell ⟨w.heap.size + 1, 1, none⟩ (.int .u64 (t : Nat))).setCell ⟨w.heap.size + 1, 2, none⟩ (.int .i64 o)).setCell ⟨w.heap.size + 1, 3, none⟩ (.bool last)).setCell ⟨w.heap.size + 1, 4, none⟩ (.slice A5 x.length c5)) := by
  have hk5 := kept5 (w := w5) (w.heap.size + 1) (.int .u64 (i : Nat)) (.int .u64 (t : Nat)) (.int .i64 o) (.bool last) (.slice A5 x.length c5)
  refine ⟨A5, c5, rfl, own_more (ownsRow_keep HO fun b hb => hk5.block b (ownsRow_lt HO hb).2 (fun e => ?_)) (by omega), (By.ext HB2 HB5).trans (hk5.below (By.ext HB2 HB5).size (fun b hb => by rw [hb]; omega))⟩
  have h1 := (ownsRow_lt HO hb).1
  have e : b = w.heap.size + 1 := e
  omega
set_option maxRecDepth 100000 in
set_option maxHeartbeats 3200000 in
theorem piece_any (i t n c : Nat) (o : Int) (last : Bool) (x : Bs) (A : Option Addr) (w : World) (hn : n = x.length) (hm : x.length ≤ 140737488355328) (hA : Lies w w.heap.size A x) :
    Calls Try.prog 13 #[.agg #[.int .u64 (i : Nat), .int .u64 (t : Nat), .int .i64 o, .bool last, .slice A n c]] w (PiecePost ⟨i, t, o, last, x⟩ w) := by
  obtain ⟨w1, hw1⟩ : ∃ w1, w1 = w.alloc (.cells #[.int .u64 (i : Nat), .int .u64 (t : Nat), .int .i64 o, .bool last, .slice A n c] tR) := ⟨_, rfl⟩
  obtain ⟨w2, hw2⟩ : ∃ w2, w2 = w1.alloc (.cells #[.int .u64 0, .int .u64 0, .int .i64 0, .bool false, .slice none 0 0] tP) := ⟨_, rfl⟩
  have hz1 : w1.heap.size = w.heap.size + 1 := by rw [hw1, World.size_alloc]
  have hz2 : w2.heap.size = w.heap.size + 2 := by rw [hw2, World.size_alloc, hz1]
  have hb1 : Below w.heap.size w w1 := by rw [hw1]; exact (Below.refl _ _).alloc (Nat.le_refl _) _
  have hb2 : Below w.heap.size w w2 := by rw [hw2]; exact hb1.alloc hb1.size _
  have hr1 : w1.heap[w.heap.size]? = some (.cells #[.int .u64 (i : Nat), .int .u64 (t : Nat), .int .i64 o, .bool last, .slice A n c] tR (0, 0)) := by rw [hw1]; exact heap_alloc_new w _
  have hr2 : w2.heap[w.heap.size]? = some (.cells #[.int .u64 (i : Nat), .int .u64 (t : Nat), .int .i64 o, .bool last, .slice A n c] tR (0, 0)) := by rw [hw2]; exact (heap_alloc_old w1 _ (row_lt hr1)).trans hr1
  have hp2 : w2.heap[w.heap.size + 1]? = some (.cells #[.int .u64 0, .int .u64 0, .int .i64 0, .bool false, .slice none 0 0] tP (0, 0)) := by rw [hw2, ← hz1]; exact heap_alloc_new w1 _
  have HXA := Lib.hid (show (w2.alloc (.cells #[] 5)).drew.heap[w.heap.size]? = _ from (heap_alloc_old w2 _ (row_lt hr2)).trans hr2)
  have HPA := Lib.hid (show (w2.alloc (.cells #[] 5)).drew.heap[w.heap.size + 1]? = _ from (heap_alloc_old w2 _ (row_lt hp2)).trans hp2)
  have HOWN := Lib.hid (show Own w2.heap.size (w2.alloc (.cells #[] 5)).drew (.slice (some ⟨w2.heap.size, 0, none⟩) 0 0) [] from Own.made w2 w2.heap.size #[] 0 (Nat.le_refl _) (by decide) rfl)
  have HLA := Lib.hid (show Lies (w2.alloc (.cells #[] 5)).drew w2.heap.size A x from ((hA.below hb2).more hb2.size).alloc (Nat.le_refl _) _)
  have HZA := Lib.hid (show w2.heap.size ≤ (w2.alloc (.cells #[] 5)).drew.heap.size by show _ ≤ (w2.alloc _).heap.size; simp)
  have HBA := Lib.hid (show Below w2.heap.size w2 (w2.alloc (.cells #[] 5)).drew from ((Below.refl _ _).alloc (Nat.le_refl _) _).drew)
  have HR2 := Lib.hid hr2
  have HB2 := Lib.hid hb2
  have HW1 := Lib.hid hw1
  have HW2 := Lib.hid hw2
  have HZ2 := Lib.hid hz2
  have HN := Lib.hid hn
  have HM := Lib.hid hm
  obtain ⟨a0, a1, a2, a3, a4⟩ := rcells hr2
  obtain ⟨b0, b1, b2, b3, b4⟩ : _ ∧ _ ∧ _ ∧ _ ∧ _ := rcells (w := w2.alloc (.cells #[] 5)) HXA.out
  clear hw1 hw2 hz1 hz2 hb1 hb2 hr1 hr2 hp2 hn hm hA
  go_enter Try.func13, Try.ntmps13
  go_upto_region 1 with fail
  rw [← HW1.out, ← HW2.out]
  go_region_held3 (fun w' => w'.cell? ⟨w.heap.size, 0, none⟩ = some (.int .u64 (i : Nat)) ∧ w'.cell? ⟨w.heap.size, 1, none⟩ = some (.int .u64 (t : Nat)) ∧ w'.cell? ⟨w.heap.size, 2, none⟩ = some (.int .i64 o) ∧ w'.cell? ⟨w.heap.size, 3, none⟩ = some (.bool last) ∧ w'.cell? ⟨w.heap.size, 4, none⟩ = some (.slice A n c))
    (first
      | with_reducible assumption
      | with_reducible exact ⟨a0, a1, a2, a3, a4⟩
      | with_reducible exact ⟨b0, b1, b2, b3, b4⟩
      | with_reducible exact ⟨c0, c1, c2, c3, c4⟩
      | (simp [World.cell?_setCell_far, a0, a1, a2, a3, a4]; done)
      | (simp [World.cell?_setCell_far, b0, b1, b2, b3, b4]; done)
      | (simp [World.cell?_setCell_far, c0, c1, c2, c3, c4]; done))
    (first
      | (refine step_app rfl (.tmp 11) (.tmp 13) rfl (v := .slice (some ⟨w2.heap.size, 0, none⟩) 0 0) (by simp [Act.eval]) HOWN.out (A := A) (m := n) (c := c) (by simp [Act.eval]) HN.out HLA.out (by have := HM.out; simp; omega) HZA.out ?_
         intro v5 w5 ho5 hb5 _
         rw [List.nil_append] at ho5
         obtain ⟨A5, c5, hv5, -⟩ := ho5.form
         subst hv5
         have hb5' := HBA.out.trans hb5
         obtain ⟨c0, c1, c2, c3, c4⟩ := rcells ((hb5.block _ (by have := HZ2.out; omega)).trans HXA.out)
         have hp5 := (hb5.block _ (by have := HZ2.out; omega)).trans HPA.out
         have f5 : ∀ j, w5.frozen? ⟨w.heap.size + 1, j, none⟩ = false := fun j => frozen_of_row w5 _ j _ _ hp5
         obtain ⟨p0, p1, p2, p3, p4⟩ := pcells hp5
         have HO5 := Lib.hid ho5
         have HB5 := Lib.hid hb5'
         have HP5 := Lib.hid hp5
         clear ho5 hb5 hb5' hp5))
  all_goals
    go_wp2
    exact bodyPost_ret (ret_piece rfl (set5 HP5.out _ _ _ _ _)) rfl (piece_end HO5.out HB2.out HB5.out (Nat.le_of_eq HZ2.out.symm))
end Go.Proofs.Ytjafgkehkigclaa.Sn
