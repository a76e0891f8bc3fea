/- The law MsgTalks, walked: whatever comes in, not too much. Written by genlaw6.py. -/
import Derived.Test.YtloieecpgndbhaaGreatKpD
import Derived.Test.YtloieecpgndbhaaGreatKpB
import Derived.Test.YtloieecpgndbhaaGreatKpE
import Derived.Test.YtloieecpgndbhaaGreatKpI
import Derived.Test.YtloieecpgndbhaaGreatGN
import Derived.Deep.RegionHeld
namespace Go.Proofs.YtloieecpgndbhaaGreat.Kd
open Go.RowKit By CoP Co Mo

set_option maxRecDepth 100000 in
set_option maxHeartbeats 4000000 in
theorem msgTalks_walk (w : World) (m0 m1 m2 m3 m4 m5 m6 m7 m8 m9 m10 m11 m12 m13 : Value) (d : Data) (r : msgK.rep w (Old w) [m0, m1, m2, m3, m4, m5, m6, m7, m8, m9, m10, m11, m12, m13] d) (s : (msgK.put d).length ≤ 9437184) :
    Calls Tryz.prog 4 #[.agg #[m0, m1, m2, m3, m4, m5, m6, m7, m8, m9, m10, m11, m12, m13]] w (True_ w) := by
  have hb0 : Below w.heap.size w (w.alloc (.cells #[m0, m1, m2, m3, m4, m5, m6, m7, m8, m9, m10, m11, m12, m13] 55)) := (Below.refl _ _).alloc (Nat.le_refl _) _
  have hrow := heap_alloc_new w (.cells #[m0, m1, m2, m3, m4, m5, m6, m7, m8, m9, m10, m11, m12, m13] 55)
  obtain ⟨W, hW⟩ : ∃ W, W = (w.alloc (.cells #[m0, m1, m2, m3, m4, m5, m6, m7, m8, m9, m10, m11, m12, m13] 55)) := ⟨_, rfl⟩
  have hm0 : (w.alloc (.cells #[m0, m1, m2, m3, m4, m5, m6, m7, m8, m9, m10, m11, m12, m13] 55)).cell? ⟨w.heap.size, 0, none⟩ = some m0 := by rw [cell_of_row _ w.heap.size 0 _ _ _ hrow]; rfl
  have hm1 : (w.alloc (.cells #[m0, m1, m2, m3, m4, m5, m6, m7, m8, m9, m10, m11, m12, m13] 55)).cell? ⟨w.heap.size, 1, none⟩ = some m1 := by rw [cell_of_row _ w.heap.size 1 _ _ _ hrow]; rfl
  have hm2 : (w.alloc (.cells #[m0, m1, m2, m3, m4, m5, m6, m7, m8, m9, m10, m11, m12, m13] 55)).cell? ⟨w.heap.size, 2, none⟩ = some m2 := by rw [cell_of_row _ w.heap.size 2 _ _ _ hrow]; rfl
  have hm3 : (w.alloc (.cells #[m0, m1, m2, m3, m4, m5, m6, m7, m8, m9, m10, m11, m12, m13] 55)).cell? ⟨w.heap.size, 3, none⟩ = some m3 := by rw [cell_of_row _ w.heap.size 3 _ _ _ hrow]; rfl
  have hm4 : (w.alloc (.cells #[m0, m1, m2, m3, m4, m5, m6, m7, m8, m9, m10, m11, m12, m13] 55)).cell? ⟨w.heap.size, 4, none⟩ = some m4 := by rw [cell_of_row _ w.heap.size 4 _ _ _ hrow]; rfl
  have hm5 : (w.alloc (.cells #[m0, m1, m2, m3, m4, m5, m6, m7, m8, m9, m10, m11, m12, m13] 55)).cell? ⟨w.heap.size, 5, none⟩ = some m5 := by rw [cell_of_row _ w.heap.size 5 _ _ _ hrow]; rfl
  have hm6 : (w.alloc (.cells #[m0, m1, m2, m3, m4, m5, m6, m7, m8, m9, m10, m11, m12, m13] 55)).cell? ⟨w.heap.size, 6, none⟩ = some m6 := by rw [cell_of_row _ w.heap.size 6 _ _ _ hrow]; rfl
  have hm7 : (w.alloc (.cells #[m0, m1, m2, m3, m4, m5, m6, m7, m8, m9, m10, m11, m12, m13] 55)).cell? ⟨w.heap.size, 7, none⟩ = some m7 := by rw [cell_of_row _ w.heap.size 7 _ _ _ hrow]; rfl
  have hm8 : (w.alloc (.cells #[m0, m1, m2, m3, m4, m5, m6, m7, m8, m9, m10, m11, m12, m13] 55)).cell? ⟨w.heap.size, 8, none⟩ = some m8 := by rw [cell_of_row _ w.heap.size 8 _ _ _ hrow]; rfl
  have hm9 : (w.alloc (.cells #[m0, m1, m2, m3, m4, m5, m6, m7, m8, m9, m10, m11, m12, m13] 55)).cell? ⟨w.heap.size, 9, none⟩ = some m9 := by rw [cell_of_row _ w.heap.size 9 _ _ _ hrow]; rfl
  have hm10 : (w.alloc (.cells #[m0, m1, m2, m3, m4, m5, m6, m7, m8, m9, m10, m11, m12, m13] 55)).cell? ⟨w.heap.size, 10, none⟩ = some m10 := by rw [cell_of_row _ w.heap.size 10 _ _ _ hrow]; rfl
  have hm11 : (w.alloc (.cells #[m0, m1, m2, m3, m4, m5, m6, m7, m8, m9, m10, m11, m12, m13] 55)).cell? ⟨w.heap.size, 11, none⟩ = some m11 := by rw [cell_of_row _ w.heap.size 11 _ _ _ hrow]; rfl
  have hm12 : (w.alloc (.cells #[m0, m1, m2, m3, m4, m5, m6, m7, m8, m9, m10, m11, m12, m13] 55)).cell? ⟨w.heap.size, 12, none⟩ = some m12 := by rw [cell_of_row _ w.heap.size 12 _ _ _ hrow]; rfl
  have hm13 : (w.alloc (.cells #[m0, m1, m2, m3, m4, m5, m6, m7, m8, m9, m10, m11, m12, m13] 55)).cell? ⟨w.heap.size, 13, none⟩ = some m13 := by rw [cell_of_row _ w.heap.size 13 _ _ _ hrow]; rfl
  rw [← hW] at hrow hb0
  have HR := Lib.hid (msgK_ok.below r hb0)
  have HS := Lib.hid s
  have HW := Lib.hid hrow
  have HB := Lib.hid hb0
  clear hb0 hrow r s
  go_enter Tryz.func4, Tryz.ntmps4
  go_wp2_with fail
  rw [← hW]
  clear hW hm0 hm1 hm2 hm3 hm4 hm5 hm6 hm7 hm8 hm9 hm10 hm11 hm12 hm13
  refine (ownMsg_any (d := d) (xs := [m0, m1, m2, m3, m4, m5, m6, m7, m8, m9, m10, m11, m12, m13]) _ HR.out HS.out).mono ?_
  rintro e u1 ⟨vo, rfl, hre, hbu⟩
  have hreo := msgK_ok.keep hre (S' := Old u1) (fun _ _ => rfl) (fun b hb => hb.2)
  have HRE := Lib.hid hreo
  have HR := Lib.hid (msgK_ok.below HR.out hbu)
  have HW := Lib.hid ((hbu.block _ (row_lt HW.out)).trans HW.out)
  have HB := Lib.hid (ext HB.out hbu)
  have hvl := msgK_ok.len hreo
  have HVL := Lib.hid hvl
  clear hbu hre hreo hvl
  go_wp2_with fail
  refine (msgMsg_any (xs := vo.toList) (d := d) _ HVL.out HRE.out (fun _ => by have := HS.out; omega)).mono ?_
  rintro e w1 hw
  have hb1 := hw.1
  obtain ⟨v1, e1, rfl, hw1⟩ := Writes.tell hw
  have HV := Lib.hid hw1
  have HR := Lib.hid (msgK_ok.below HR.out hb1)
  have HW := Lib.hid ((hb1.block _ (row_lt HW.out)).trans HW.out)
  have HB := Lib.hid (ext HB.out hb1)
  have HN := Lib.hid (Below.refl w1.heap.size w1)
  clear hw hw1 hb1 HVL HRE
  have hm0 : ∀ w', Below w1.heap.size w1 w' → w'.cell? ⟨w.heap.size, 0, none⟩ = some m0 := fun w' h => by rw [cell_of_row w' w.heap.size 0 _ _ _ ((h.block _ (row_lt HW.out)).trans HW.out)]; rfl
  have hm1 : ∀ w', Below w1.heap.size w1 w' → w'.cell? ⟨w.heap.size, 1, none⟩ = some m1 := fun w' h => by rw [cell_of_row w' w.heap.size 1 _ _ _ ((h.block _ (row_lt HW.out)).trans HW.out)]; rfl
  have hm2 : ∀ w', Below w1.heap.size w1 w' → w'.cell? ⟨w.heap.size, 2, none⟩ = some m2 := fun w' h => by rw [cell_of_row w' w.heap.size 2 _ _ _ ((h.block _ (row_lt HW.out)).trans HW.out)]; rfl
  have hm3 : ∀ w', Below w1.heap.size w1 w' → w'.cell? ⟨w.heap.size, 3, none⟩ = some m3 := fun w' h => by rw [cell_of_row w' w.heap.size 3 _ _ _ ((h.block _ (row_lt HW.out)).trans HW.out)]; rfl
  have hm4 : ∀ w', Below w1.heap.size w1 w' → w'.cell? ⟨w.heap.size, 4, none⟩ = some m4 := fun w' h => by rw [cell_of_row w' w.heap.size 4 _ _ _ ((h.block _ (row_lt HW.out)).trans HW.out)]; rfl
  have hm5 : ∀ w', Below w1.heap.size w1 w' → w'.cell? ⟨w.heap.size, 5, none⟩ = some m5 := fun w' h => by rw [cell_of_row w' w.heap.size 5 _ _ _ ((h.block _ (row_lt HW.out)).trans HW.out)]; rfl
  have hm6 : ∀ w', Below w1.heap.size w1 w' → w'.cell? ⟨w.heap.size, 6, none⟩ = some m6 := fun w' h => by rw [cell_of_row w' w.heap.size 6 _ _ _ ((h.block _ (row_lt HW.out)).trans HW.out)]; rfl
  have hm7 : ∀ w', Below w1.heap.size w1 w' → w'.cell? ⟨w.heap.size, 7, none⟩ = some m7 := fun w' h => by rw [cell_of_row w' w.heap.size 7 _ _ _ ((h.block _ (row_lt HW.out)).trans HW.out)]; rfl
  have hm8 : ∀ w', Below w1.heap.size w1 w' → w'.cell? ⟨w.heap.size, 8, none⟩ = some m8 := fun w' h => by rw [cell_of_row w' w.heap.size 8 _ _ _ ((h.block _ (row_lt HW.out)).trans HW.out)]; rfl
  have hm9 : ∀ w', Below w1.heap.size w1 w' → w'.cell? ⟨w.heap.size, 9, none⟩ = some m9 := fun w' h => by rw [cell_of_row w' w.heap.size 9 _ _ _ ((h.block _ (row_lt HW.out)).trans HW.out)]; rfl
  have hm10 : ∀ w', Below w1.heap.size w1 w' → w'.cell? ⟨w.heap.size, 10, none⟩ = some m10 := fun w' h => by rw [cell_of_row w' w.heap.size 10 _ _ _ ((h.block _ (row_lt HW.out)).trans HW.out)]; rfl
  have hm11 : ∀ w', Below w1.heap.size w1 w' → w'.cell? ⟨w.heap.size, 11, none⟩ = some m11 := fun w' h => by rw [cell_of_row w' w.heap.size 11 _ _ _ ((h.block _ (row_lt HW.out)).trans HW.out)]; rfl
  have hm12 : ∀ w', Below w1.heap.size w1 w' → w'.cell? ⟨w.heap.size, 12, none⟩ = some m12 := fun w' h => by rw [cell_of_row w' w.heap.size 12 _ _ _ ((h.block _ (row_lt HW.out)).trans HW.out)]; rfl
  have hm13 : ∀ w', Below w1.heap.size w1 w' → w'.cell? ⟨w.heap.size, 13, none⟩ = some m13 := fun w' h => by rw [cell_of_row w' w.heap.size 13 _ _ _ ((h.block _ (row_lt HW.out)).trans HW.out)]; rfl
  go_wp2_with fail
  go_region_held (fun w' => Below w1.heap.size w1 w')
    (first
      | assumption
      | exact (Below.refl _ _).drew
      | exact ext (by assumption) hb)
    (first
      | (go_at_call 18; refine (answers3_yes _).mono ?_; rintro e w' ⟨rfl, hb⟩)
      | (go_at_call 30; refine (msg_ok _ (msgK_ok.below HR.out (by assumption))).mono ?_; rintro e w' ⟨rfl, hb⟩)
      | (go_at_call 31; refine (msg_gives _ (msgK_ok.below HR.out (by assumption)) HS.out).mono ?_; rintro e w' ⟨_, rfl, ho, hb⟩; obtain ⟨Z, cz, rfl, _, _, _, hrz, _⟩ := ho.form; have HZ := Lib.hid hrz; clear hrz ho)
      | (go_at_call_of 19 v1; refine (fitsK_any HV.out (ext HN.out (by assumption)) _ _ _ rfl HZ.out).mono ?_; rintro e w' ⟨rfl, rfl⟩; have hb := Below.refl w'.heap.size w'))
  go_wp2
  go_ret
  exact ⟨rfl, ext HB.out (by assumption)⟩
end Go.Proofs.YtloieecpgndbhaaGreat.Kd
