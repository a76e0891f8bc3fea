/- The law MsgAsks, walked: whatever comes in, not too much. -/
import Derived.Test.YtloieecpgndbhaaGreatKiG
import Derived.Test.YtloieecpgndbhaaGreatKiA
import Derived.Test.YtloieecpgndbhaaGreatKhF
import Derived.Deep.RegionHeld
namespace Go.Proofs.YtloieecpgndbhaaGreat.Kd
open Go.RowKit By CoP Co Mo

set_option maxRecDepth 100000 in
set_option maxHeartbeats 4000000 in
theorem msgAsks_walk (w : World) (m0 m1 m2 m3 m4 m5 m6 : Value) (d1 : Data) (r1 : commandK.rep w (Old w) [m0, m1, m2, m3, m4, m5, m6] d1) (s1 : (commandK.put d1).length ≤ 9437184) (n0 n1 n2 n3 n4 n5 : Value) (d2 : Data) (r2 : replyK.rep w (Old w) [n0, n1, n2, n3, n4, n5] d2) (s2 : (replyK.put d2).length ≤ 9437184) (x0 x1 x2 x3 x4 x5 x6 x7 x8 x9 x10 : Value) (d3 : Data) (r3 : askK.rep w (Old w) [x0, x1, x2, x3, x4, x5, x6, x7, x8, x9, x10] d3) (s3 : (askK.put d3).length ≤ 9437184) (y0 y1 y2 y3 y4 y5 y6 y7 y8 y9 y10 : Value) (d4 : Data) (r4 : toldK.rep w (Old w) [y0, y1, y2, y3, y4, y5, y6, y7, y8, y9, y10] d4) (s4 : (toldK.put d4).length ≤ 9437184) :
    Calls Tryz.prog 5 #[.agg #[m0, m1, m2, m3, m4, m5, m6], .agg #[n0, n1, n2, n3, n4, n5], .agg #[x0, x1, x2, x3, x4, x5, x6, x7, x8, x9, x10], .agg #[y0, y1, y2, y3, y4, y5, y6, y7, y8, y9, y10]] w (True_ w) := by
  have hrow1 : ((((w.alloc (.cells #[m0, m1, m2, m3, m4, m5, m6] 61)).alloc (.cells #[n0, n1, n2, n3, n4, n5] 63)).alloc (.cells #[x0, x1, x2, x3, x4, x5, x6, x7, x8, x9, x10] 65)).alloc (.cells #[y0, y1, y2, y3, y4, y5, y6, y7, y8, y9, y10] 67)).heap[w.heap.size]? = some (.cells #[m0, m1, m2, m3, m4, m5, m6] 61 (0, 0)) := by
    have h := ((heap_alloc_old (((w.alloc (.cells #[m0, m1, m2, m3, m4, m5, m6] 61)).alloc (.cells #[n0, n1, n2, n3, n4, n5] 63)).alloc (.cells #[x0, x1, x2, x3, x4, x5, x6, x7, x8, x9, x10] 65)) (.cells #[y0, y1, y2, y3, y4, y5, y6, y7, y8, y9, y10] 67) (by simp only [World.size_alloc]; omega)).trans ((heap_alloc_old ((w.alloc (.cells #[m0, m1, m2, m3, m4, m5, m6] 61)).alloc (.cells #[n0, n1, n2, n3, n4, n5] 63)) (.cells #[x0, x1, x2, x3, x4, x5, x6, x7, x8, x9, x10] 65) (by simp only [World.size_alloc]; omega)).trans ((heap_alloc_old (w.alloc (.cells #[m0, m1, m2, m3, m4, m5, m6] 61)) (.cells #[n0, n1, n2, n3, n4, n5] 63) (by simp only [World.size_alloc]; omega)).trans (heap_alloc_new w (.cells #[m0, m1, m2, m3, m4, m5, m6] 61)))))
    simpa only [World.size_alloc] using h
  have hrow2 : ((((w.alloc (.cells #[m0, m1, m2, m3, m4, m5, m6] 61)).alloc (.cells #[n0, n1, n2, n3, n4, n5] 63)).alloc (.cells #[x0, x1, x2, x3, x4, x5, x6, x7, x8, x9, x10] 65)).alloc (.cells #[y0, y1, y2, y3, y4, y5, y6, y7, y8, y9, y10] 67)).heap[(w.heap.size + 1)]? = some (.cells #[n0, n1, n2, n3, n4, n5] 63 (0, 0)) := by
    have h := ((heap_alloc_old (((w.alloc (.cells #[m0, m1, m2, m3, m4, m5, m6] 61)).alloc (.cells #[n0, n1, n2, n3, n4, n5] 63)).alloc (.cells #[x0, x1, x2, x3, x4, x5, x6, x7, x8, x9, x10] 65)) (.cells #[y0, y1, y2, y3, y4, y5, y6, y7, y8, y9, y10] 67) (by simp only [World.size_alloc]; omega)).trans ((heap_alloc_old ((w.alloc (.cells #[m0, m1, m2, m3, m4, m5, m6] 61)).alloc (.cells #[n0, n1, n2, n3, n4, n5] 63)) (.cells #[x0, x1, x2, x3, x4, x5, x6, x7, x8, x9, x10] 65) (by simp only [World.size_alloc]; omega)).trans (heap_alloc_new (w.alloc (.cells #[m0, m1, m2, m3, m4, m5, m6] 61)) (.cells #[n0, n1, n2, n3, n4, n5] 63))))
    simpa only [World.size_alloc] using h
  have hrow3 : ((((w.alloc (.cells #[m0, m1, m2, m3, m4, m5, m6] 61)).alloc (.cells #[n0, n1, n2, n3, n4, n5] 63)).alloc (.cells #[x0, x1, x2, x3, x4, x5, x6, x7, x8, x9, x10] 65)).alloc (.cells #[y0, y1, y2, y3, y4, y5, y6, y7, y8, y9, y10] 67)).heap[(w.heap.size + 1 + 1)]? = some (.cells #[x0, x1, x2, x3, x4, x5, x6, x7, x8, x9, x10] 65 (0, 0)) := by
    have h := ((heap_alloc_old (((w.alloc (.cells #[m0, m1, m2, m3, m4, m5, m6] 61)).alloc (.cells #[n0, n1, n2, n3, n4, n5] 63)).alloc (.cells #[x0, x1, x2, x3, x4, x5, x6, x7, x8, x9, x10] 65)) (.cells #[y0, y1, y2, y3, y4, y5, y6, y7, y8, y9, y10] 67) (by simp only [World.size_alloc]; omega)).trans (heap_alloc_new ((w.alloc (.cells #[m0, m1, m2, m3, m4, m5, m6] 61)).alloc (.cells #[n0, n1, n2, n3, n4, n5] 63)) (.cells #[x0, x1, x2, x3, x4, x5, x6, x7, x8, x9, x10] 65)))
    simpa only [World.size_alloc] using h
  have hrow4 : ((((w.alloc (.cells #[m0, m1, m2, m3, m4, m5, m6] 61)).alloc (.cells #[n0, n1, n2, n3, n4, n5] 63)).alloc (.cells #[x0, x1, x2, x3, x4, x5, x6, x7, x8, x9, x10] 65)).alloc (.cells #[y0, y1, y2, y3, y4, y5, y6, y7, y8, y9, y10] 67)).heap[(w.heap.size + 1 + 1 + 1)]? = some (.cells #[y0, y1, y2, y3, y4, y5, y6, y7, y8, y9, y10] 67 (0, 0)) := by
    have h := (heap_alloc_new (((w.alloc (.cells #[m0, m1, m2, m3, m4, m5, m6] 61)).alloc (.cells #[n0, n1, n2, n3, n4, n5] 63)).alloc (.cells #[x0, x1, x2, x3, x4, x5, x6, x7, x8, x9, x10] 65)) (.cells #[y0, y1, y2, y3, y4, y5, y6, y7, y8, y9, y10] 67))
    simpa only [World.size_alloc] using h
  have hb0 : Below w.heap.size w ((((w.alloc (.cells #[m0, m1, m2, m3, m4, m5, m6] 61)).alloc (.cells #[n0, n1, n2, n3, n4, n5] 63)).alloc (.cells #[x0, x1, x2, x3, x4, x5, x6, x7, x8, x9, x10] 65)).alloc (.cells #[y0, y1, y2, y3, y4, y5, y6, y7, y8, y9, y10] 67)) := ((((Below.refl _ _).alloc (Nat.le_refl _) _).alloc (by simp only [World.size_alloc]; omega) _).alloc (by simp only [World.size_alloc]; omega) _).alloc (by simp only [World.size_alloc]; omega) _
  have HR1 := Lib.hid (commandK_ok.below r1 hb0)
  have HS1 := Lib.hid s1
  have HW1 := Lib.hid hrow1
  have HR2 := Lib.hid (replyK_ok.below r2 hb0)
  have HS2 := Lib.hid s2
  have HW2 := Lib.hid hrow2
  have HR3 := Lib.hid (askK_ok.below r3 hb0)
  have HS3 := Lib.hid s3
  have HW3 := Lib.hid hrow3
  have HR4 := Lib.hid (toldK_ok.below r4 hb0)
  have HS4 := Lib.hid s4
  have HW4 := Lib.hid hrow4
  have HB := Lib.hid hb0
  clear hb0 hrow1 r1 s1 hrow2 r2 s2 hrow3 r3 s3 hrow4 r4 s4
  have hm0 : ((((w.alloc (.cells #[m0, m1, m2, m3, m4, m5, m6] 61)).alloc (.cells #[n0, n1, n2, n3, n4, n5] 63)).alloc (.cells #[x0, x1, x2, x3, x4, x5, x6, x7, x8, x9, x10] 65)).alloc (.cells #[y0, y1, y2, y3, y4, y5, y6, y7, y8, y9, y10] 67)).cell? ⟨w.heap.size, 0, none⟩ = some m0 := by rw [cell_of_row _ w.heap.size 0 _ _ _ HW1.out]; rfl
  have hm1 : ((((w.alloc (.cells #[m0, m1, m2, m3, m4, m5, m6] 61)).alloc (.cells #[n0, n1, n2, n3, n4, n5] 63)).alloc (.cells #[x0, x1, x2, x3, x4, x5, x6, x7, x8, x9, x10] 65)).alloc (.cells #[y0, y1, y2, y3, y4, y5, y6, y7, y8, y9, y10] 67)).cell? ⟨w.heap.size, 1, none⟩ = some m1 := by rw [cell_of_row _ w.heap.size 1 _ _ _ HW1.out]; rfl
  have hm2 : ((((w.alloc (.cells #[m0, m1, m2, m3, m4, m5, m6] 61)).alloc (.cells #[n0, n1, n2, n3, n4, n5] 63)).alloc (.cells #[x0, x1, x2, x3, x4, x5, x6, x7, x8, x9, x10] 65)).alloc (.cells #[y0, y1, y2, y3, y4, y5, y6, y7, y8, y9, y10] 67)).cell? ⟨w.heap.size, 2, none⟩ = some m2 := by rw [cell_of_row _ w.heap.size 2 _ _ _ HW1.out]; rfl
  have hm3 : ((((w.alloc (.cells #[m0, m1, m2, m3, m4, m5, m6] 61)).alloc (.cells #[n0, n1, n2, n3, n4, n5] 63)).alloc (.cells #[x0, x1, x2, x3, x4, x5, x6, x7, x8, x9, x10] 65)).alloc (.cells #[y0, y1, y2, y3, y4, y5, y6, y7, y8, y9, y10] 67)).cell? ⟨w.heap.size, 3, none⟩ = some m3 := by rw [cell_of_row _ w.heap.size 3 _ _ _ HW1.out]; rfl
  have hm4 : ((((w.alloc (.cells #[m0, m1, m2, m3, m4, m5, m6] 61)).alloc (.cells #[n0, n1, n2, n3, n4, n5] 63)).alloc (.cells #[x0, x1, x2, x3, x4, x5, x6, x7, x8, x9, x10] 65)).alloc (.cells #[y0, y1, y2, y3, y4, y5, y6, y7, y8, y9, y10] 67)).cell? ⟨w.heap.size, 4, none⟩ = some m4 := by rw [cell_of_row _ w.heap.size 4 _ _ _ HW1.out]; rfl
  have hm5 : ((((w.alloc (.cells #[m0, m1, m2, m3, m4, m5, m6] 61)).alloc (.cells #[n0, n1, n2, n3, n4, n5] 63)).alloc (.cells #[x0, x1, x2, x3, x4, x5, x6, x7, x8, x9, x10] 65)).alloc (.cells #[y0, y1, y2, y3, y4, y5, y6, y7, y8, y9, y10] 67)).cell? ⟨w.heap.size, 5, none⟩ = some m5 := by rw [cell_of_row _ w.heap.size 5 _ _ _ HW1.out]; rfl
  have hm6 : ((((w.alloc (.cells #[m0, m1, m2, m3, m4, m5, m6] 61)).alloc (.cells #[n0, n1, n2, n3, n4, n5] 63)).alloc (.cells #[x0, x1, x2, x3, x4, x5, x6, x7, x8, x9, x10] 65)).alloc (.cells #[y0, y1, y2, y3, y4, y5, y6, y7, y8, y9, y10] 67)).cell? ⟨w.heap.size, 6, none⟩ = some m6 := by rw [cell_of_row _ w.heap.size 6 _ _ _ HW1.out]; rfl
  go_enter Tryz.func5, Tryz.ntmps5
  go_wp2_with fail
  refine (msgCommand_any (xs := [m0, m1, m2, m3, m4, m5, m6]) (d := d1) _ rfl HR1.out (fun _ => by have := HS1.out; omega)).mono ?_
  rintro e w1 hw
  have hb1 := hw.1
  obtain ⟨v1, e1, rfl, hw1⟩ := Writes.tell hw
  have HV1 := Lib.hid hw1
  have HB := Lib.hid (ext HB.out hb1)
  have HR1 := Lib.hid (commandK_ok.below HR1.out hb1)
  have HW1 := Lib.hid ((hb1.block _ (row_lt HW1.out)).trans HW1.out)
  have HR2 := Lib.hid (replyK_ok.below HR2.out hb1)
  have HW2 := Lib.hid ((hb1.block _ (row_lt HW2.out)).trans HW2.out)
  have HR3 := Lib.hid (askK_ok.below HR3.out hb1)
  have HW3 := Lib.hid ((hb1.block _ (row_lt HW3.out)).trans HW3.out)
  have HR4 := Lib.hid (toldK_ok.below HR4.out hb1)
  have HW4 := Lib.hid ((hb1.block _ (row_lt HW4.out)).trans HW4.out)
  have HN1 := Lib.hid (Below.refl w1.heap.size w1)
  clear hw hw1 hb1 hm0 hm1 hm2 hm3 hm4 hm5 hm6
  have hn0 : w1.cell? ⟨(w.heap.size + 1), 0, none⟩ = some n0 := by rw [cell_of_row _ (w.heap.size + 1) 0 _ _ _ HW2.out]; rfl
  have hn1 : w1.cell? ⟨(w.heap.size + 1), 1, none⟩ = some n1 := by rw [cell_of_row _ (w.heap.size + 1) 1 _ _ _ HW2.out]; rfl
  have hn2 : w1.cell? ⟨(w.heap.size + 1), 2, none⟩ = some n2 := by rw [cell_of_row _ (w.heap.size + 1) 2 _ _ _ HW2.out]; rfl
  have hn3 : w1.cell? ⟨(w.heap.size + 1), 3, none⟩ = some n3 := by rw [cell_of_row _ (w.heap.size + 1) 3 _ _ _ HW2.out]; rfl
  have hn4 : w1.cell? ⟨(w.heap.size + 1), 4, none⟩ = some n4 := by rw [cell_of_row _ (w.heap.size + 1) 4 _ _ _ HW2.out]; rfl
  have hn5 : w1.cell? ⟨(w.heap.size + 1), 5, none⟩ = some n5 := by rw [cell_of_row _ (w.heap.size + 1) 5 _ _ _ HW2.out]; rfl
  go_wp2_with fail
  refine (msgReply_any (xs := [n0, n1, n2, n3, n4, n5]) (d := d2) _ rfl HR2.out (fun _ => by have := HS2.out; omega)).mono ?_
  rintro e w2 hw
  have hb2 := hw.1
  obtain ⟨v2, e2, rfl, hw2⟩ := Writes.tell hw
  have HV2 := Lib.hid hw2
  have HB := Lib.hid (ext HB.out hb2)
  have HR1 := Lib.hid (commandK_ok.below HR1.out hb2)
  have HW1 := Lib.hid ((hb2.block _ (row_lt HW1.out)).trans HW1.out)
  have HR2 := Lib.hid (replyK_ok.below HR2.out hb2)
  have HW2 := Lib.hid ((hb2.block _ (row_lt HW2.out)).trans HW2.out)
  have HR3 := Lib.hid (askK_ok.below HR3.out hb2)
  have HW3 := Lib.hid ((hb2.block _ (row_lt HW3.out)).trans HW3.out)
  have HR4 := Lib.hid (toldK_ok.below HR4.out hb2)
  have HW4 := Lib.hid ((hb2.block _ (row_lt HW4.out)).trans HW4.out)
  have HN1 := Lib.hid (ext HN1.out hb2)
  have HN2 := Lib.hid (Below.refl w2.heap.size w2)
  clear hw hw2 hb2 hn0 hn1 hn2 hn3 hn4 hn5
  have hx0 : w2.cell? ⟨(w.heap.size + 1 + 1), 0, none⟩ = some x0 := by rw [cell_of_row _ (w.heap.size + 1 + 1) 0 _ _ _ HW3.out]; rfl
  have hx1 : w2.cell? ⟨(w.heap.size + 1 + 1), 1, none⟩ = some x1 := by rw [cell_of_row _ (w.heap.size + 1 + 1) 1 _ _ _ HW3.out]; rfl
  have hx2 : w2.cell? ⟨(w.heap.size + 1 + 1), 2, none⟩ = some x2 := by rw [cell_of_row _ (w.heap.size + 1 + 1) 2 _ _ _ HW3.out]; rfl
  have hx3 : w2.cell? ⟨(w.heap.size + 1 + 1), 3, none⟩ = some x3 := by rw [cell_of_row _ (w.heap.size + 1 + 1) 3 _ _ _ HW3.out]; rfl
  have hx4 : w2.cell? ⟨(w.heap.size + 1 + 1), 4, none⟩ = some x4 := by rw [cell_of_row _ (w.heap.size + 1 + 1) 4 _ _ _ HW3.out]; rfl
  have hx5 : w2.cell? ⟨(w.heap.size + 1 + 1), 5, none⟩ = some x5 := by rw [cell_of_row _ (w.heap.size + 1 + 1) 5 _ _ _ HW3.out]; rfl
  have hx6 : w2.cell? ⟨(w.heap.size + 1 + 1), 6, none⟩ = some x6 := by rw [cell_of_row _ (w.heap.size + 1 + 1) 6 _ _ _ HW3.out]; rfl
  have hx7 : w2.cell? ⟨(w.heap.size + 1 + 1), 7, none⟩ = some x7 := by rw [cell_of_row _ (w.heap.size + 1 + 1) 7 _ _ _ HW3.out]; rfl
  have hx8 : w2.cell? ⟨(w.heap.size + 1 + 1), 8, none⟩ = some x8 := by rw [cell_of_row _ (w.heap.size + 1 + 1) 8 _ _ _ HW3.out]; rfl
  have hx9 : w2.cell? ⟨(w.heap.size + 1 + 1), 9, none⟩ = some x9 := by rw [cell_of_row _ (w.heap.size + 1 + 1) 9 _ _ _ HW3.out]; rfl
  have hx10 : w2.cell? ⟨(w.heap.size + 1 + 1), 10, none⟩ = some x10 := by rw [cell_of_row _ (w.heap.size + 1 + 1) 10 _ _ _ HW3.out]; rfl
  go_wp2_with fail
  refine (msgAsk_any (xs := [x0, x1, x2, x3, x4, x5, x6, x7, x8, x9, x10]) (d := d3) _ rfl HR3.out (fun _ => by have := HS3.out; omega)).mono ?_
  rintro e w3 hw
  have hb3 := hw.1
  obtain ⟨v3, e3, rfl, hw3⟩ := Writes.tell hw
  have HV3 := Lib.hid hw3
  have HB := Lib.hid (ext HB.out hb3)
  have HR1 := Lib.hid (commandK_ok.below HR1.out hb3)
  have HW1 := Lib.hid ((hb3.block _ (row_lt HW1.out)).trans HW1.out)
  have HR2 := Lib.hid (replyK_ok.below HR2.out hb3)
  have HW2 := Lib.hid ((hb3.block _ (row_lt HW2.out)).trans HW2.out)
  have HR3 := Lib.hid (askK_ok.below HR3.out hb3)
  have HW3 := Lib.hid ((hb3.block _ (row_lt HW3.out)).trans HW3.out)
  have HR4 := Lib.hid (toldK_ok.below HR4.out hb3)
  have HW4 := Lib.hid ((hb3.block _ (row_lt HW4.out)).trans HW4.out)
  have HN1 := Lib.hid (ext HN1.out hb3)
  have HN2 := Lib.hid (ext HN2.out hb3)
  have HN3 := Lib.hid (Below.refl w3.heap.size w3)
  clear hw hw3 hb3 hx0 hx1 hx2 hx3 hx4 hx5 hx6 hx7 hx8 hx9 hx10
  have hy0 : w3.cell? ⟨(w.heap.size + 1 + 1 + 1), 0, none⟩ = some y0 := by rw [cell_of_row _ (w.heap.size + 1 + 1 + 1) 0 _ _ _ HW4.out]; rfl
  have hy1 : w3.cell? ⟨(w.heap.size + 1 + 1 + 1), 1, none⟩ = some y1 := by rw [cell_of_row _ (w.heap.size + 1 + 1 + 1) 1 _ _ _ HW4.out]; rfl
  have hy2 : w3.cell? ⟨(w.heap.size + 1 + 1 + 1), 2, none⟩ = some y2 := by rw [cell_of_row _ (w.heap.size + 1 + 1 + 1) 2 _ _ _ HW4.out]; rfl
  have hy3 : w3.cell? ⟨(w.heap.size + 1 + 1 + 1), 3, none⟩ = some y3 := by rw [cell_of_row _ (w.heap.size + 1 + 1 + 1) 3 _ _ _ HW4.out]; rfl
  have hy4 : w3.cell? ⟨(w.heap.size + 1 + 1 + 1), 4, none⟩ = some y4 := by rw [cell_of_row _ (w.heap.size + 1 + 1 + 1) 4 _ _ _ HW4.out]; rfl
  have hy5 : w3.cell? ⟨(w.heap.size + 1 + 1 + 1), 5, none⟩ = some y5 := by rw [cell_of_row _ (w.heap.size + 1 + 1 + 1) 5 _ _ _ HW4.out]; rfl
  have hy6 : w3.cell? ⟨(w.heap.size + 1 + 1 + 1), 6, none⟩ = some y6 := by rw [cell_of_row _ (w.heap.size + 1 + 1 + 1) 6 _ _ _ HW4.out]; rfl
  have hy7 : w3.cell? ⟨(w.heap.size + 1 + 1 + 1), 7, none⟩ = some y7 := by rw [cell_of_row _ (w.heap.size + 1 + 1 + 1) 7 _ _ _ HW4.out]; rfl
  have hy8 : w3.cell? ⟨(w.heap.size + 1 + 1 + 1), 8, none⟩ = some y8 := by rw [cell_of_row _ (w.heap.size + 1 + 1 + 1) 8 _ _ _ HW4.out]; rfl
  have hy9 : w3.cell? ⟨(w.heap.size + 1 + 1 + 1), 9, none⟩ = some y9 := by rw [cell_of_row _ (w.heap.size + 1 + 1 + 1) 9 _ _ _ HW4.out]; rfl
  have hy10 : w3.cell? ⟨(w.heap.size + 1 + 1 + 1), 10, none⟩ = some y10 := by rw [cell_of_row _ (w.heap.size + 1 + 1 + 1) 10 _ _ _ HW4.out]; rfl
  go_wp2_with fail
  refine (msgTold_any (xs := [y0, y1, y2, y3, y4, y5, y6, y7, y8, y9, y10]) (d := d4) _ rfl HR4.out (fun _ => by have := HS4.out; omega)).mono ?_
  rintro e w4 hw
  have hb4 := hw.1
  obtain ⟨v4, e4, rfl, hw4⟩ := Writes.tell hw
  have HV4 := Lib.hid hw4
  have HB := Lib.hid (ext HB.out hb4)
  have HR1 := Lib.hid (commandK_ok.below HR1.out hb4)
  have HW1 := Lib.hid ((hb4.block _ (row_lt HW1.out)).trans HW1.out)
  have HR2 := Lib.hid (replyK_ok.below HR2.out hb4)
  have HW2 := Lib.hid ((hb4.block _ (row_lt HW2.out)).trans HW2.out)
  have HR3 := Lib.hid (askK_ok.below HR3.out hb4)
  have HW3 := Lib.hid ((hb4.block _ (row_lt HW3.out)).trans HW3.out)
  have HR4 := Lib.hid (toldK_ok.below HR4.out hb4)
  have HW4 := Lib.hid ((hb4.block _ (row_lt HW4.out)).trans HW4.out)
  have HN1 := Lib.hid (ext HN1.out hb4)
  have HN2 := Lib.hid (ext HN2.out hb4)
  have HN3 := Lib.hid (ext HN3.out hb4)
  have HN4 := Lib.hid (Below.refl w4.heap.size w4)
  clear hw hw4 hb4 hy0 hy1 hy2 hy3 hy4 hy5 hy6 hy7 hy8 hy9 hy10
  have hm0 : ∀ w', Below w4.heap.size w4 w' → w'.cell? ⟨w.heap.size, 0, none⟩ = some m0 := fun w' h => by rw [cell_of_row w' w.heap.size 0 _ _ _ ((h.block _ (row_lt HW1.out)).trans HW1.out)]; rfl
  have hm1 : ∀ w', Below w4.heap.size w4 w' → w'.cell? ⟨w.heap.size, 1, none⟩ = some m1 := fun w' h => by rw [cell_of_row w' w.heap.size 1 _ _ _ ((h.block _ (row_lt HW1.out)).trans HW1.out)]; rfl
  have hm2 : ∀ w', Below w4.heap.size w4 w' → w'.cell? ⟨w.heap.size, 2, none⟩ = some m2 := fun w' h => by rw [cell_of_row w' w.heap.size 2 _ _ _ ((h.block _ (row_lt HW1.out)).trans HW1.out)]; rfl
  have hm3 : ∀ w', Below w4.heap.size w4 w' → w'.cell? ⟨w.heap.size, 3, none⟩ = some m3 := fun w' h => by rw [cell_of_row w' w.heap.size 3 _ _ _ ((h.block _ (row_lt HW1.out)).trans HW1.out)]; rfl
  have hm4 : ∀ w', Below w4.heap.size w4 w' → w'.cell? ⟨w.heap.size, 4, none⟩ = some m4 := fun w' h => by rw [cell_of_row w' w.heap.size 4 _ _ _ ((h.block _ (row_lt HW1.out)).trans HW1.out)]; rfl
  have hm5 : ∀ w', Below w4.heap.size w4 w' → w'.cell? ⟨w.heap.size, 5, none⟩ = some m5 := fun w' h => by rw [cell_of_row w' w.heap.size 5 _ _ _ ((h.block _ (row_lt HW1.out)).trans HW1.out)]; rfl
  have hm6 : ∀ w', Below w4.heap.size w4 w' → w'.cell? ⟨w.heap.size, 6, none⟩ = some m6 := fun w' h => by rw [cell_of_row w' w.heap.size 6 _ _ _ ((h.block _ (row_lt HW1.out)).trans HW1.out)]; rfl
  have hn0 : ∀ w', Below w4.heap.size w4 w' → w'.cell? ⟨(w.heap.size + 1), 0, none⟩ = some n0 := fun w' h => by rw [cell_of_row w' (w.heap.size + 1) 0 _ _ _ ((h.block _ (row_lt HW2.out)).trans HW2.out)]; rfl
  have hn1 : ∀ w', Below w4.heap.size w4 w' → w'.cell? ⟨(w.heap.size + 1), 1, none⟩ = some n1 := fun w' h => by rw [cell_of_row w' (w.heap.size + 1) 1 _ _ _ ((h.block _ (row_lt HW2.out)).trans HW2.out)]; rfl
  have hn2 : ∀ w', Below w4.heap.size w4 w' → w'.cell? ⟨(w.heap.size + 1), 2, none⟩ = some n2 := fun w' h => by rw [cell_of_row w' (w.heap.size + 1) 2 _ _ _ ((h.block _ (row_lt HW2.out)).trans HW2.out)]; rfl
  have hn3 : ∀ w', Below w4.heap.size w4 w' → w'.cell? ⟨(w.heap.size + 1), 3, none⟩ = some n3 := fun w' h => by rw [cell_of_row w' (w.heap.size + 1) 3 _ _ _ ((h.block _ (row_lt HW2.out)).trans HW2.out)]; rfl
  have hn4 : ∀ w', Below w4.heap.size w4 w' → w'.cell? ⟨(w.heap.size + 1), 4, none⟩ = some n4 := fun w' h => by rw [cell_of_row w' (w.heap.size + 1) 4 _ _ _ ((h.block _ (row_lt HW2.out)).trans HW2.out)]; rfl
  have hn5 : ∀ w', Below w4.heap.size w4 w' → w'.cell? ⟨(w.heap.size + 1), 5, none⟩ = some n5 := fun w' h => by rw [cell_of_row w' (w.heap.size + 1) 5 _ _ _ ((h.block _ (row_lt HW2.out)).trans HW2.out)]; rfl
  have hx0 : ∀ w', Below w4.heap.size w4 w' → w'.cell? ⟨(w.heap.size + 1 + 1), 0, none⟩ = some x0 := fun w' h => by rw [cell_of_row w' (w.heap.size + 1 + 1) 0 _ _ _ ((h.block _ (row_lt HW3.out)).trans HW3.out)]; rfl
  have hx1 : ∀ w', Below w4.heap.size w4 w' → w'.cell? ⟨(w.heap.size + 1 + 1), 1, none⟩ = some x1 := fun w' h => by rw [cell_of_row w' (w.heap.size + 1 + 1) 1 _ _ _ ((h.block _ (row_lt HW3.out)).trans HW3.out)]; rfl
  have hx2 : ∀ w', Below w4.heap.size w4 w' → w'.cell? ⟨(w.heap.size + 1 + 1), 2, none⟩ = some x2 := fun w' h => by rw [cell_of_row w' (w.heap.size + 1 + 1) 2 _ _ _ ((h.block _ (row_lt HW3.out)).trans HW3.out)]; rfl
  have hx3 : ∀ w', Below w4.heap.size w4 w' → w'.cell? ⟨(w.heap.size + 1 + 1), 3, none⟩ = some x3 := fun w' h => by rw [cell_of_row w' (w.heap.size + 1 + 1) 3 _ _ _ ((h.block _ (row_lt HW3.out)).trans HW3.out)]; rfl
  have hx4 : ∀ w', Below w4.heap.size w4 w' → w'.cell? ⟨(w.heap.size + 1 + 1), 4, none⟩ = some x4 := fun w' h => by rw [cell_of_row w' (w.heap.size + 1 + 1) 4 _ _ _ ((h.block _ (row_lt HW3.out)).trans HW3.out)]; rfl
  have hx5 : ∀ w', Below w4.heap.size w4 w' → w'.cell? ⟨(w.heap.size + 1 + 1), 5, none⟩ = some x5 := fun w' h => by rw [cell_of_row w' (w.heap.size + 1 + 1) 5 _ _ _ ((h.block _ (row_lt HW3.out)).trans HW3.out)]; rfl
  have hx6 : ∀ w', Below w4.heap.size w4 w' → w'.cell? ⟨(w.heap.size + 1 + 1), 6, none⟩ = some x6 := fun w' h => by rw [cell_of_row w' (w.heap.size + 1 + 1) 6 _ _ _ ((h.block _ (row_lt HW3.out)).trans HW3.out)]; rfl
  have hx7 : ∀ w', Below w4.heap.size w4 w' → w'.cell? ⟨(w.heap.size + 1 + 1), 7, none⟩ = some x7 := fun w' h => by rw [cell_of_row w' (w.heap.size + 1 + 1) 7 _ _ _ ((h.block _ (row_lt HW3.out)).trans HW3.out)]; rfl
  have hx8 : ∀ w', Below w4.heap.size w4 w' → w'.cell? ⟨(w.heap.size + 1 + 1), 8, none⟩ = some x8 := fun w' h => by rw [cell_of_row w' (w.heap.size + 1 + 1) 8 _ _ _ ((h.block _ (row_lt HW3.out)).trans HW3.out)]; rfl
  have hx9 : ∀ w', Below w4.heap.size w4 w' → w'.cell? ⟨(w.heap.size + 1 + 1), 9, none⟩ = some x9 := fun w' h => by rw [cell_of_row w' (w.heap.size + 1 + 1) 9 _ _ _ ((h.block _ (row_lt HW3.out)).trans HW3.out)]; rfl
  have hx10 : ∀ w', Below w4.heap.size w4 w' → w'.cell? ⟨(w.heap.size + 1 + 1), 10, none⟩ = some x10 := fun w' h => by rw [cell_of_row w' (w.heap.size + 1 + 1) 10 _ _ _ ((h.block _ (row_lt HW3.out)).trans HW3.out)]; rfl
  have hy0 : ∀ w', Below w4.heap.size w4 w' → w'.cell? ⟨(w.heap.size + 1 + 1 + 1), 0, none⟩ = some y0 := fun w' h => by rw [cell_of_row w' (w.heap.size + 1 + 1 + 1) 0 _ _ _ ((h.block _ (row_lt HW4.out)).trans HW4.out)]; rfl
  have hy1 : ∀ w', Below w4.heap.size w4 w' → w'.cell? ⟨(w.heap.size + 1 + 1 + 1), 1, none⟩ = some y1 := fun w' h => by rw [cell_of_row w' (w.heap.size + 1 + 1 + 1) 1 _ _ _ ((h.block _ (row_lt HW4.out)).trans HW4.out)]; rfl
  have hy2 : ∀ w', Below w4.heap.size w4 w' → w'.cell? ⟨(w.heap.size + 1 + 1 + 1), 2, none⟩ = some y2 := fun w' h => by rw [cell_of_row w' (w.heap.size + 1 + 1 + 1) 2 _ _ _ ((h.block _ (row_lt HW4.out)).trans HW4.out)]; rfl
  have hy3 : ∀ w', Below w4.heap.size w4 w' → w'.cell? ⟨(w.heap.size + 1 + 1 + 1), 3, none⟩ = some y3 := fun w' h => by rw [cell_of_row w' (w.heap.size + 1 + 1 + 1) 3 _ _ _ ((h.block _ (row_lt HW4.out)).trans HW4.out)]; rfl
  have hy4 : ∀ w', Below w4.heap.size w4 w' → w'.cell? ⟨(w.heap.size + 1 + 1 + 1), 4, none⟩ = some y4 := fun w' h => by rw [cell_of_row w' (w.heap.size + 1 + 1 + 1) 4 _ _ _ ((h.block _ (row_lt HW4.out)).trans HW4.out)]; rfl
  have hy5 : ∀ w', Below w4.heap.size w4 w' → w'.cell? ⟨(w.heap.size + 1 + 1 + 1), 5, none⟩ = some y5 := fun w' h => by rw [cell_of_row w' (w.heap.size + 1 + 1 + 1) 5 _ _ _ ((h.block _ (row_lt HW4.out)).trans HW4.out)]; rfl
  have hy6 : ∀ w', Below w4.heap.size w4 w' → w'.cell? ⟨(w.heap.size + 1 + 1 + 1), 6, none⟩ = some y6 := fun w' h => by rw [cell_of_row w' (w.heap.size + 1 + 1 + 1) 6 _ _ _ ((h.block _ (row_lt HW4.out)).trans HW4.out)]; rfl
  have hy7 : ∀ w', Below w4.heap.size w4 w' → w'.cell? ⟨(w.heap.size + 1 + 1 + 1), 7, none⟩ = some y7 := fun w' h => by rw [cell_of_row w' (w.heap.size + 1 + 1 + 1) 7 _ _ _ ((h.block _ (row_lt HW4.out)).trans HW4.out)]; rfl
  have hy8 : ∀ w', Below w4.heap.size w4 w' → w'.cell? ⟨(w.heap.size + 1 + 1 + 1), 8, none⟩ = some y8 := fun w' h => by rw [cell_of_row w' (w.heap.size + 1 + 1 + 1) 8 _ _ _ ((h.block _ (row_lt HW4.out)).trans HW4.out)]; rfl
  have hy9 : ∀ w', Below w4.heap.size w4 w' → w'.cell? ⟨(w.heap.size + 1 + 1 + 1), 9, none⟩ = some y9 := fun w' h => by rw [cell_of_row w' (w.heap.size + 1 + 1 + 1) 9 _ _ _ ((h.block _ (row_lt HW4.out)).trans HW4.out)]; rfl
  have hy10 : ∀ w', Below w4.heap.size w4 w' → w'.cell? ⟨(w.heap.size + 1 + 1 + 1), 10, none⟩ = some y10 := fun w' h => by rw [cell_of_row w' (w.heap.size + 1 + 1 + 1) 10 _ _ _ ((h.block _ (row_lt HW4.out)).trans HW4.out)]; rfl
  go_wp2_with fail
  go_region_held (fun w' => Below w4.heap.size w4 w')
    (first
      | assumption
      | exact (Below.refl _ _).drew
      | exact ext (by assumption) hb)
    (first
      | (go_at_call 18; refine (answers3_yes _).mono ?_; rintro e w' ⟨rfl, hb⟩)
      | (go_at_call 36; refine (cmd_ok _ (commandK_ok.below HR1.out (by assumption))).mono ?_; rintro e w' ⟨rfl, hb⟩)
      | (go_at_call 37; refine (cmd_gives _ (commandK_ok.below HR1.out (by assumption)) HS1.out).mono ?_; rintro e w' ⟨_, rfl, ho, hb⟩; obtain ⟨Z, cz, rfl, _, _, _, hrz, _⟩ := ho.form; have HZ1 := Lib.hid hrz; clear hrz ho)
      | (go_at_call 38; refine (rep_ok _ (replyK_ok.below HR2.out (by assumption))).mono ?_; rintro e w' ⟨rfl, hb⟩)
      | (go_at_call 39; refine (rep_gives _ (replyK_ok.below HR2.out (by assumption)) HS2.out).mono ?_; rintro e w' ⟨_, rfl, ho, hb⟩; obtain ⟨Z, cz, rfl, _, _, _, hrz, _⟩ := ho.form; have HZ2 := Lib.hid hrz; clear hrz ho)
      | (go_at_call 40; refine (ask_ok _ (askK_ok.below HR3.out (by assumption))).mono ?_; rintro e w' ⟨rfl, hb⟩)
      | (go_at_call 41; refine (ask_gives _ (askK_ok.below HR3.out (by assumption)) HS3.out).mono ?_; rintro e w' ⟨_, rfl, ho, hb⟩; obtain ⟨Z, cz, rfl, _, _, _, hrz, _⟩ := ho.form; have HZ3 := Lib.hid hrz; clear hrz ho)
      | (go_at_call 42; refine (told_ok _ (toldK_ok.below HR4.out (by assumption))).mono ?_; rintro e w' ⟨rfl, hb⟩)
      | (go_at_call 43; refine (told_gives _ (toldK_ok.below HR4.out (by assumption)) HS4.out).mono ?_; rintro e w' ⟨_, rfl, ho, hb⟩; obtain ⟨Z, cz, rfl, _, _, _, hrz, _⟩ := ho.form; have HZ4 := Lib.hid hrz; clear hrz ho)
      | (go_at_call_of 19 v1; refine (fits_any HV1.out (ext HN1.out (by assumption)) _ _ _ rfl HZ1.out).mono ?_; rintro e w' ⟨rfl, rfl⟩; have hb := Below.refl w'.heap.size w')
      | (go_at_call_of 19 v2; refine (fits_any HV2.out (ext HN2.out (by assumption)) _ _ _ rfl HZ2.out).mono ?_; rintro e w' ⟨rfl, rfl⟩; have hb := Below.refl w'.heap.size w')
      | (go_at_call_of 19 v3; refine (fits_any HV3.out (ext HN3.out (by assumption)) _ _ _ rfl HZ3.out).mono ?_; rintro e w' ⟨rfl, rfl⟩; have hb := Below.refl w'.heap.size w')
      | (go_at_call_of 19 v4; refine (fits_any HV4.out (ext HN4.out (by assumption)) _ _ _ rfl HZ4.out).mono ?_; rintro e w' ⟨rfl, rfl⟩; have hb := Below.refl w'.heap.size w'))
  go_wp2
  go_ret
  exact ⟨rfl, ext HB.out (by assumption)⟩
end Go.Proofs.YtloieecpgndbhaaGreat.Kd
