/- The law MsgKeeps, walked: whatever comes in, not too much. Written by genkeeps.py. -/
import Derived.Test.YtnmcaifecfaoiaaGreatKyA
import Derived.Test.YtnmcaifecfaoiaaGreatKrB
namespace Go.Proofs.YtnmcaifecfaoiaaGreat.Kd
open Go.RowKit By CoP Co Mo

set_option maxRecDepth 100000 in
set_option maxHeartbeats 8000000 in
theorem msgKeeps_walk (w : World) (m0 m1 m2 m3 m4 m5 m6 m7 m8 m9 m10 m11 m12 m13 : Value) (d : Data) (r : msgK.rep w (Old w) [m0, m1, m2, m3, m4, m5, m6, m7, m8, m9, m10, m11, m12, m13] d) (s : (msgK.put d).length ≤ 9437184) :
    Calls Tryz.prog 3 #[.agg #[m0, m1, m2, m3, m4, m5, m6, m7, m8, m9, m10, m11, m12, m13]] w (True_ w) := by
  have hb0 : Below w.heap.size w (w.alloc (.cells #[m0, m1, m2, m3, m4, m5, m6, m7, m8, m9, m10, m11, m12, m13] 29)) := (Below.refl _ _).alloc (Nat.le_refl _) _
  have hrow := heap_alloc_new w (.cells #[m0, m1, m2, m3, m4, m5, m6, m7, m8, m9, m10, m11, m12, m13] 29)
  obtain ⟨W, hW⟩ : ∃ W, W = (w.alloc (.cells #[m0, m1, m2, m3, m4, m5, m6, m7, m8, m9, m10, m11, m12, m13] 29)) := ⟨_, rfl⟩
  have hm0 : (w.alloc (.cells #[m0, m1, m2, m3, m4, m5, m6, m7, m8, m9, m10, m11, m12, m13] 29)).cell? ⟨w.heap.size, 0, none⟩ = some m0 := by rw [cell_of_row _ w.heap.size 0 _ _ _ hrow]; rfl
  have hm1 : (w.alloc (.cells #[m0, m1, m2, m3, m4, m5, m6, m7, m8, m9, m10, m11, m12, m13] 29)).cell? ⟨w.heap.size, 1, none⟩ = some m1 := by rw [cell_of_row _ w.heap.size 1 _ _ _ hrow]; rfl
  have hm2 : (w.alloc (.cells #[m0, m1, m2, m3, m4, m5, m6, m7, m8, m9, m10, m11, m12, m13] 29)).cell? ⟨w.heap.size, 2, none⟩ = some m2 := by rw [cell_of_row _ w.heap.size 2 _ _ _ hrow]; rfl
  have hm3 : (w.alloc (.cells #[m0, m1, m2, m3, m4, m5, m6, m7, m8, m9, m10, m11, m12, m13] 29)).cell? ⟨w.heap.size, 3, none⟩ = some m3 := by rw [cell_of_row _ w.heap.size 3 _ _ _ hrow]; rfl
  have hm4 : (w.alloc (.cells #[m0, m1, m2, m3, m4, m5, m6, m7, m8, m9, m10, m11, m12, m13] 29)).cell? ⟨w.heap.size, 4, none⟩ = some m4 := by rw [cell_of_row _ w.heap.size 4 _ _ _ hrow]; rfl
  have hm5 : (w.alloc (.cells #[m0, m1, m2, m3, m4, m5, m6, m7, m8, m9, m10, m11, m12, m13] 29)).cell? ⟨w.heap.size, 5, none⟩ = some m5 := by rw [cell_of_row _ w.heap.size 5 _ _ _ hrow]; rfl
  have hm6 : (w.alloc (.cells #[m0, m1, m2, m3, m4, m5, m6, m7, m8, m9, m10, m11, m12, m13] 29)).cell? ⟨w.heap.size, 6, none⟩ = some m6 := by rw [cell_of_row _ w.heap.size 6 _ _ _ hrow]; rfl
  have hm7 : (w.alloc (.cells #[m0, m1, m2, m3, m4, m5, m6, m7, m8, m9, m10, m11, m12, m13] 29)).cell? ⟨w.heap.size, 7, none⟩ = some m7 := by rw [cell_of_row _ w.heap.size 7 _ _ _ hrow]; rfl
  have hm8 : (w.alloc (.cells #[m0, m1, m2, m3, m4, m5, m6, m7, m8, m9, m10, m11, m12, m13] 29)).cell? ⟨w.heap.size, 8, none⟩ = some m8 := by rw [cell_of_row _ w.heap.size 8 _ _ _ hrow]; rfl
  have hm9 : (w.alloc (.cells #[m0, m1, m2, m3, m4, m5, m6, m7, m8, m9, m10, m11, m12, m13] 29)).cell? ⟨w.heap.size, 9, none⟩ = some m9 := by rw [cell_of_row _ w.heap.size 9 _ _ _ hrow]; rfl
  have hm10 : (w.alloc (.cells #[m0, m1, m2, m3, m4, m5, m6, m7, m8, m9, m10, m11, m12, m13] 29)).cell? ⟨w.heap.size, 10, none⟩ = some m10 := by rw [cell_of_row _ w.heap.size 10 _ _ _ hrow]; rfl
  have hm11 : (w.alloc (.cells #[m0, m1, m2, m3, m4, m5, m6, m7, m8, m9, m10, m11, m12, m13] 29)).cell? ⟨w.heap.size, 11, none⟩ = some m11 := by rw [cell_of_row _ w.heap.size 11 _ _ _ hrow]; rfl
  have hm12 : (w.alloc (.cells #[m0, m1, m2, m3, m4, m5, m6, m7, m8, m9, m10, m11, m12, m13] 29)).cell? ⟨w.heap.size, 12, none⟩ = some m12 := by rw [cell_of_row _ w.heap.size 12 _ _ _ hrow]; rfl
  have hm13 : (w.alloc (.cells #[m0, m1, m2, m3, m4, m5, m6, m7, m8, m9, m10, m11, m12, m13] 29)).cell? ⟨w.heap.size, 13, none⟩ = some m13 := by rw [cell_of_row _ w.heap.size 13 _ _ _ hrow]; rfl
  rw [← hW] at hrow hb0
  have HR := Lib.hid (SegAt.below msgK_ok (k := msgK) (lo := 0) (hi := w.heap.size) ⟨msgK_ok.keep r (fun _ _ => rfl) (fun b hb => ⟨Nat.zero_le _, hb⟩), Nat.le_refl _⟩ hb0)
  have HS := Lib.hid s
  have HW := Lib.hid hrow
  have HB := Lib.hid hb0
  have HZW := Lib.hid (show W.heap.size = w.heap.size + 1 by rw [hW]; exact World.size_alloc _ _)
  clear hb0 hrow r s
  go_enter Tryz.func3, Tryz.ntmps3
  go_wp2_with fail
  rw [← hW]
  clear hW hm0 hm1 hm2 hm3 hm4 hm5 hm6 hm7 hm8 hm9 hm10 hm11 hm12 hm13
  refine (ownMsg_any (d := d) (xs := [m0, m1, m2, m3, m4, m5, m6, m7, m8, m9, m10, m11, m12, m13]) _ (HR.out.old msgK_ok) HS.out).mono ?_
  rintro e u1 ⟨vo, rfl, hre, hbu⟩
  have HIN := Lib.hid (show SegAt msgK u1 W.heap.size u1.heap.size vo.toList d from ⟨hre, Nat.le_refl _⟩)
  replace HR := Lib.hid (HR.out.below msgK_ok hbu)
  replace HW := Lib.hid ((hbu.block _ (row_lt HW.out)).trans HW.out)
  replace HB := Lib.hid (ext HB.out hbu)
  have hv1 := msgK_ok.len hre
  have hvz : vo.size = 14 := by rw [Array.length_toList] at hv1; exact hv1
  have HV0 := Lib.hid (show vo.toList.length = 14 by rw [Array.length_toList]; exact hvz)
  have HI := Lib.hid (show (Tryz.prog.info? 29).map (·.size) = some vo.size by rw [hvz]; exact xt_Msg.i)
  have HV1 := Lib.hid (show (#[.int .i64 0, .int .i64 0, .int .i64 0, .int .u64 0, .int .u64 0, .int .u64 0, .int .u64 0, .int .u64 0, .bool false, .slice none 0 0, .slice none 0 0, .slice none 0 0, .int .i64 0, .slice none 0 0] : Array Value).size = vo.size by rw [hvz]; rfl)
  have HV2 := Lib.hid (show vo.all (·.oneCell') = true by
    rw [Array.all_eq_true_iff_forall_mem]
    intro v hv
    exact msgK_ok.one hre v (by simpa using hv))
  have HZ1 := Lib.hid hbu.size
  clear hbu hre hv1 hvz
  have hb : Below u1.heap.size u1 ((u1.alloc (.cells #[.int .i64 0, .int .i64 0, .int .i64 0, .int .u64 0, .int .u64 0, .int .u64 0, .int .u64 0, .int .u64 0, .bool false, .slice none 0 0, .slice none 0 0, .slice none 0 0, .int .i64 0, .slice none 0 0] 29)).setRow u1.heap.size vo) := below_setRow ((Below.refl _ _).alloc (Nat.le_refl _) _) (Nat.le_refl _) _
  have HIR := Lib.hid (show ((u1.alloc (.cells #[.int .i64 0, .int .i64 0, .int .i64 0, .int .u64 0, .int .u64 0, .int .u64 0, .int .u64 0, .int .u64 0, .bool false, .slice none 0 0, .slice none 0 0, .slice none 0 0, .int .i64 0, .slice none 0 0] 29)).setRow u1.heap.size vo).heap[u1.heap.size]? = some (.cells vo 29 (0, 0)) from setRow_heap _ _ _ _ _ _ (heap_alloc_new u1 _))
  replace HR := Lib.hid (HR.out.below msgK_ok hb)
  replace HW := Lib.hid ((hb.block _ (row_lt HW.out)).trans HW.out)
  replace HIN := Lib.hid (HIN.out.below msgK_ok hb)
  replace HB := Lib.hid (ext HB.out hb)
  clear hb
  go_upto_region 2 with (with_reducible refine wpList_store_row rfl 29 (.tmp 3) (.tmp 15) rfl u1.heap.size vo rfl rfl 29 #[.int .i64 0, .int .i64 0, .int .i64 0, .int .u64 0, .int .u64 0, .int .u64 0, .int .u64 0, .int .u64 0, .bool false, .slice none 0 0, .slice none 0 0, .slice none 0 0, .int .i64 0, .slice none 0 0] (heap_alloc_new u1 _) HI.out HV1.out HV2.out ?_)
  generalize (u1.alloc (.cells #[.int .i64 0, .int .i64 0, .int .i64 0, .int .u64 0, .int .u64 0, .int .u64 0, .int .u64 0, .int .u64 0, .bool false, .slice none 0 0, .slice none 0 0, .slice none 0 0, .int .i64 0, .slice none 0 0] 29)).setRow u1.heap.size vo = u2 at *
  obtain ⟨bi, hbi⟩ : ∃ bi, bi = u1.heap.size := ⟨_, rfl⟩
  rw [← hbi] at HIR ⊢
  rw [← hbi] at HIN HZ1
  clear hbi HI HV1 HV2
  obtain ⟨il⟩ := vo
  obtain ⟨i0, i1, i2, i3, i4, i5, i6, i7, i8, i9, i10, i11, i12, i13, hil⟩ := list14' HV0.out
  have hil' : il = [i0, i1, i2, i3, i4, i5, i6, i7, i8, i9, i10, i11, i12, i13] := hil
  subst hil'
  clear hil HV0
  have hi0 : u2.cell? ⟨bi, 0, none⟩ = some i0 := by rw [cell_of_row _ bi 0 _ _ _ HIR.out]; rfl
  have hi1 : u2.cell? ⟨bi, 1, none⟩ = some i1 := by rw [cell_of_row _ bi 1 _ _ _ HIR.out]; rfl
  have hi2 : u2.cell? ⟨bi, 2, none⟩ = some i2 := by rw [cell_of_row _ bi 2 _ _ _ HIR.out]; rfl
  have hi3 : u2.cell? ⟨bi, 3, none⟩ = some i3 := by rw [cell_of_row _ bi 3 _ _ _ HIR.out]; rfl
  have hi4 : u2.cell? ⟨bi, 4, none⟩ = some i4 := by rw [cell_of_row _ bi 4 _ _ _ HIR.out]; rfl
  have hi5 : u2.cell? ⟨bi, 5, none⟩ = some i5 := by rw [cell_of_row _ bi 5 _ _ _ HIR.out]; rfl
  have hi6 : u2.cell? ⟨bi, 6, none⟩ = some i6 := by rw [cell_of_row _ bi 6 _ _ _ HIR.out]; rfl
  have hi7 : u2.cell? ⟨bi, 7, none⟩ = some i7 := by rw [cell_of_row _ bi 7 _ _ _ HIR.out]; rfl
  have hi8 : u2.cell? ⟨bi, 8, none⟩ = some i8 := by rw [cell_of_row _ bi 8 _ _ _ HIR.out]; rfl
  have hi9 : u2.cell? ⟨bi, 9, none⟩ = some i9 := by rw [cell_of_row _ bi 9 _ _ _ HIR.out]; rfl
  have hi10 : u2.cell? ⟨bi, 10, none⟩ = some i10 := by rw [cell_of_row _ bi 10 _ _ _ HIR.out]; rfl
  have hi11 : u2.cell? ⟨bi, 11, none⟩ = some i11 := by rw [cell_of_row _ bi 11 _ _ _ HIR.out]; rfl
  have hi12 : u2.cell? ⟨bi, 12, none⟩ = some i12 := by rw [cell_of_row _ bi 12 _ _ _ HIR.out]; rfl
  have hi13 : u2.cell? ⟨bi, 13, none⟩ = some i13 := by rw [cell_of_row _ bi 13 _ _ _ HIR.out]; rfl
  go_wp2_with fail
  clear hi0 hi1 hi2 hi3 hi4 hi5 hi6 hi7 hi8 hi9 hi10 hi11 hi12 hi13
  refine (msgMsg_any (xs := [i0, i1, i2, i3, i4, i5, i6, i7, i8, i9, i10, i11, i12, i13]) (d := d) _ rfl (HIN.out.old msgK_ok) (fun _ => by have := HS.out; omega)).mono ?_
  rintro e w1 ⟨hb1, ⟨hs, v, rfl, ho⟩ | ⟨hs, rfl⟩⟩
  case inr =>
    replace HR := Lib.hid (HR.out.below msgK_ok hb1)
    replace HW := Lib.hid ((hb1.block _ (row_lt HW.out)).trans HW.out)
    replace HIN := Lib.hid (HIN.out.below msgK_ok hb1)
    replace HIR := Lib.hid ((hb1.block _ (row_lt HIR.out)).trans HIR.out)
    replace HB := Lib.hid (ext HB.out hb1)
    clear hb1 hs
    go_wp2_with fail
    refine (answers3_yes _).mono ?_
    rintro e w2 ⟨rfl, hb⟩
    replace HR := Lib.hid (HR.out.below msgK_ok hb)
    replace HW := Lib.hid ((hb.block _ (row_lt HW.out)).trans HW.out)
    replace HIN := Lib.hid (HIN.out.below msgK_ok hb)
    replace HIR := Lib.hid ((hb.block _ (row_lt HIR.out)).trans HIR.out)
    replace HB := Lib.hid (ext HB.out hb)
    clear hb
    have hi0 : w2.cell? ⟨bi, 0, none⟩ = some i0 := by rw [cell_of_row _ bi 0 _ _ _ HIR.out]; rfl
    have hi1 : w2.cell? ⟨bi, 1, none⟩ = some i1 := by rw [cell_of_row _ bi 1 _ _ _ HIR.out]; rfl
    have hi2 : w2.cell? ⟨bi, 2, none⟩ = some i2 := by rw [cell_of_row _ bi 2 _ _ _ HIR.out]; rfl
    have hi3 : w2.cell? ⟨bi, 3, none⟩ = some i3 := by rw [cell_of_row _ bi 3 _ _ _ HIR.out]; rfl
    have hi4 : w2.cell? ⟨bi, 4, none⟩ = some i4 := by rw [cell_of_row _ bi 4 _ _ _ HIR.out]; rfl
    have hi5 : w2.cell? ⟨bi, 5, none⟩ = some i5 := by rw [cell_of_row _ bi 5 _ _ _ HIR.out]; rfl
    have hi6 : w2.cell? ⟨bi, 6, none⟩ = some i6 := by rw [cell_of_row _ bi 6 _ _ _ HIR.out]; rfl
    have hi7 : w2.cell? ⟨bi, 7, none⟩ = some i7 := by rw [cell_of_row _ bi 7 _ _ _ HIR.out]; rfl
    have hi8 : w2.cell? ⟨bi, 8, none⟩ = some i8 := by rw [cell_of_row _ bi 8 _ _ _ HIR.out]; rfl
    have hi9 : w2.cell? ⟨bi, 9, none⟩ = some i9 := by rw [cell_of_row _ bi 9 _ _ _ HIR.out]; rfl
    have hi10 : w2.cell? ⟨bi, 10, none⟩ = some i10 := by rw [cell_of_row _ bi 10 _ _ _ HIR.out]; rfl
    have hi11 : w2.cell? ⟨bi, 11, none⟩ = some i11 := by rw [cell_of_row _ bi 11 _ _ _ HIR.out]; rfl
    have hi12 : w2.cell? ⟨bi, 12, none⟩ = some i12 := by rw [cell_of_row _ bi 12 _ _ _ HIR.out]; rfl
    have hi13 : w2.cell? ⟨bi, 13, none⟩ = some i13 := by rw [cell_of_row _ bi 13 _ _ _ HIR.out]; rfl
    have hm0 : w2.cell? ⟨w.heap.size, 0, none⟩ = some m0 := by rw [cell_of_row _ w.heap.size 0 _ _ _ HW.out]; rfl
    have hm1 : w2.cell? ⟨w.heap.size, 1, none⟩ = some m1 := by rw [cell_of_row _ w.heap.size 1 _ _ _ HW.out]; rfl
    have hm2 : w2.cell? ⟨w.heap.size, 2, none⟩ = some m2 := by rw [cell_of_row _ w.heap.size 2 _ _ _ HW.out]; rfl
    have hm3 : w2.cell? ⟨w.heap.size, 3, none⟩ = some m3 := by rw [cell_of_row _ w.heap.size 3 _ _ _ HW.out]; rfl
    have hm4 : w2.cell? ⟨w.heap.size, 4, none⟩ = some m4 := by rw [cell_of_row _ w.heap.size 4 _ _ _ HW.out]; rfl
    have hm5 : w2.cell? ⟨w.heap.size, 5, none⟩ = some m5 := by rw [cell_of_row _ w.heap.size 5 _ _ _ HW.out]; rfl
    have hm6 : w2.cell? ⟨w.heap.size, 6, none⟩ = some m6 := by rw [cell_of_row _ w.heap.size 6 _ _ _ HW.out]; rfl
    have hm7 : w2.cell? ⟨w.heap.size, 7, none⟩ = some m7 := by rw [cell_of_row _ w.heap.size 7 _ _ _ HW.out]; rfl
    have hm8 : w2.cell? ⟨w.heap.size, 8, none⟩ = some m8 := by rw [cell_of_row _ w.heap.size 8 _ _ _ HW.out]; rfl
    have hm9 : w2.cell? ⟨w.heap.size, 9, none⟩ = some m9 := by rw [cell_of_row _ w.heap.size 9 _ _ _ HW.out]; rfl
    have hm10 : w2.cell? ⟨w.heap.size, 10, none⟩ = some m10 := by rw [cell_of_row _ w.heap.size 10 _ _ _ HW.out]; rfl
    have hm11 : w2.cell? ⟨w.heap.size, 11, none⟩ = some m11 := by rw [cell_of_row _ w.heap.size 11 _ _ _ HW.out]; rfl
    have hm12 : w2.cell? ⟨w.heap.size, 12, none⟩ = some m12 := by rw [cell_of_row _ w.heap.size 12 _ _ _ HW.out]; rfl
    have hm13 : w2.cell? ⟨w.heap.size, 13, none⟩ = some m13 := by rw [cell_of_row _ w.heap.size 13 _ _ _ HW.out]; rfl
    have hsr := sameM_refl (HIN.out.old msgK_ok)
    have hcall := same_msg w2 (HIN.out.old msgK_ok) (HR.out.old msgK_ok)
    rw [hsr] at hcall
    have HCALL := Lib.hid hcall
    clear hsr hcall
    go_wp2_with fail
    clear hi0 hi1 hi2 hi3 hi4 hi5 hi6 hi7 hi8 hi9 hi10 hi11 hi12 hi13 hm0 hm1 hm2 hm3 hm4 hm5 hm6 hm7 hm8 hm9 hm10 hm11 hm12 hm13
    refine HCALL.out.mono ?_
    rintro e w3 ⟨rfl, hb⟩
    replace HR := Lib.hid (HR.out.below msgK_ok hb)
    replace HW := Lib.hid ((hb.block _ (row_lt HW.out)).trans HW.out)
    replace HIN := Lib.hid (HIN.out.below msgK_ok hb)
    replace HIR := Lib.hid ((hb.block _ (row_lt HIR.out)).trans HIR.out)
    replace HB := Lib.hid (ext HB.out hb)
    clear hb HCALL
    go_wp2_with fail
    refine (answers3_yes _).mono ?_
    rintro e w4 ⟨rfl, hb⟩
    replace HR := Lib.hid (HR.out.below msgK_ok hb)
    replace HW := Lib.hid ((hb.block _ (row_lt HW.out)).trans HW.out)
    replace HIN := Lib.hid (HIN.out.below msgK_ok hb)
    replace HIR := Lib.hid ((hb.block _ (row_lt HIR.out)).trans HIR.out)
    replace HB := Lib.hid (ext HB.out hb)
    clear hb
    have hi0 : w4.cell? ⟨bi, 0, none⟩ = some i0 := by rw [cell_of_row _ bi 0 _ _ _ HIR.out]; rfl
    have hi1 : w4.cell? ⟨bi, 1, none⟩ = some i1 := by rw [cell_of_row _ bi 1 _ _ _ HIR.out]; rfl
    have hi2 : w4.cell? ⟨bi, 2, none⟩ = some i2 := by rw [cell_of_row _ bi 2 _ _ _ HIR.out]; rfl
    have hi3 : w4.cell? ⟨bi, 3, none⟩ = some i3 := by rw [cell_of_row _ bi 3 _ _ _ HIR.out]; rfl
    have hi4 : w4.cell? ⟨bi, 4, none⟩ = some i4 := by rw [cell_of_row _ bi 4 _ _ _ HIR.out]; rfl
    have hi5 : w4.cell? ⟨bi, 5, none⟩ = some i5 := by rw [cell_of_row _ bi 5 _ _ _ HIR.out]; rfl
    have hi6 : w4.cell? ⟨bi, 6, none⟩ = some i6 := by rw [cell_of_row _ bi 6 _ _ _ HIR.out]; rfl
    have hi7 : w4.cell? ⟨bi, 7, none⟩ = some i7 := by rw [cell_of_row _ bi 7 _ _ _ HIR.out]; rfl
    have hi8 : w4.cell? ⟨bi, 8, none⟩ = some i8 := by rw [cell_of_row _ bi 8 _ _ _ HIR.out]; rfl
    have hi9 : w4.cell? ⟨bi, 9, none⟩ = some i9 := by rw [cell_of_row _ bi 9 _ _ _ HIR.out]; rfl
    have hi10 : w4.cell? ⟨bi, 10, none⟩ = some i10 := by rw [cell_of_row _ bi 10 _ _ _ HIR.out]; rfl
    have hi11 : w4.cell? ⟨bi, 11, none⟩ = some i11 := by rw [cell_of_row _ bi 11 _ _ _ HIR.out]; rfl
    have hi12 : w4.cell? ⟨bi, 12, none⟩ = some i12 := by rw [cell_of_row _ bi 12 _ _ _ HIR.out]; rfl
    have hi13 : w4.cell? ⟨bi, 13, none⟩ = some i13 := by rw [cell_of_row _ bi 13 _ _ _ HIR.out]; rfl
    have hm0 : w4.cell? ⟨w.heap.size, 0, none⟩ = some m0 := by rw [cell_of_row _ w.heap.size 0 _ _ _ HW.out]; rfl
    have hm1 : w4.cell? ⟨w.heap.size, 1, none⟩ = some m1 := by rw [cell_of_row _ w.heap.size 1 _ _ _ HW.out]; rfl
    have hm2 : w4.cell? ⟨w.heap.size, 2, none⟩ = some m2 := by rw [cell_of_row _ w.heap.size 2 _ _ _ HW.out]; rfl
    have hm3 : w4.cell? ⟨w.heap.size, 3, none⟩ = some m3 := by rw [cell_of_row _ w.heap.size 3 _ _ _ HW.out]; rfl
    have hm4 : w4.cell? ⟨w.heap.size, 4, none⟩ = some m4 := by rw [cell_of_row _ w.heap.size 4 _ _ _ HW.out]; rfl
    have hm5 : w4.cell? ⟨w.heap.size, 5, none⟩ = some m5 := by rw [cell_of_row _ w.heap.size 5 _ _ _ HW.out]; rfl
    have hm6 : w4.cell? ⟨w.heap.size, 6, none⟩ = some m6 := by rw [cell_of_row _ w.heap.size 6 _ _ _ HW.out]; rfl
    have hm7 : w4.cell? ⟨w.heap.size, 7, none⟩ = some m7 := by rw [cell_of_row _ w.heap.size 7 _ _ _ HW.out]; rfl
    have hm8 : w4.cell? ⟨w.heap.size, 8, none⟩ = some m8 := by rw [cell_of_row _ w.heap.size 8 _ _ _ HW.out]; rfl
    have hm9 : w4.cell? ⟨w.heap.size, 9, none⟩ = some m9 := by rw [cell_of_row _ w.heap.size 9 _ _ _ HW.out]; rfl
    have hm10 : w4.cell? ⟨w.heap.size, 10, none⟩ = some m10 := by rw [cell_of_row _ w.heap.size 10 _ _ _ HW.out]; rfl
    have hm11 : w4.cell? ⟨w.heap.size, 11, none⟩ = some m11 := by rw [cell_of_row _ w.heap.size 11 _ _ _ HW.out]; rfl
    have hm12 : w4.cell? ⟨w.heap.size, 12, none⟩ = some m12 := by rw [cell_of_row _ w.heap.size 12 _ _ _ HW.out]; rfl
    have hm13 : w4.cell? ⟨w.heap.size, 13, none⟩ = some m13 := by rw [cell_of_row _ w.heap.size 13 _ _ _ HW.out]; rfl
    have hsr := sameM_refl (HIN.out.old msgK_ok)
    have hcall := same_msg w4 (HIN.out.old msgK_ok) (HR.out.old msgK_ok)
    rw [hsr] at hcall
    have HCALL := Lib.hid hcall
    clear hsr hcall
    go_wp2_with fail
    clear hi0 hi1 hi2 hi3 hi4 hi5 hi6 hi7 hi8 hi9 hi10 hi11 hi12 hi13 hm0 hm1 hm2 hm3 hm4 hm5 hm6 hm7 hm8 hm9 hm10 hm11 hm12 hm13
    refine HCALL.out.mono ?_
    rintro e w5 ⟨rfl, hb⟩
    replace HR := Lib.hid (HR.out.below msgK_ok hb)
    replace HW := Lib.hid ((hb.block _ (row_lt HW.out)).trans HW.out)
    replace HIN := Lib.hid (HIN.out.below msgK_ok hb)
    replace HIR := Lib.hid ((hb.block _ (row_lt HIR.out)).trans HIR.out)
    replace HB := Lib.hid (ext HB.out hb)
    clear hb HCALL
    go_wp2
    go_ret
    exact ⟨rfl, HB.out⟩
  case inl =>
    have HFI := Lib.hid (sure_msg (HR.out.old msgK_ok) hs)
    have HSD := Lib.hid hs
    have HU2 := Lib.hid (row_lt HIR.out)
    replace HR := Lib.hid (HR.out.below msgK_ok hb1)
    replace HW := Lib.hid ((hb1.block _ (row_lt HW.out)).trans HW.out)
    replace HIN := Lib.hid (HIN.out.below msgK_ok hb1)
    replace HIR := Lib.hid ((hb1.block _ (row_lt HIR.out)).trans HIR.out)
    replace HB := Lib.hid (ext HB.out hb1)
    have hpos := msg_put_pos HFI.out
    obtain ⟨A, bc, rfl, hbc, _, _, _, hblk⟩ := ho.form
    obtain ⟨gB, rfl, hg1, hg2, -⟩ := own_head ho hpos
    obtain ⟨nb, hnb⟩ : ∃ nb, (msgK.put d).length = nb := ⟨_, rfl⟩
    have hsm := HS.out
    have HOB : Hid (∃ lq, lq.length = nb ∧ Own u2.heap.size w1 (.slice (some ⟨gB, 0, none⟩) nb bc) lq) := Lib.hid ⟨msgK.put d, hnb, by rw [← hnb]; exact ho⟩
    have HBB := Lib.hid (show SegB w1 u2.heap.size w1.heap.size (some ⟨gB, 0, none⟩) (msgK.put d) from ⟨LiesS.own ho, Nat.le_refl _⟩)
    have HG := Lib.hid (And.intro hg1 (And.intro hg2 HU2.out))
    rw [hnb] at hpos hbc hsm ⊢
    have HNB := Lib.hid hnb.symm
    clear hs hb1 ho hnb hblk HU2
    go_wp2_with fail
    refine (answers3_yes _).mono ?_
    rintro e w2 ⟨rfl, hb⟩
    replace HR := Lib.hid (HR.out.below msgK_ok hb)
    replace HW := Lib.hid ((hb.block _ (row_lt HW.out)).trans HW.out)
    replace HIN := Lib.hid (HIN.out.below msgK_ok hb)
    replace HIR := Lib.hid ((hb.block _ (row_lt HIR.out)).trans HIR.out)
    replace HB := Lib.hid (ext HB.out hb)
    replace HBB := Lib.hid (HBB.out.below hb)
    replace HOB := Lib.hid ((fun ⟨lq, h1, h2⟩ => ⟨lq, h1, h2.kept hb (Nat.le_refl _)⟩ : (∃ lq, lq.length = nb ∧ Own u2.heap.size _ (.slice (some ⟨gB, 0, none⟩) nb bc) lq) → (∃ lq, lq.length = nb ∧ Own u2.heap.size _ (.slice (some ⟨gB, 0, none⟩) nb bc) lq)) HOB.out)
    clear hb
    have hi0 : w2.cell? ⟨bi, 0, none⟩ = some i0 := by rw [cell_of_row _ bi 0 _ _ _ HIR.out]; rfl
    have hi1 : w2.cell? ⟨bi, 1, none⟩ = some i1 := by rw [cell_of_row _ bi 1 _ _ _ HIR.out]; rfl
    have hi2 : w2.cell? ⟨bi, 2, none⟩ = some i2 := by rw [cell_of_row _ bi 2 _ _ _ HIR.out]; rfl
    have hi3 : w2.cell? ⟨bi, 3, none⟩ = some i3 := by rw [cell_of_row _ bi 3 _ _ _ HIR.out]; rfl
    have hi4 : w2.cell? ⟨bi, 4, none⟩ = some i4 := by rw [cell_of_row _ bi 4 _ _ _ HIR.out]; rfl
    have hi5 : w2.cell? ⟨bi, 5, none⟩ = some i5 := by rw [cell_of_row _ bi 5 _ _ _ HIR.out]; rfl
    have hi6 : w2.cell? ⟨bi, 6, none⟩ = some i6 := by rw [cell_of_row _ bi 6 _ _ _ HIR.out]; rfl
    have hi7 : w2.cell? ⟨bi, 7, none⟩ = some i7 := by rw [cell_of_row _ bi 7 _ _ _ HIR.out]; rfl
    have hi8 : w2.cell? ⟨bi, 8, none⟩ = some i8 := by rw [cell_of_row _ bi 8 _ _ _ HIR.out]; rfl
    have hi9 : w2.cell? ⟨bi, 9, none⟩ = some i9 := by rw [cell_of_row _ bi 9 _ _ _ HIR.out]; rfl
    have hi10 : w2.cell? ⟨bi, 10, none⟩ = some i10 := by rw [cell_of_row _ bi 10 _ _ _ HIR.out]; rfl
    have hi11 : w2.cell? ⟨bi, 11, none⟩ = some i11 := by rw [cell_of_row _ bi 11 _ _ _ HIR.out]; rfl
    have hi12 : w2.cell? ⟨bi, 12, none⟩ = some i12 := by rw [cell_of_row _ bi 12 _ _ _ HIR.out]; rfl
    have hi13 : w2.cell? ⟨bi, 13, none⟩ = some i13 := by rw [cell_of_row _ bi 13 _ _ _ HIR.out]; rfl
    have hm0 : w2.cell? ⟨w.heap.size, 0, none⟩ = some m0 := by rw [cell_of_row _ w.heap.size 0 _ _ _ HW.out]; rfl
    have hm1 : w2.cell? ⟨w.heap.size, 1, none⟩ = some m1 := by rw [cell_of_row _ w.heap.size 1 _ _ _ HW.out]; rfl
    have hm2 : w2.cell? ⟨w.heap.size, 2, none⟩ = some m2 := by rw [cell_of_row _ w.heap.size 2 _ _ _ HW.out]; rfl
    have hm3 : w2.cell? ⟨w.heap.size, 3, none⟩ = some m3 := by rw [cell_of_row _ w.heap.size 3 _ _ _ HW.out]; rfl
    have hm4 : w2.cell? ⟨w.heap.size, 4, none⟩ = some m4 := by rw [cell_of_row _ w.heap.size 4 _ _ _ HW.out]; rfl
    have hm5 : w2.cell? ⟨w.heap.size, 5, none⟩ = some m5 := by rw [cell_of_row _ w.heap.size 5 _ _ _ HW.out]; rfl
    have hm6 : w2.cell? ⟨w.heap.size, 6, none⟩ = some m6 := by rw [cell_of_row _ w.heap.size 6 _ _ _ HW.out]; rfl
    have hm7 : w2.cell? ⟨w.heap.size, 7, none⟩ = some m7 := by rw [cell_of_row _ w.heap.size 7 _ _ _ HW.out]; rfl
    have hm8 : w2.cell? ⟨w.heap.size, 8, none⟩ = some m8 := by rw [cell_of_row _ w.heap.size 8 _ _ _ HW.out]; rfl
    have hm9 : w2.cell? ⟨w.heap.size, 9, none⟩ = some m9 := by rw [cell_of_row _ w.heap.size 9 _ _ _ HW.out]; rfl
    have hm10 : w2.cell? ⟨w.heap.size, 10, none⟩ = some m10 := by rw [cell_of_row _ w.heap.size 10 _ _ _ HW.out]; rfl
    have hm11 : w2.cell? ⟨w.heap.size, 11, none⟩ = some m11 := by rw [cell_of_row _ w.heap.size 11 _ _ _ HW.out]; rfl
    have hm12 : w2.cell? ⟨w.heap.size, 12, none⟩ = some m12 := by rw [cell_of_row _ w.heap.size 12 _ _ _ HW.out]; rfl
    have hm13 : w2.cell? ⟨w.heap.size, 13, none⟩ = some m13 := by rw [cell_of_row _ w.heap.size 13 _ _ _ HW.out]; rfl
    have hsr := sameM_refl (HIN.out.old msgK_ok)
    have hcall := same_msg w2 (HIN.out.old msgK_ok) (HR.out.old msgK_ok)
    rw [hsr] at hcall
    have HCALL := Lib.hid hcall
    clear hsr hcall
    go_wp2_with fail
    clear hi0 hi1 hi2 hi3 hi4 hi5 hi6 hi7 hi8 hi9 hi10 hi11 hi12 hi13 hm0 hm1 hm2 hm3 hm4 hm5 hm6 hm7 hm8 hm9 hm10 hm11 hm12 hm13
    refine HCALL.out.mono ?_
    rintro e w3 ⟨rfl, hb⟩
    replace HR := Lib.hid (HR.out.below msgK_ok hb)
    replace HW := Lib.hid ((hb.block _ (row_lt HW.out)).trans HW.out)
    replace HIN := Lib.hid (HIN.out.below msgK_ok hb)
    replace HIR := Lib.hid ((hb.block _ (row_lt HIR.out)).trans HIR.out)
    replace HB := Lib.hid (ext HB.out hb)
    replace HBB := Lib.hid (HBB.out.below hb)
    replace HOB := Lib.hid ((fun ⟨lq, h1, h2⟩ => ⟨lq, h1, h2.kept hb (Nat.le_refl _)⟩ : (∃ lq, lq.length = nb ∧ Own u2.heap.size _ (.slice (some ⟨gB, 0, none⟩) nb bc) lq) → (∃ lq, lq.length = nb ∧ Own u2.heap.size _ (.slice (some ⟨gB, 0, none⟩) nb bc) lq)) HOB.out)
    clear hb HCALL
    go_wp2_with fail
    refine (msgToMsg_free w3 HNB.out hbc (by omega) HBB.out.old).mono ?_
    rintro e w4 hrd
    obtain ⟨vs, rfl, hv1, hv2, hrx, hb⟩ := ReadsKF.good msgK_ok hrd (msgK_laws.whole HFI.out) HSD.out
    have HX := Lib.hid (show SegAt msgK w4 w3.heap.size w4.heap.size vs.toList d from ⟨msgK_ok.keep hrx (fun _ _ => rfl) (fun _ hb => hb.1), Nat.le_refl _⟩)
    have HRX := Lib.hid hrx
    have HZ3 := Lib.hid (show w1.heap.size ≤ w3.heap.size from HBB.out.le)
    have HI := Lib.hid (show (Tryz.prog.info? 29).map (·.size) = some vs.size by rw [hv1]; exact xt_Msg.i)
    have HV1 := Lib.hid (show (#[.int .i64 0, .int .i64 0, .int .i64 0, .int .u64 0, .int .u64 0, .int .u64 0, .int .u64 0, .int .u64 0, .bool false, .slice none 0 0, .slice none 0 0, .slice none 0 0, .int .i64 0, .slice none 0 0] : Array Value).size = vs.size by rw [hv1]; rfl)
    have HV2 := Lib.hid hv2
    have HVX := Lib.hid (show vs.toList.length = 14 by rw [Array.length_toList, hv1]; rfl)
    have HZ4 := Lib.hid hb.size
    replace HR := Lib.hid (HR.out.below msgK_ok hb)
    replace HW := Lib.hid ((hb.block _ (row_lt HW.out)).trans HW.out)
    replace HIN := Lib.hid (HIN.out.below msgK_ok hb)
    replace HIR := Lib.hid ((hb.block _ (row_lt HIR.out)).trans HIR.out)
    replace HB := Lib.hid (ext HB.out hb)
    replace HOB := Lib.hid ((fun ⟨lq, h1, h2⟩ => ⟨lq, h1, h2.kept hb (Nat.le_refl _)⟩ : (∃ lq, lq.length = nb ∧ Own u2.heap.size _ (.slice (some ⟨gB, 0, none⟩) nb bc) lq) → (∃ lq, lq.length = nb ∧ Own u2.heap.size _ (.slice (some ⟨gB, 0, none⟩) nb bc) lq)) HOB.out)
    clear hrd hv1 hv2 hrx hb HBB
    have hb : Below w4.heap.size w4 ((w4.alloc (.cells #[.int .i64 0, .int .i64 0, .int .i64 0, .int .u64 0, .int .u64 0, .int .u64 0, .int .u64 0, .int .u64 0, .bool false, .slice none 0 0, .slice none 0 0, .slice none 0 0, .int .i64 0, .slice none 0 0] 29)).setRow w4.heap.size vs) := below_setRow ((Below.refl _ _).alloc (Nat.le_refl _) _) (Nat.le_refl _) _
    have HXR := Lib.hid (show ((w4.alloc (.cells #[.int .i64 0, .int .i64 0, .int .i64 0, .int .u64 0, .int .u64 0, .int .u64 0, .int .u64 0, .int .u64 0, .bool false, .slice none 0 0, .slice none 0 0, .slice none 0 0, .int .i64 0, .slice none 0 0] 29)).setRow w4.heap.size vs).heap[w4.heap.size]? = some (.cells vs 29 (0, 0)) from setRow_heap _ _ _ _ _ _ (heap_alloc_new w4 _))
    replace HR := Lib.hid (HR.out.below msgK_ok hb)
    replace HW := Lib.hid ((hb.block _ (row_lt HW.out)).trans HW.out)
    replace HIN := Lib.hid (HIN.out.below msgK_ok hb)
    replace HIR := Lib.hid ((hb.block _ (row_lt HIR.out)).trans HIR.out)
    replace HX := Lib.hid (HX.out.below msgK_ok hb)
    replace HB := Lib.hid (ext HB.out hb)
    replace HOB := Lib.hid ((fun ⟨lq, h1, h2⟩ => ⟨lq, h1, h2.kept hb (Nat.le_refl _)⟩ : (∃ lq, lq.length = nb ∧ Own u2.heap.size _ (.slice (some ⟨gB, 0, none⟩) nb bc) lq) → (∃ lq, lq.length = nb ∧ Own u2.heap.size _ (.slice (some ⟨gB, 0, none⟩) nb bc) lq)) HOB.out)
    have HBK := Lib.hid hb
    clear hb
    go_upto_region 6 with (with_reducible refine wpList_store_row rfl 29 (.tmp 6) (.tmp 42) rfl w4.heap.size vs rfl rfl 29 #[.int .i64 0, .int .i64 0, .int .i64 0, .int .u64 0, .int .u64 0, .int .u64 0, .int .u64 0, .int .u64 0, .bool false, .slice none 0 0, .slice none 0 0, .slice none 0 0, .int .i64 0, .slice none 0 0] (heap_alloc_new w4 _) HI.out HV1.out HV2.out ?_)
    generalize (w4.alloc (.cells #[.int .i64 0, .int .i64 0, .int .i64 0, .int .u64 0, .int .u64 0, .int .u64 0, .int .u64 0, .int .u64 0, .bool false, .slice none 0 0, .slice none 0 0, .slice none 0 0, .int .i64 0, .slice none 0 0] 29)).setRow w4.heap.size vs = w5 at *
    obtain ⟨bx, hbx⟩ : ∃ bx, bx = w4.heap.size := ⟨_, rfl⟩
    rw [← hbx] at HXR ⊢
    obtain ⟨vl⟩ := vs
    obtain ⟨x0, x1, x2, x3, x4, x5, x6, x7, x8, x9, x10, x11, x12, x13, hxl⟩ := list14' HVX.out
    have hxl' : vl = [x0, x1, x2, x3, x4, x5, x6, x7, x8, x9, x10, x11, x12, x13] := hxl
    subst hxl'
    clear hxl HVX
    obtain ⟨AE, en, ce, he9, hen1, hen2, hen3⟩ := entries_at HRX.out
    subst he9
    have HEN := Lib.hid (show ∃ gE oE, 0 < en → AE = some ⟨gE, oE, none⟩ ∧ w3.heap.size ≤ gE ∧ gE < w4.heap.size ∧ ∃ cs t, w4.heap[gE]? = some (.cells cs t (0, 0)) ∧ oE + en * 5 ≤ cs.size from by
      by_cases h0 : 0 < en
      · obtain ⟨g, o, h1, ⟨h2, cs, t, h3⟩, h4⟩ := hen3 h0
        refine ⟨g, o, fun _ => ⟨h1, h2.1, h2.2, cs, t, h3, ?_⟩⟩
        obtain ⟨u, hu⟩ := h4 (en - 1) 4 (by omega) (by omega)
        rw [cell_of_row w4 g _ _ _ _ h3] at hu
        have := (Array.getElem?_eq_some_iff.1 hu).1
        omega
      · exact ⟨0, 0, fun h => absurd h h0⟩)
    clear hen3 HRX
    obtain ⟨gE, oE, hE⟩ := HEN.out
    have HE := Lib.hid (fun hn => (hE hn).1)
    have HEZ := Lib.hid (fun hn => And.intro (hE hn).2.1 (hE hn).2.2.1)
    have HER : Hid (EntRow w5 gE oE en) := Lib.hid (EntRow.below (fun hn => (hE hn).2.2.2) HBK.out)
    clear hE HEN HBK
    have HZ5 := Lib.hid (row_lt HXR.out)
    rw [← hbx] at HX HZ4
    rw [← hbx] at HEZ
    clear hbx HI HV1 HV2
    go_wp2
    go_loopw [8] (fun i wr => ∃ (j : Nat) (lq : List UInt8), j ≤ nb ∧ i = .int .i64 (j : Int) ∧ lq.length = nb ∧ Own u2.heap.size wr (.slice (some ⟨gB, 0, none⟩) nb bc) lq ∧ Turn gB (gB + 1) w5 wr) (fun i _ => nb - (intOf i).toNat)
    case atStart =>
      obtain ⟨lq, h1, h2⟩ := HOB.out
      exact ⟨0, lq, Nat.zero_le _, rfl, h1, h2, Turn.refl _ _ _⟩
    case round =>
      clear HOB
      obtain ⟨j, lq, hj, rfl, hlq, how, htn⟩ := hrel
      by_cases hlt : j < nb
      · have hlti : (j : Int) < (nb : Int) := by omega
        obtain ⟨yb, hcj⟩ : ∃ yb, wr.cell? ⟨gB, j, none⟩ = some yb := ⟨_, own_cell how (j := j) (by omega)⟩
        have hfj := own_free how hlq.symm j
        have HOS := Lib.hid (own_set how hlq.symm j 99)
        have HTN := Lib.hid htn
        have HLQ := Lib.hid hlq
        clear how htn hlq
        go_wp2
        go_roundw
        case rel => exact ⟨j + 1, lq.set j 99, by omega, by go_num, by rw [List.length_set]; exact HLQ.out, HOS.out.1, HTN.out.set (Nat.le_refl _) (Nat.lt_succ_self _) _ _⟩
        case measure => simp [intOf]; omega
      · have hlti : ¬ (j : Int) < (nb : Int) := by omega
        have z1 := HG.out
        have z2 := HZW.out
        have z3 := HZ1.out
        have z4 := HZ3.out
        have z5 := HZ4.out
        have z6 := HZ5.out
        replace HR := Lib.hid (HR.out.turn msgK_ok htn (.inl (by omega)))
        replace HW := Lib.hid ((htn.block _ (row_lt HW.out) (.inl (by omega))).trans HW.out)
        replace HIN := Lib.hid (HIN.out.turn msgK_ok htn (.inl (by omega)))
        replace HIR := Lib.hid ((htn.block _ (row_lt HIR.out) (.inl (by omega))).trans HIR.out)
        replace HX := Lib.hid (HX.out.turn msgK_ok htn (.inr (by omega)))
        replace HXR := Lib.hid ((htn.block _ (row_lt HXR.out) (.inr (by omega))).trans HXR.out)
        replace HER := Lib.hid (HER.out.turn htn (fun hn => .inr (by have := HEZ.out hn; omega)))
        replace HB := Lib.hid (htn.below HB.out (by omega) (by have := HB.out.size; omega))
        have HZ6 := Lib.hid htn.size
        clear how htn hlq z1 z2 z3 z4 z5 z6
        obtain ⟨w6, hw6⟩ : ∃ w6, w6 = wr := ⟨_, rfl⟩
        rw [← hw6] at HR HW HIN HIR HX HXR HER HB HZ6 ⊢
        clear hw6
        have hx0 : w6.cell? ⟨bx, 0, none⟩ = some x0 := by rw [cell_of_row _ bx 0 _ _ _ HXR.out]; rfl
        have hx1 : w6.cell? ⟨bx, 1, none⟩ = some x1 := by rw [cell_of_row _ bx 1 _ _ _ HXR.out]; rfl
        have hx2 : w6.cell? ⟨bx, 2, none⟩ = some x2 := by rw [cell_of_row _ bx 2 _ _ _ HXR.out]; rfl
        have hx3 : w6.cell? ⟨bx, 3, none⟩ = some x3 := by rw [cell_of_row _ bx 3 _ _ _ HXR.out]; rfl
        have hx4 : w6.cell? ⟨bx, 4, none⟩ = some x4 := by rw [cell_of_row _ bx 4 _ _ _ HXR.out]; rfl
        have hx5 : w6.cell? ⟨bx, 5, none⟩ = some x5 := by rw [cell_of_row _ bx 5 _ _ _ HXR.out]; rfl
        have hx6 : w6.cell? ⟨bx, 6, none⟩ = some x6 := by rw [cell_of_row _ bx 6 _ _ _ HXR.out]; rfl
        have hx7 : w6.cell? ⟨bx, 7, none⟩ = some x7 := by rw [cell_of_row _ bx 7 _ _ _ HXR.out]; rfl
        have hx8 : w6.cell? ⟨bx, 8, none⟩ = some x8 := by rw [cell_of_row _ bx 8 _ _ _ HXR.out]; rfl
        have hx9 : w6.cell? ⟨bx, 9, none⟩ = some (.slice AE en ce) := by rw [cell_of_row _ bx 9 _ _ _ HXR.out]; rfl
        have hx10 : w6.cell? ⟨bx, 10, none⟩ = some x10 := by rw [cell_of_row _ bx 10 _ _ _ HXR.out]; rfl
        have hx11 : w6.cell? ⟨bx, 11, none⟩ = some x11 := by rw [cell_of_row _ bx 11 _ _ _ HXR.out]; rfl
        have hx12 : w6.cell? ⟨bx, 12, none⟩ = some x12 := by rw [cell_of_row _ bx 12 _ _ _ HXR.out]; rfl
        have hx13 : w6.cell? ⟨bx, 13, none⟩ = some x13 := by rw [cell_of_row _ bx 13 _ _ _ HXR.out]; rfl
        have hm0 : w6.cell? ⟨w.heap.size, 0, none⟩ = some m0 := by rw [cell_of_row _ w.heap.size 0 _ _ _ HW.out]; rfl
        have hm1 : w6.cell? ⟨w.heap.size, 1, none⟩ = some m1 := by rw [cell_of_row _ w.heap.size 1 _ _ _ HW.out]; rfl
        have hm2 : w6.cell? ⟨w.heap.size, 2, none⟩ = some m2 := by rw [cell_of_row _ w.heap.size 2 _ _ _ HW.out]; rfl
        have hm3 : w6.cell? ⟨w.heap.size, 3, none⟩ = some m3 := by rw [cell_of_row _ w.heap.size 3 _ _ _ HW.out]; rfl
        have hm4 : w6.cell? ⟨w.heap.size, 4, none⟩ = some m4 := by rw [cell_of_row _ w.heap.size 4 _ _ _ HW.out]; rfl
        have hm5 : w6.cell? ⟨w.heap.size, 5, none⟩ = some m5 := by rw [cell_of_row _ w.heap.size 5 _ _ _ HW.out]; rfl
        have hm6 : w6.cell? ⟨w.heap.size, 6, none⟩ = some m6 := by rw [cell_of_row _ w.heap.size 6 _ _ _ HW.out]; rfl
        have hm7 : w6.cell? ⟨w.heap.size, 7, none⟩ = some m7 := by rw [cell_of_row _ w.heap.size 7 _ _ _ HW.out]; rfl
        have hm8 : w6.cell? ⟨w.heap.size, 8, none⟩ = some m8 := by rw [cell_of_row _ w.heap.size 8 _ _ _ HW.out]; rfl
        have hm9 : w6.cell? ⟨w.heap.size, 9, none⟩ = some m9 := by rw [cell_of_row _ w.heap.size 9 _ _ _ HW.out]; rfl
        have hm10 : w6.cell? ⟨w.heap.size, 10, none⟩ = some m10 := by rw [cell_of_row _ w.heap.size 10 _ _ _ HW.out]; rfl
        have hm11 : w6.cell? ⟨w.heap.size, 11, none⟩ = some m11 := by rw [cell_of_row _ w.heap.size 11 _ _ _ HW.out]; rfl
        have hm12 : w6.cell? ⟨w.heap.size, 12, none⟩ = some m12 := by rw [cell_of_row _ w.heap.size 12 _ _ _ HW.out]; rfl
        have hm13 : w6.cell? ⟨w.heap.size, 13, none⟩ = some m13 := by rw [cell_of_row _ w.heap.size 13 _ _ _ HW.out]; rfl
        have hsr := sameM_refl (HX.out.old msgK_ok)
        have hcall := same_msg w6 (HX.out.old msgK_ok) (HR.out.old msgK_ok)
        rw [hsr] at hcall
        have HCALL := Lib.hid hcall
        clear hsr hcall
        go_wp2_with fail
        clear hx0 hx1 hx2 hx3 hx4 hx5 hx6 hx7 hx8 hx9 hx10 hx11 hx12 hx13 hm0 hm1 hm2 hm3 hm4 hm5 hm6 hm7 hm8 hm9 hm10 hm11 hm12 hm13
        refine HCALL.out.mono ?_
        rintro e w7 ⟨rfl, hb⟩
        replace HR := Lib.hid (HR.out.below msgK_ok hb)
        replace HW := Lib.hid ((hb.block _ (row_lt HW.out)).trans HW.out)
        replace HIN := Lib.hid (HIN.out.below msgK_ok hb)
        replace HIR := Lib.hid ((hb.block _ (row_lt HIR.out)).trans HIR.out)
        replace HX := Lib.hid (HX.out.below msgK_ok hb)
        replace HXR := Lib.hid ((hb.block _ (row_lt HXR.out)).trans HXR.out)
        replace HB := Lib.hid (ext HB.out hb)
        replace HER := Lib.hid (HER.out.below hb)
        clear hb HCALL
        have hi0 : w7.cell? ⟨bi, 0, none⟩ = some i0 := by rw [cell_of_row _ bi 0 _ _ _ HIR.out]; rfl
        have hi1 : w7.cell? ⟨bi, 1, none⟩ = some i1 := by rw [cell_of_row _ bi 1 _ _ _ HIR.out]; rfl
        have hi2 : w7.cell? ⟨bi, 2, none⟩ = some i2 := by rw [cell_of_row _ bi 2 _ _ _ HIR.out]; rfl
        have hi3 : w7.cell? ⟨bi, 3, none⟩ = some i3 := by rw [cell_of_row _ bi 3 _ _ _ HIR.out]; rfl
        have hi4 : w7.cell? ⟨bi, 4, none⟩ = some i4 := by rw [cell_of_row _ bi 4 _ _ _ HIR.out]; rfl
        have hi5 : w7.cell? ⟨bi, 5, none⟩ = some i5 := by rw [cell_of_row _ bi 5 _ _ _ HIR.out]; rfl
        have hi6 : w7.cell? ⟨bi, 6, none⟩ = some i6 := by rw [cell_of_row _ bi 6 _ _ _ HIR.out]; rfl
        have hi7 : w7.cell? ⟨bi, 7, none⟩ = some i7 := by rw [cell_of_row _ bi 7 _ _ _ HIR.out]; rfl
        have hi8 : w7.cell? ⟨bi, 8, none⟩ = some i8 := by rw [cell_of_row _ bi 8 _ _ _ HIR.out]; rfl
        have hi9 : w7.cell? ⟨bi, 9, none⟩ = some i9 := by rw [cell_of_row _ bi 9 _ _ _ HIR.out]; rfl
        have hi10 : w7.cell? ⟨bi, 10, none⟩ = some i10 := by rw [cell_of_row _ bi 10 _ _ _ HIR.out]; rfl
        have hi11 : w7.cell? ⟨bi, 11, none⟩ = some i11 := by rw [cell_of_row _ bi 11 _ _ _ HIR.out]; rfl
        have hi12 : w7.cell? ⟨bi, 12, none⟩ = some i12 := by rw [cell_of_row _ bi 12 _ _ _ HIR.out]; rfl
        have hi13 : w7.cell? ⟨bi, 13, none⟩ = some i13 := by rw [cell_of_row _ bi 13 _ _ _ HIR.out]; rfl
        go_wp2_with fail
        clear hi0 hi1 hi2 hi3 hi4 hi5 hi6 hi7 hi8 hi9 hi10 hi11 hi12 hi13
        refine (msgMsg_any (xs := [i0, i1, i2, i3, i4, i5, i6, i7, i8, i9, i10, i11, i12, i13]) (d := d) _ rfl (HIN.out.old msgK_ok) (fun _ => by have := HS.out; omega)).mono ?_
        rintro e w8 ⟨hb1, ⟨hs, v, rfl, ho⟩ | ⟨hs, rfl⟩⟩
        case inr => rw [HSD.out] at hs; cases hs
        case inl =>
          have HZ7 := Lib.hid (show bx < w7.heap.size from row_lt HXR.out)
          replace HR := Lib.hid (HR.out.below msgK_ok hb1)
          replace HW := Lib.hid ((hb1.block _ (row_lt HW.out)).trans HW.out)
          replace HIN := Lib.hid (HIN.out.below msgK_ok hb1)
          replace HIR := Lib.hid ((hb1.block _ (row_lt HIR.out)).trans HIR.out)
          replace HX := Lib.hid (HX.out.below msgK_ok hb1)
          replace HXR := Lib.hid ((hb1.block _ (row_lt HXR.out)).trans HXR.out)
          replace HB := Lib.hid (ext HB.out hb1)
          replace HER := Lib.hid (HER.out.below hb1)
          obtain ⟨C, cc, rfl, hcc, _, _, _, _⟩ := ho.form
          have HCC := Lib.hid (show SegB w8 w7.heap.size w8.heap.size C (msgK.put d) from ⟨LiesS.own ho, Nat.le_refl _⟩)
          rw [← HNB.out] at hcc ⊢
          have hx9 : w8.cell? ⟨bx, 9, none⟩ = some (.slice AE en ce) := by rw [cell_of_row _ bx 9 _ _ _ HXR.out]; rfl
          clear hs ho hb1 hx9
          go_wp2
          go_loopw [11] (fun i wr => ∃ j : Nat, j ≤ en ∧ i = .int .i64 (j : Int) ∧ Turn w3.heap.size bx w8 wr ∧ EntRow wr gE oE en) (fun i _ => en - (intOf i).toNat)
          case atStart => exact ⟨0, Nat.zero_le _, rfl, Turn.refl _ _ _, HER.out⟩
          case round =>
            clear HER
            obtain ⟨j, hj, rfl, htn, her⟩ := hrel
            have HTN := Lib.hid htn
            have hxr : wr.heap[bx]? = _ := (htn.block bx (row_lt HXR.out) (.inr (Nat.le_refl _))).trans HXR.out
            have hx9 : wr.cell? ⟨bx, 9, none⟩ = some (.slice AE en ce) := by rw [cell_of_row _ bx 9 _ _ _ hxr]; rfl
            clear htn hxr
            by_cases hlt : j < en
            · have hlti : (j : Int) < (en : Int) := by omega
              have h0 : 0 < en := by omega
              have hA := HE.out h0
              subst hA
              obtain ⟨p0, k0⟩ := her.cell (i := 0) hlt (by omega)
              obtain ⟨p1, k1⟩ := her.cell (i := 1) hlt (by omega)
              obtain ⟨p2, k2⟩ := her.cell (i := 2) hlt (by omega)
              obtain ⟨p3, k3⟩ := her.cell (i := 3) hlt (by omega)
              obtain ⟨p4, k4⟩ := her.cell (i := 4) hlt (by omega)
              have hfz := her.free h0
              rw [Nat.add_zero] at k0
              have HER := Lib.hid her
              have hgx := HEZ.out h0
              have HGX := Lib.hid hgx
              clear her hgx
              go_wp2
              go_roundw
              case rel => exact ⟨j + 1, by omega, by go_num, ((((HTN.out.set HGX.out.1 HGX.out.2 _ _).set HGX.out.1 HGX.out.2 _ _).set HGX.out.1 HGX.out.2 _ _).set HGX.out.1 HGX.out.2 _ _).set HGX.out.1 HGX.out.2 _ _, ((((HER.out.set _ _).set _ _).set _ _).set _ _).set _ _⟩
              case measure => simp [intOf]; omega
            · have hlti : ¬ (j : Int) < (en : Int) := by omega
              have htn := HTN.out
              have z1 := HG.out
              have z2 := HZW.out
              have z3 := HZ1.out
              have z4 := HZ3.out
              have z7 := HZ7.out
              replace HR := Lib.hid (HR.out.turn msgK_ok htn (.inl (by omega)))
              replace HW := Lib.hid ((htn.block _ (row_lt HW.out) (.inl (by omega))).trans HW.out)
              replace HCC := Lib.hid (HCC.out.turn htn (.inr (by omega)))
              replace HB := Lib.hid (htn.below HB.out (by omega) (by have := HB.out.size; omega))
              clear htn z1 z2 z3 z4 z7 her
              obtain ⟨w9, hw9⟩ : ∃ w9, w9 = wr := ⟨_, rfl⟩
              rw [← hw9] at HR HW HCC HB ⊢
              rw [← hw9] at hx9
              clear hw9
              go_wp2_with fail
              refine (msgToMsg_free w9 HNB.out hcc (by omega) HCC.out.old).mono ?_
              rintro e w10 hrd
              obtain ⟨zs, rfl, hv1, hv2, hrx, hb⟩ := ReadsKF.good msgK_ok hrd (msgK_laws.whole HFI.out) HSD.out
              have HY := Lib.hid (show SegAt msgK w10 w9.heap.size w10.heap.size zs.toList d from ⟨msgK_ok.keep hrx (fun _ _ => rfl) (fun _ hb => hb.1), Nat.le_refl _⟩)
              have HI := Lib.hid (show (Tryz.prog.info? 29).map (·.size) = some zs.size by rw [hv1]; exact xt_Msg.i)
              have HV1 := Lib.hid (show (#[.int .i64 0, .int .i64 0, .int .i64 0, .int .u64 0, .int .u64 0, .int .u64 0, .int .u64 0, .int .u64 0, .bool false, .slice none 0 0, .slice none 0 0, .slice none 0 0, .int .i64 0, .slice none 0 0] : Array Value).size = zs.size by rw [hv1]; rfl)
              have HV2 := Lib.hid hv2
              have HVX := Lib.hid (show zs.toList.length = 14 by rw [Array.length_toList, hv1]; rfl)
              replace HR := Lib.hid (HR.out.below msgK_ok hb)
              replace HW := Lib.hid ((hb.block _ (row_lt HW.out)).trans HW.out)
              replace HB := Lib.hid (ext HB.out hb)
              clear hrd hv1 hv2 hrx hb HCC hx9
              have hb : Below w10.heap.size w10 ((w10.alloc (.cells #[.int .i64 0, .int .i64 0, .int .i64 0, .int .u64 0, .int .u64 0, .int .u64 0, .int .u64 0, .int .u64 0, .bool false, .slice none 0 0, .slice none 0 0, .slice none 0 0, .int .i64 0, .slice none 0 0] 29)).setRow w10.heap.size zs) := below_setRow ((Below.refl _ _).alloc (Nat.le_refl _) _) (Nat.le_refl _) _
              have HYR := Lib.hid (show ((w10.alloc (.cells #[.int .i64 0, .int .i64 0, .int .i64 0, .int .u64 0, .int .u64 0, .int .u64 0, .int .u64 0, .int .u64 0, .bool false, .slice none 0 0, .slice none 0 0, .slice none 0 0, .int .i64 0, .slice none 0 0] 29)).setRow w10.heap.size zs).heap[w10.heap.size]? = some (.cells zs 29 (0, 0)) from setRow_heap _ _ _ _ _ _ (heap_alloc_new w10 _))
              replace HR := Lib.hid (HR.out.below msgK_ok hb)
              replace HW := Lib.hid ((hb.block _ (row_lt HW.out)).trans HW.out)
              replace HY := Lib.hid (HY.out.below msgK_ok hb)
              replace HB := Lib.hid (ext HB.out hb)
              clear hb
              go_upto_region 18 with (with_reducible refine wpList_store_row rfl 29 (.tmp 12) (.tmp 81) rfl w10.heap.size zs rfl rfl 29 #[.int .i64 0, .int .i64 0, .int .i64 0, .int .u64 0, .int .u64 0, .int .u64 0, .int .u64 0, .int .u64 0, .bool false, .slice none 0 0, .slice none 0 0, .slice none 0 0, .int .i64 0, .slice none 0 0] (heap_alloc_new w10 _) HI.out HV1.out HV2.out ?_)
              generalize (w10.alloc (.cells #[.int .i64 0, .int .i64 0, .int .i64 0, .int .u64 0, .int .u64 0, .int .u64 0, .int .u64 0, .int .u64 0, .bool false, .slice none 0 0, .slice none 0 0, .slice none 0 0, .int .i64 0, .slice none 0 0] 29)).setRow w10.heap.size zs = w11 at *
              obtain ⟨bz, hbz⟩ : ∃ bz, bz = w10.heap.size := ⟨_, rfl⟩
              rw [← hbz] at HYR ⊢
              clear hbz HI HV1 HV2
              obtain ⟨zl⟩ := zs
              obtain ⟨y0, y1, y2, y3, y4, y5, y6, y7, y8, y9, y10, y11, y12, y13, hyl⟩ := list14' HVX.out
              have hyl' : zl = [y0, y1, y2, y3, y4, y5, y6, y7, y8, y9, y10, y11, y12, y13] := hyl
              subst hyl'
              clear hyl HVX
              have hy0 : w11.cell? ⟨bz, 0, none⟩ = some y0 := by rw [cell_of_row _ bz 0 _ _ _ HYR.out]; rfl
              have hy1 : w11.cell? ⟨bz, 1, none⟩ = some y1 := by rw [cell_of_row _ bz 1 _ _ _ HYR.out]; rfl
              have hy2 : w11.cell? ⟨bz, 2, none⟩ = some y2 := by rw [cell_of_row _ bz 2 _ _ _ HYR.out]; rfl
              have hy3 : w11.cell? ⟨bz, 3, none⟩ = some y3 := by rw [cell_of_row _ bz 3 _ _ _ HYR.out]; rfl
              have hy4 : w11.cell? ⟨bz, 4, none⟩ = some y4 := by rw [cell_of_row _ bz 4 _ _ _ HYR.out]; rfl
              have hy5 : w11.cell? ⟨bz, 5, none⟩ = some y5 := by rw [cell_of_row _ bz 5 _ _ _ HYR.out]; rfl
              have hy6 : w11.cell? ⟨bz, 6, none⟩ = some y6 := by rw [cell_of_row _ bz 6 _ _ _ HYR.out]; rfl
              have hy7 : w11.cell? ⟨bz, 7, none⟩ = some y7 := by rw [cell_of_row _ bz 7 _ _ _ HYR.out]; rfl
              have hy8 : w11.cell? ⟨bz, 8, none⟩ = some y8 := by rw [cell_of_row _ bz 8 _ _ _ HYR.out]; rfl
              have hy9 : w11.cell? ⟨bz, 9, none⟩ = some y9 := by rw [cell_of_row _ bz 9 _ _ _ HYR.out]; rfl
              have hy10 : w11.cell? ⟨bz, 10, none⟩ = some y10 := by rw [cell_of_row _ bz 10 _ _ _ HYR.out]; rfl
              have hy11 : w11.cell? ⟨bz, 11, none⟩ = some y11 := by rw [cell_of_row _ bz 11 _ _ _ HYR.out]; rfl
              have hy12 : w11.cell? ⟨bz, 12, none⟩ = some y12 := by rw [cell_of_row _ bz 12 _ _ _ HYR.out]; rfl
              have hy13 : w11.cell? ⟨bz, 13, none⟩ = some y13 := by rw [cell_of_row _ bz 13 _ _ _ HYR.out]; rfl
              have hm0 : w11.cell? ⟨w.heap.size, 0, none⟩ = some m0 := by rw [cell_of_row _ w.heap.size 0 _ _ _ HW.out]; rfl
              have hm1 : w11.cell? ⟨w.heap.size, 1, none⟩ = some m1 := by rw [cell_of_row _ w.heap.size 1 _ _ _ HW.out]; rfl
              have hm2 : w11.cell? ⟨w.heap.size, 2, none⟩ = some m2 := by rw [cell_of_row _ w.heap.size 2 _ _ _ HW.out]; rfl
              have hm3 : w11.cell? ⟨w.heap.size, 3, none⟩ = some m3 := by rw [cell_of_row _ w.heap.size 3 _ _ _ HW.out]; rfl
              have hm4 : w11.cell? ⟨w.heap.size, 4, none⟩ = some m4 := by rw [cell_of_row _ w.heap.size 4 _ _ _ HW.out]; rfl
              have hm5 : w11.cell? ⟨w.heap.size, 5, none⟩ = some m5 := by rw [cell_of_row _ w.heap.size 5 _ _ _ HW.out]; rfl
              have hm6 : w11.cell? ⟨w.heap.size, 6, none⟩ = some m6 := by rw [cell_of_row _ w.heap.size 6 _ _ _ HW.out]; rfl
              have hm7 : w11.cell? ⟨w.heap.size, 7, none⟩ = some m7 := by rw [cell_of_row _ w.heap.size 7 _ _ _ HW.out]; rfl
              have hm8 : w11.cell? ⟨w.heap.size, 8, none⟩ = some m8 := by rw [cell_of_row _ w.heap.size 8 _ _ _ HW.out]; rfl
              have hm9 : w11.cell? ⟨w.heap.size, 9, none⟩ = some m9 := by rw [cell_of_row _ w.heap.size 9 _ _ _ HW.out]; rfl
              have hm10 : w11.cell? ⟨w.heap.size, 10, none⟩ = some m10 := by rw [cell_of_row _ w.heap.size 10 _ _ _ HW.out]; rfl
              have hm11 : w11.cell? ⟨w.heap.size, 11, none⟩ = some m11 := by rw [cell_of_row _ w.heap.size 11 _ _ _ HW.out]; rfl
              have hm12 : w11.cell? ⟨w.heap.size, 12, none⟩ = some m12 := by rw [cell_of_row _ w.heap.size 12 _ _ _ HW.out]; rfl
              have hm13 : w11.cell? ⟨w.heap.size, 13, none⟩ = some m13 := by rw [cell_of_row _ w.heap.size 13 _ _ _ HW.out]; rfl
              have hsr := sameM_refl (HY.out.old msgK_ok)
              have hcall := same_msg w11 (HY.out.old msgK_ok) (HR.out.old msgK_ok)
              rw [hsr] at hcall
              have HCALL := Lib.hid hcall
              clear hsr hcall
              go_wp2_with fail
              clear hy0 hy1 hy2 hy3 hy4 hy5 hy6 hy7 hy8 hy9 hy10 hy11 hy12 hy13 hm0 hm1 hm2 hm3 hm4 hm5 hm6 hm7 hm8 hm9 hm10 hm11 hm12 hm13
              refine HCALL.out.mono ?_
              rintro e w12 ⟨rfl, hb⟩
              replace HR := Lib.hid (HR.out.below msgK_ok hb)
              replace HW := Lib.hid ((hb.block _ (row_lt HW.out)).trans HW.out)
              replace HY := Lib.hid (HY.out.below msgK_ok hb)
              replace HYR := Lib.hid ((hb.block _ (row_lt HYR.out)).trans HYR.out)
              replace HB := Lib.hid (ext HB.out hb)
              clear hb HCALL
              go_wp2
              go_ret
              exact ⟨rfl, HB.out⟩
end Go.Proofs.YtnmcaifecfaoiaaGreat.Kd
