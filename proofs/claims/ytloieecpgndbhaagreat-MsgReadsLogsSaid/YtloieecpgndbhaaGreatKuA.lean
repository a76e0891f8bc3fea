/- Package msg's ToEntry, ToShot, ToHard, as contracts of calls. Written by gento.py. -/
import Derived.Test.YtloieecpgndbhaaGreatKnE
namespace Go.Proofs.YtloieecpgndbhaaGreat.Kd
open Go.RowKit By CoP Co Mo

theorem xt_Entry : XT 25 entryK.zero := ⟨Tryz.isAgg25, Tryz.zeroValue25, ⟨_, Tryz.underlying25⟩, by kernel_rfl⟩
set_option maxHeartbeats 1000000 in
theorem msgToEntry_any {A : Option Addr} {n c : Nat} {b : List UInt8} (w : World) (hln : n = b.length) (hnc : n ≤ c) (hm : n ≤ 140737488355328) (hrd : Lies w w.heap.size A b) :
    Calls Tryz.prog 44 #[.slice A n c] w (ReadsK entryK b w) := by
  have hb0 : Below w.heap.size w (w.alloc (.cells entryK.zero.toArray 25)) := (Below.refl _ _).alloc (Nat.le_refl _) _
  have hr0 : (w.alloc (.cells entryK.zero.toArray 25)).heap[w.heap.size]? = some (.cells entryK.zero.toArray 25 (0, 0)) := heap_alloc_new w _
  have HB0 := Lib.hid hb0
  have HR0 := Lib.hid hr0
  have HRD := Lib.hid hrd
  have HLN := Lib.hid hln
  clear hb0 hr0 hrd hln
  go_enter Tryz.func44, Tryz.ntmps44
  go_wp2_with fail
  refine (entryKind_any _ (Nat.le_refl _)).mono ?_
  rintro e w1 ⟨f1, f2, f3, rfl, hk, hb1⟩
  have HK := Lib.hid hk
  have HB1 := Lib.hid (ext HB0.out hb1)
  have HR1 := Lib.hid ((hb1.block w.heap.size (row_lt HR0.out)).trans HR0.out)
  clear hk hb1
  go_wp2_with fail
  refine (read_any Tryz.func94 rfl rfl rfl kt_Entry (by intro w; go_simp) (by intro w; go_simp) xt_Entry w1 HK.out HLN.out hnc hm ((HRD.out.below HB1.out).more HB1.out.size)).mono ?_
  rintro e w2 hr
  have hb2 := hr.1
  obtain ⟨vs, er, rfl, hv1, hv2, hr2⟩ := ReadsK.tell entryK_ok hr
  have HR2 := Lib.hid ((hb2.block w.heap.size (row_lt HR1.out)).trans HR1.out)
  have HX := Lib.hid (ReadsK.into entryK_ok HB1.out (Nat.le_refl _) (row_lt HR1.out) hr2 vs)
  have HV2 := Lib.hid hv2
  have HV1 := Lib.hid (show entryK.zero.toArray.size = vs.size by rw [hv1, List.size_toArray])
  have HI := Lib.hid (show (Tryz.prog.info? 25).map (·.size) = some vs.size by rw [hv1]; exact xt_Entry.i)
  clear hr hb2 hr2 hv1 hv2
  go_wp2_with (with_reducible refine wpList_store_row rfl 25 (.tmp 2) (.tmp 7) rfl w.heap.size vs rfl rfl 25 entryK.zero.toArray HR2.out HI.out HV1.out HV2.out ?_)
  refine bodyPost_ret (v := .tuple #[.agg vs, .int .i64 er]) (results_cell_tmp (fn := Tryz.f44) (p := 2) (q := 3) rfl _ _ w.heap.size 25 vs (0, 0) _ rfl (setRow_heap _ _ _ _ _ _ HR2.out) Tryz.underlying25 HI.out) rfl ?_
  exact HX.out
theorem xt_Shot : XT 30 shotK.zero := ⟨Tryz.isAgg30, Tryz.zeroValue30, ⟨_, Tryz.underlying30⟩, by kernel_rfl⟩
set_option maxHeartbeats 1000000 in
theorem msgToShot_any {A : Option Addr} {n c : Nat} {b : List UInt8} (w : World) (hln : n = b.length) (hnc : n ≤ c) (hm : n ≤ 140737488355328) (hrd : Lies w w.heap.size A b) :
    Calls Tryz.prog 48 #[.slice A n c] w (ReadsK shotK b w) := by
  have hb0 : Below w.heap.size w (w.alloc (.cells shotK.zero.toArray 30)) := (Below.refl _ _).alloc (Nat.le_refl _) _
  have hr0 : (w.alloc (.cells shotK.zero.toArray 30)).heap[w.heap.size]? = some (.cells shotK.zero.toArray 30 (0, 0)) := heap_alloc_new w _
  have HB0 := Lib.hid hb0
  have HR0 := Lib.hid hr0
  have HRD := Lib.hid hrd
  have HLN := Lib.hid hln
  clear hb0 hr0 hrd hln
  go_enter Tryz.func48, Tryz.ntmps48
  go_wp2_with fail
  refine (shotKind_any _ (Nat.le_refl _)).mono ?_
  rintro e w1 ⟨f1, f2, f3, rfl, hk, hb1⟩
  have HK := Lib.hid hk
  have HB1 := Lib.hid (ext HB0.out hb1)
  have HR1 := Lib.hid ((hb1.block w.heap.size (row_lt HR0.out)).trans HR0.out)
  clear hk hb1
  go_wp2_with fail
  refine (read_any Tryz.func99 rfl rfl rfl kt_Shot (by intro w; go_simp) (by intro w; go_simp) xt_Shot w1 HK.out HLN.out hnc hm ((HRD.out.below HB1.out).more HB1.out.size)).mono ?_
  rintro e w2 hr
  have hb2 := hr.1
  obtain ⟨vs, er, rfl, hv1, hv2, hr2⟩ := ReadsK.tell shotK_ok hr
  have HR2 := Lib.hid ((hb2.block w.heap.size (row_lt HR1.out)).trans HR1.out)
  have HX := Lib.hid (ReadsK.into shotK_ok HB1.out (Nat.le_refl _) (row_lt HR1.out) hr2 vs)
  have HV2 := Lib.hid hv2
  have HV1 := Lib.hid (show shotK.zero.toArray.size = vs.size by rw [hv1, List.size_toArray])
  have HI := Lib.hid (show (Tryz.prog.info? 30).map (·.size) = some vs.size by rw [hv1]; exact xt_Shot.i)
  clear hr hb2 hr2 hv1 hv2
  go_wp2_with (with_reducible refine wpList_store_row rfl 30 (.tmp 2) (.tmp 7) rfl w.heap.size vs rfl rfl 30 shotK.zero.toArray HR2.out HI.out HV1.out HV2.out ?_)
  refine bodyPost_ret (v := .tuple #[.agg vs, .int .i64 er]) (results_cell_tmp (fn := Tryz.f48) (p := 2) (q := 3) rfl _ _ w.heap.size 30 vs (0, 0) _ rfl (setRow_heap _ _ _ _ _ _ HR2.out) Tryz.underlying30 HI.out) rfl ?_
  exact HX.out
theorem xt_Hard : XT 32 hardK.zero := ⟨Tryz.isAgg32, Tryz.zeroValue32, ⟨_, Tryz.underlying32⟩, by kernel_rfl⟩
set_option maxHeartbeats 1000000 in
theorem msgToHard_any {A : Option Addr} {n c : Nat} {b : List UInt8} (w : World) (hln : n = b.length) (hnc : n ≤ c) (hm : n ≤ 140737488355328) (hrd : Lies w w.heap.size A b) :
    Calls Tryz.prog 50 #[.slice A n c] w (ReadsK hardK b w) := by
  have hb0 : Below w.heap.size w (w.alloc (.cells hardK.zero.toArray 32)) := (Below.refl _ _).alloc (Nat.le_refl _) _
  have hr0 : (w.alloc (.cells hardK.zero.toArray 32)).heap[w.heap.size]? = some (.cells hardK.zero.toArray 32 (0, 0)) := heap_alloc_new w _
  have HB0 := Lib.hid hb0
  have HR0 := Lib.hid hr0
  have HRD := Lib.hid hrd
  have HLN := Lib.hid hln
  clear hb0 hr0 hrd hln
  go_enter Tryz.func50, Tryz.ntmps50
  go_wp2_with fail
  refine (hardKind_any _ (Nat.le_refl _)).mono ?_
  rintro e w1 ⟨f1, f2, f3, rfl, hk, hb1⟩
  have HK := Lib.hid hk
  have HB1 := Lib.hid (ext HB0.out hb1)
  have HR1 := Lib.hid ((hb1.block w.heap.size (row_lt HR0.out)).trans HR0.out)
  clear hk hb1
  go_wp2_with fail
  refine (read_any Tryz.func102 rfl rfl rfl kt_Hard (by intro w; go_simp) (by intro w; go_simp) xt_Hard w1 HK.out HLN.out hnc hm ((HRD.out.below HB1.out).more HB1.out.size)).mono ?_
  rintro e w2 hr
  have hb2 := hr.1
  obtain ⟨vs, er, rfl, hv1, hv2, hr2⟩ := ReadsK.tell hardK_ok hr
  have HR2 := Lib.hid ((hb2.block w.heap.size (row_lt HR1.out)).trans HR1.out)
  have HX := Lib.hid (ReadsK.into hardK_ok HB1.out (Nat.le_refl _) (row_lt HR1.out) hr2 vs)
  have HV2 := Lib.hid hv2
  have HV1 := Lib.hid (show hardK.zero.toArray.size = vs.size by rw [hv1, List.size_toArray])
  have HI := Lib.hid (show (Tryz.prog.info? 32).map (·.size) = some vs.size by rw [hv1]; exact xt_Hard.i)
  clear hr hb2 hr2 hv1 hv2
  go_wp2_with (with_reducible refine wpList_store_row rfl 32 (.tmp 2) (.tmp 7) rfl w.heap.size vs rfl rfl 32 hardK.zero.toArray HR2.out HI.out HV1.out HV2.out ?_)
  refine bodyPost_ret (v := .tuple #[.agg vs, .int .i64 er]) (results_cell_tmp (fn := Tryz.f50) (p := 2) (q := 3) rfl _ _ w.heap.size 32 vs (0, 0) _ rfl (setRow_heap _ _ _ _ _ _ HR2.out) Tryz.underlying32 HI.out) rfl ?_
  exact HX.out
end Go.Proofs.YtloieecpgndbhaaGreat.Kd
