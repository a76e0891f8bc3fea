/- Package msg's ToCommand, ToReply, ToAsk, ToTold, as contracts of calls. Written by gento.py. -/
import Derived.Test.YtlgbipmmpocepaaGreatKnD
import Derived.Test.YtlgbipmmpocepaaGreatKhF
namespace Go.Proofs.YtlgbipmmpocepaaGreat.Kd
open Go.RowKit By CoP Co Mo

theorem xt_Command : XT 36 commandK.zero := ⟨Tryz.isAgg36, Tryz.zeroValue36, ⟨_, Tryz.underlying36⟩, by kernel_rfl⟩
set_option maxHeartbeats 1000000 in
theorem msgToCommand_any {A : Option Addr} {n c : Nat} {b : List UInt8} (w : World) (hln : n = b.length) (hnc : n ≤ c) (hm : n ≤ 140737488355328) (hrd : Lies w w.heap.size A b) :
    Calls Tryz.prog 7 #[.slice A n c] w (ReadsK commandK b w) := by
  have hb0 : Below w.heap.size w (w.alloc (.cells commandK.zero.toArray 36)) := (Below.refl _ _).alloc (Nat.le_refl _) _
  have hr0 : (w.alloc (.cells commandK.zero.toArray 36)).heap[w.heap.size]? = some (.cells commandK.zero.toArray 36 (0, 0)) := heap_alloc_new w _
  have HB0 := Lib.hid hb0
  have HR0 := Lib.hid hr0
  have HRD := Lib.hid hrd
  have HLN := Lib.hid hln
  clear hb0 hr0 hrd hln
  go_enter Tryz.func7, Tryz.ntmps7
  go_wp2_with fail
  refine (commandKind_any _ (Nat.le_refl _)).mono ?_
  rintro e w1 ⟨f1, f2, f3, rfl, hk, hb1⟩
  have HK := Lib.hid hk
  have HB1 := Lib.hid (ext HB0.out hb1)
  have HR1 := Lib.hid ((hb1.block w.heap.size (row_lt HR0.out)).trans HR0.out)
  clear hk hb1
  go_wp2_with fail
  refine (read_any Tryz.func30 rfl rfl rfl kt_Command (by intro w; go_simp) (by intro w; go_simp) xt_Command w1 HK.out HLN.out hnc hm ((HRD.out.below HB1.out).more HB1.out.size)).mono ?_
  rintro e w2 hr
  have hb2 := hr.1
  obtain ⟨vs, er, rfl, hv1, hv2, hr2⟩ := ReadsK.tell commandK_ok hr
  have HR2 := Lib.hid ((hb2.block w.heap.size (row_lt HR1.out)).trans HR1.out)
  have HX := Lib.hid (ReadsK.into commandK_ok HB1.out (Nat.le_refl _) (row_lt HR1.out) hr2 vs)
  have HV2 := Lib.hid hv2
  have HV1 := Lib.hid (show commandK.zero.toArray.size = vs.size by rw [hv1, List.size_toArray])
  have HI := Lib.hid (show (Tryz.prog.info? 36).map (·.size) = some vs.size by rw [hv1]; exact xt_Command.i)
  clear hr hb2 hr2 hv1 hv2
  go_wp2_with (with_reducible refine wpList_store_row rfl 36 (.tmp 2) (.tmp 7) rfl w.heap.size vs rfl rfl 36 commandK.zero.toArray HR2.out HI.out HV1.out HV2.out ?_)
  refine bodyPost_ret (v := .tuple #[.agg vs, .int .i64 er]) (results_cell_tmp (fn := Tryz.f7) (p := 2) (q := 3) rfl _ _ w.heap.size 36 vs (0, 0) _ rfl (setRow_heap _ _ _ _ _ _ HR2.out) Tryz.underlying36 HI.out) rfl ?_
  exact HX.out
theorem xt_Reply : XT 42 replyK.zero := ⟨Tryz.isAgg42, Tryz.zeroValue42, ⟨_, Tryz.underlying42⟩, by kernel_rfl⟩
set_option maxHeartbeats 1000000 in
theorem msgToReply_any {A : Option Addr} {n c : Nat} {b : List UInt8} (w : World) (hln : n = b.length) (hnc : n ≤ c) (hm : n ≤ 140737488355328) (hrd : Lies w w.heap.size A b) :
    Calls Tryz.prog 9 #[.slice A n c] w (ReadsK replyK b w) := by
  have hb0 : Below w.heap.size w (w.alloc (.cells replyK.zero.toArray 42)) := (Below.refl _ _).alloc (Nat.le_refl _) _
  have hr0 : (w.alloc (.cells replyK.zero.toArray 42)).heap[w.heap.size]? = some (.cells replyK.zero.toArray 42 (0, 0)) := heap_alloc_new w _
  have HB0 := Lib.hid hb0
  have HR0 := Lib.hid hr0
  have HRD := Lib.hid hrd
  have HLN := Lib.hid hln
  clear hb0 hr0 hrd hln
  go_enter Tryz.func9, Tryz.ntmps9
  go_wp2_with fail
  refine (replyKind_any _ (Nat.le_refl _)).mono ?_
  rintro e w1 ⟨f1, f2, f3, rfl, hk, hb1⟩
  have HK := Lib.hid hk
  have HB1 := Lib.hid (ext HB0.out hb1)
  have HR1 := Lib.hid ((hb1.block w.heap.size (row_lt HR0.out)).trans HR0.out)
  clear hk hb1
  go_wp2_with fail
  refine (read_any Tryz.func34 rfl rfl rfl kt_Reply (by intro w; go_simp) (by intro w; go_simp) xt_Reply w1 HK.out HLN.out hnc hm ((HRD.out.below HB1.out).more HB1.out.size)).mono ?_
  rintro e w2 hr
  have hb2 := hr.1
  obtain ⟨vs, er, rfl, hv1, hv2, hr2⟩ := ReadsK.tell replyK_ok hr
  have HR2 := Lib.hid ((hb2.block w.heap.size (row_lt HR1.out)).trans HR1.out)
  have HX := Lib.hid (ReadsK.into replyK_ok HB1.out (Nat.le_refl _) (row_lt HR1.out) hr2 vs)
  have HV2 := Lib.hid hv2
  have HV1 := Lib.hid (show replyK.zero.toArray.size = vs.size by rw [hv1, List.size_toArray])
  have HI := Lib.hid (show (Tryz.prog.info? 42).map (·.size) = some vs.size by rw [hv1]; exact xt_Reply.i)
  clear hr hb2 hr2 hv1 hv2
  go_wp2_with (with_reducible refine wpList_store_row rfl 42 (.tmp 2) (.tmp 7) rfl w.heap.size vs rfl rfl 42 replyK.zero.toArray HR2.out HI.out HV1.out HV2.out ?_)
  refine bodyPost_ret (v := .tuple #[.agg vs, .int .i64 er]) (results_cell_tmp (fn := Tryz.f9) (p := 2) (q := 3) rfl _ _ w.heap.size 42 vs (0, 0) _ rfl (setRow_heap _ _ _ _ _ _ HR2.out) Tryz.underlying42 HI.out) rfl ?_
  exact HX.out
theorem xt_Ask : XT 48 askK.zero := ⟨Tryz.isAgg48, Tryz.zeroValue48, ⟨_, Tryz.underlying48⟩, by kernel_rfl⟩
set_option maxHeartbeats 1000000 in
theorem msgToAsk_any {A : Option Addr} {n c : Nat} {b : List UInt8} (w : World) (hln : n = b.length) (hnc : n ≤ c) (hm : n ≤ 140737488355328) (hrd : Lies w w.heap.size A b) :
    Calls Tryz.prog 11 #[.slice A n c] w (ReadsK askK b w) := by
  have hb0 : Below w.heap.size w (w.alloc (.cells askK.zero.toArray 48)) := (Below.refl _ _).alloc (Nat.le_refl _) _
  have hr0 : (w.alloc (.cells askK.zero.toArray 48)).heap[w.heap.size]? = some (.cells askK.zero.toArray 48 (0, 0)) := heap_alloc_new w _
  have HB0 := Lib.hid hb0
  have HR0 := Lib.hid hr0
  have HRD := Lib.hid hrd
  have HLN := Lib.hid hln
  clear hb0 hr0 hrd hln
  go_enter Tryz.func11, Tryz.ntmps11
  go_wp2_with fail
  refine (askKind_any _ (Nat.le_refl _)).mono ?_
  rintro e w1 ⟨f1, f2, f3, rfl, hk, hb1⟩
  have HK := Lib.hid hk
  have HB1 := Lib.hid (ext HB0.out hb1)
  have HR1 := Lib.hid ((hb1.block w.heap.size (row_lt HR0.out)).trans HR0.out)
  clear hk hb1
  go_wp2_with fail
  refine (read_any Tryz.func38 rfl rfl rfl kt_Ask (by intro w; go_simp) (by intro w; go_simp) xt_Ask w1 HK.out HLN.out hnc hm ((HRD.out.below HB1.out).more HB1.out.size)).mono ?_
  rintro e w2 hr
  have hb2 := hr.1
  obtain ⟨vs, er, rfl, hv1, hv2, hr2⟩ := ReadsK.tell askK_ok hr
  have HR2 := Lib.hid ((hb2.block w.heap.size (row_lt HR1.out)).trans HR1.out)
  have HX := Lib.hid (ReadsK.into askK_ok HB1.out (Nat.le_refl _) (row_lt HR1.out) hr2 vs)
  have HV2 := Lib.hid hv2
  have HV1 := Lib.hid (show askK.zero.toArray.size = vs.size by rw [hv1, List.size_toArray])
  have HI := Lib.hid (show (Tryz.prog.info? 48).map (·.size) = some vs.size by rw [hv1]; exact xt_Ask.i)
  clear hr hb2 hr2 hv1 hv2
  go_wp2_with (with_reducible refine wpList_store_row rfl 48 (.tmp 2) (.tmp 7) rfl w.heap.size vs rfl rfl 48 askK.zero.toArray HR2.out HI.out HV1.out HV2.out ?_)
  refine bodyPost_ret (v := .tuple #[.agg vs, .int .i64 er]) (results_cell_tmp (fn := Tryz.f11) (p := 2) (q := 3) rfl _ _ w.heap.size 48 vs (0, 0) _ rfl (setRow_heap _ _ _ _ _ _ HR2.out) Tryz.underlying48 HI.out) rfl ?_
  exact HX.out
theorem xt_Told : XT 54 toldK.zero := ⟨Tryz.isAgg54, Tryz.zeroValue54, ⟨_, Tryz.underlying54⟩, by kernel_rfl⟩
set_option maxHeartbeats 1000000 in
theorem msgToTold_any {A : Option Addr} {n c : Nat} {b : List UInt8} (w : World) (hln : n = b.length) (hnc : n ≤ c) (hm : n ≤ 140737488355328) (hrd : Lies w w.heap.size A b) :
    Calls Tryz.prog 13 #[.slice A n c] w (ReadsK toldK b w) := by
  have hb0 : Below w.heap.size w (w.alloc (.cells toldK.zero.toArray 54)) := (Below.refl _ _).alloc (Nat.le_refl _) _
  have hr0 : (w.alloc (.cells toldK.zero.toArray 54)).heap[w.heap.size]? = some (.cells toldK.zero.toArray 54 (0, 0)) := heap_alloc_new w _
  have HB0 := Lib.hid hb0
  have HR0 := Lib.hid hr0
  have HRD := Lib.hid hrd
  have HLN := Lib.hid hln
  clear hb0 hr0 hrd hln
  go_enter Tryz.func13, Tryz.ntmps13
  go_wp2_with fail
  refine (toldKind_any _ (Nat.le_refl _)).mono ?_
  rintro e w1 ⟨f1, f2, f3, rfl, hk, hb1⟩
  have HK := Lib.hid hk
  have HB1 := Lib.hid (ext HB0.out hb1)
  have HR1 := Lib.hid ((hb1.block w.heap.size (row_lt HR0.out)).trans HR0.out)
  clear hk hb1
  go_wp2_with fail
  refine (read_any Tryz.func41 rfl rfl rfl kt_Told (by intro w; go_simp) (by intro w; go_simp) xt_Told w1 HK.out HLN.out hnc hm ((HRD.out.below HB1.out).more HB1.out.size)).mono ?_
  rintro e w2 hr
  have hb2 := hr.1
  obtain ⟨vs, er, rfl, hv1, hv2, hr2⟩ := ReadsK.tell toldK_ok hr
  have HR2 := Lib.hid ((hb2.block w.heap.size (row_lt HR1.out)).trans HR1.out)
  have HX := Lib.hid (ReadsK.into toldK_ok HB1.out (Nat.le_refl _) (row_lt HR1.out) hr2 vs)
  have HV2 := Lib.hid hv2
  have HV1 := Lib.hid (show toldK.zero.toArray.size = vs.size by rw [hv1, List.size_toArray])
  have HI := Lib.hid (show (Tryz.prog.info? 54).map (·.size) = some vs.size by rw [hv1]; exact xt_Told.i)
  clear hr hb2 hr2 hv1 hv2
  go_wp2_with (with_reducible refine wpList_store_row rfl 54 (.tmp 2) (.tmp 7) rfl w.heap.size vs rfl rfl 54 toldK.zero.toArray HR2.out HI.out HV1.out HV2.out ?_)
  refine bodyPost_ret (v := .tuple #[.agg vs, .int .i64 er]) (results_cell_tmp (fn := Tryz.f13) (p := 2) (q := 3) rfl _ _ w.heap.size 54 vs (0, 0) _ rfl (setRow_heap _ _ _ _ _ _ HR2.out) Tryz.underlying54 HI.out) rfl ?_
  exact HX.out
end Go.Proofs.YtlgbipmmpocepaaGreat.Kd
