/- Kinds' types; kinds of numbers, truths, bytes and texts, made. Written by geni.py. -/
import Derived.Test.YtloieecpgndbhaaGreatGJ
import Derived.Test.YtloieecpgndbhaaGreatGK
import Derived.Test.YtloieecpgndbhaaGreatKfG
import Derived.Test.YtloieecpgndbhaaGreatGG
import Derived.Test.YtloieecpgndbhaaGreatGH
namespace Go.Proofs.YtloieecpgndbhaaGreat.Kd
open Go.RowKit By CoP Co Mo

theorem kt_u64 : KT 210 := by
  refine ⟨⟨_, _, _, rfl, rfl, rfl, ?_, ?_, ?_, Tryz.runUnderlying210⟩, Tryz.isAgg210, Tryz.sizeOf210, ⟨_, Tryz.underlying210⟩, by kernel_rfl, Tryz.zeroValue210⟩ <;> (intro w; go_simp)
theorem kt_int : KT 220 := by
  refine ⟨⟨_, _, _, rfl, rfl, rfl, ?_, ?_, ?_, Tryz.runUnderlying220⟩, Tryz.isAgg220, Tryz.sizeOf220, ⟨_, Tryz.underlying220⟩, by kernel_rfl, Tryz.zeroValue220⟩ <;> (intro w; go_simp)
theorem kt_i64 : KT 229 := by
  refine ⟨⟨_, _, _, rfl, rfl, rfl, ?_, ?_, ?_, Tryz.runUnderlying229⟩, Tryz.isAgg229, Tryz.sizeOf229, ⟨_, Tryz.underlying229⟩, by kernel_rfl, Tryz.zeroValue229⟩ <;> (intro w; go_simp)
theorem kt_err : KT 327 := by
  refine ⟨⟨_, _, _, rfl, rfl, rfl, ?_, ?_, ?_, Tryz.runUnderlying327⟩, Tryz.isAgg327, Tryz.sizeOf327, ⟨_, Tryz.underlying327⟩, by kernel_rfl, Tryz.zeroValue327⟩ <;> (intro w; go_simp)
theorem kt_bool : KT 282 := by
  refine ⟨⟨_, _, _, rfl, rfl, rfl, ?_, ?_, ?_, Tryz.runUnderlying282⟩, Tryz.isAgg282, Tryz.sizeOf282, ⟨_, Tryz.underlying282⟩, by kernel_rfl, Tryz.zeroValue282⟩ <;> (intro w; go_simp)
theorem kt_bytes : KT 238 := by
  refine ⟨⟨_, _, _, rfl, rfl, rfl, ?_, ?_, ?_, Tryz.runUnderlying238⟩, Tryz.isAgg238, Tryz.sizeOf238, ⟨_, Tryz.underlying238⟩, by kernel_rfl, Tryz.zeroValue238⟩ <;> (intro w; go_simp)
theorem kt_text : KT 311 := by
  refine ⟨⟨_, _, _, rfl, rfl, rfl, ?_, ?_, ?_, Tryz.runUnderlying311⟩, Tryz.isAgg311, Tryz.sizeOf311, ⟨_, Tryz.underlying311⟩, by kernel_rfl, Tryz.zeroValue311⟩ <;> (intro w; go_simp)
theorem kt_ints : KT 246 := by
  refine ⟨⟨_, _, _, rfl, rfl, rfl, ?_, ?_, ?_, Tryz.runUnderlying246⟩, Tryz.isAgg246, Tryz.sizeOf246, ⟨_, Tryz.underlying246⟩, by kernel_rfl, Tryz.zeroValue246⟩ <;> (intro w; go_simp)
theorem kt_entries : KT 291 := by
  refine ⟨⟨_, _, _, rfl, rfl, rfl, ?_, ?_, ?_, Tryz.runUnderlying291⟩, Tryz.isAgg291, Tryz.sizeOf291, ⟨_, Tryz.underlying291⟩, by kernel_rfl, Tryz.zeroValue291⟩ <;> (intro w; go_simp)
theorem kt_Hard : KT 148 := by
  refine ⟨⟨_, _, _, rfl, rfl, rfl, ?_, ?_, ?_, Tryz.runUnderlying148⟩, Tryz.isAgg148, Tryz.sizeOf148, ⟨_, Tryz.underlying148⟩, by kernel_rfl, Tryz.zeroValue148⟩ <;> (intro w; go_simp)
theorem kt_Command : KT 170 := by
  refine ⟨⟨_, _, _, rfl, rfl, rfl, ?_, ?_, ?_, Tryz.runUnderlying170⟩, Tryz.isAgg170, Tryz.sizeOf170, ⟨_, Tryz.underlying170⟩, by kernel_rfl, Tryz.zeroValue170⟩ <;> (intro w; go_simp)
theorem kt_Reply : KT 176 := by
  refine ⟨⟨_, _, _, rfl, rfl, rfl, ?_, ?_, ?_, Tryz.runUnderlying176⟩, Tryz.isAgg176, Tryz.sizeOf176, ⟨_, Tryz.underlying176⟩, by kernel_rfl, Tryz.zeroValue176⟩ <;> (intro w; go_simp)
theorem kt_Ask : KT 182 := by
  refine ⟨⟨_, _, _, rfl, rfl, rfl, ?_, ?_, ?_, Tryz.runUnderlying182⟩, Tryz.isAgg182, Tryz.sizeOf182, ⟨_, Tryz.underlying182⟩, by kernel_rfl, Tryz.zeroValue182⟩ <;> (intro w; go_simp)
theorem kt_Told : KT 188 := by
  refine ⟨⟨_, _, _, rfl, rfl, rfl, ?_, ?_, ?_, Tryz.runUnderlying188⟩, Tryz.isAgg188, Tryz.sizeOf188, ⟨_, Tryz.underlying188⟩, by kernel_rfl, Tryz.zeroValue188⟩ <;> (intro w; go_simp)
theorem kt_Entry : KT 130 := by
  refine ⟨⟨_, _, _, rfl, rfl, rfl, ?_, ?_, ?_, Tryz.runUnderlying130⟩, Tryz.isAgg130, Tryz.sizeOf130, ⟨_, Tryz.underlying130⟩, by kernel_rfl, Tryz.zeroValue130⟩ <;> (intro w; go_simp)
theorem kt_Conf : KT 136 := by
  refine ⟨⟨_, _, _, rfl, rfl, rfl, ?_, ?_, ?_, Tryz.runUnderlying136⟩, Tryz.isAgg136, Tryz.sizeOf136, ⟨_, Tryz.underlying136⟩, by kernel_rfl, Tryz.zeroValue136⟩ <;> (intro w; go_simp)
theorem kt_Shot : KT 142 := by
  refine ⟨⟨_, _, _, rfl, rfl, rfl, ?_, ?_, ?_, Tryz.runUnderlying142⟩, Tryz.isAgg142, Tryz.sizeOf142, ⟨_, Tryz.underlying142⟩, by kernel_rfl, Tryz.zeroValue142⟩ <;> (intro w; go_simp)
theorem kt_Msg : KT 163 := by
  refine ⟨⟨_, _, _, rfl, rfl, rfl, ?_, ?_, ?_, Tryz.runUnderlying163⟩, Tryz.isAgg163, Tryz.sizeOf163, ⟨_, Tryz.underlying163⟩, by kernel_rfl, Tryz.zeroValue163⟩ <;> (intro w; go_simp)
set_option maxHeartbeats 400000 in
theorem wholeU_any {L : Nat} (w : World) (hL : L ≤ w.heap.size) (lo hi : Int) : Calls Tryz.prog 116 #[.int .u64 lo, .int .u64 hi] w (Makes L (numK lo hi) 0 w) := by
  have hmf : ∀ (fn : Fn) (first cap : Array Value) (w : World), (Instr.makeFunc fn first cap).run Tryz.prog w = .ok (.func fn first cap) w := fun _ _ _ _ => rfl
  go_enter Tryz.func116, Tryz.ntmps116
  go_wp2
  exact bodyPost_ret (v := .agg #[.func (.func 238) #[] #[.pointer (some ⟨w.heap.size, 0, none⟩), .pointer (some ⟨w.heap.size + 1, 0, none⟩)], .func (.func 239) #[] #[], .func (.func 241) #[] #[]]) (results_cell_row rfl _ _ (w.heap.size + 1 + 1) 210 #[.func (.func 238) #[] #[.pointer (some ⟨w.heap.size, 0, none⟩), .pointer (some ⟨w.heap.size + 1, 0, none⟩)], .func (.func 239) #[] #[], .func (.func 241) #[] #[]] (0, 0) _ rfl (heap3_2 w _ _ _) Tryz.underlying210 rfl (by kernel_rfl)) rfl ⟨_, _, _, rfl, ⟨numK_ok lo hi, wholeU_s hL (Nat.le_succ_of_le hL) (heap3_0 w _ _ _) (heap3_1 w _ _ _), wholeU_p, wholeU_g⟩, below3 w _ _ _⟩
set_option maxHeartbeats 400000 in
theorem wholeI_any {L : Nat} (w : World) (hL : L ≤ w.heap.size) (lo hi : Int) : Calls Tryz.prog 120 #[.int .i64 lo, .int .i64 hi] w (Makes L (intK lo hi) 0 w) := by
  have hmf : ∀ (fn : Fn) (first cap : Array Value) (w : World), (Instr.makeFunc fn first cap).run Tryz.prog w = .ok (.func fn first cap) w := fun _ _ _ _ => rfl
  go_enter Tryz.func120, Tryz.ntmps120
  go_wp2
  exact bodyPost_ret (v := .agg #[.func (.func 246) #[] #[.pointer (some ⟨w.heap.size, 0, none⟩), .pointer (some ⟨w.heap.size + 1, 0, none⟩)], .func (.func 247) #[] #[], .func (.func 248) #[] #[]]) (results_cell_row rfl _ _ (w.heap.size + 1 + 1) 220 #[.func (.func 246) #[] #[.pointer (some ⟨w.heap.size, 0, none⟩), .pointer (some ⟨w.heap.size + 1, 0, none⟩)], .func (.func 247) #[] #[], .func (.func 248) #[] #[]] (0, 0) _ rfl (heap3_2 w _ _ _) Tryz.underlying220 rfl (by kernel_rfl)) rfl ⟨_, _, _, rfl, ⟨intK_ok lo hi, wholeI_s hL (Nat.le_succ_of_le hL) (heap3_0 w _ _ _) (heap3_1 w _ _ _), wholeI_p, wholeI_g⟩, below3 w _ _ _⟩
set_option maxHeartbeats 400000 in
theorem wholeL_any {L : Nat} (w : World) (hL : L ≤ w.heap.size) (lo hi : Int) : Calls Tryz.prog 123 #[.int .i64 lo, .int .i64 hi] w (Makes L (intK lo hi) 0 w) := by
  have hmf : ∀ (fn : Fn) (first cap : Array Value) (w : World), (Instr.makeFunc fn first cap).run Tryz.prog w = .ok (.func fn first cap) w := fun _ _ _ _ => rfl
  go_enter Tryz.func123, Tryz.ntmps123
  go_wp2
  exact bodyPost_ret (v := .agg #[.func (.func 252) #[] #[.pointer (some ⟨w.heap.size, 0, none⟩), .pointer (some ⟨w.heap.size + 1, 0, none⟩)], .func (.func 253) #[] #[], .func (.func 254) #[] #[]]) (results_cell_row rfl _ _ (w.heap.size + 1 + 1) 229 #[.func (.func 252) #[] #[.pointer (some ⟨w.heap.size, 0, none⟩), .pointer (some ⟨w.heap.size + 1, 0, none⟩)], .func (.func 253) #[] #[], .func (.func 254) #[] #[]] (0, 0) _ rfl (heap3_2 w _ _ _) Tryz.underlying229 rfl (by kernel_rfl)) rfl ⟨_, _, _, rfl, ⟨intK_ok lo hi, wholeL_s hL (Nat.le_succ_of_le hL) (heap3_0 w _ _ _) (heap3_1 w _ _ _), wholeL_p, wholeL_g⟩, below3 w _ _ _⟩
set_option maxHeartbeats 400000 in
theorem wholeE_any {L : Nat} (w : World) (hL : L ≤ w.heap.size) (lo hi : Int) : Calls Tryz.prog 198 #[.int .i64 lo, .int .i64 hi] w (Makes L (intK lo hi) 0 w) := by
  have hmf : ∀ (fn : Fn) (first cap : Array Value) (w : World), (Instr.makeFunc fn first cap).run Tryz.prog w = .ok (.func fn first cap) w := fun _ _ _ _ => rfl
  go_enter Tryz.func198, Tryz.ntmps198
  go_wp2
  exact bodyPost_ret (v := .agg #[.func (.func 350) #[] #[.pointer (some ⟨w.heap.size, 0, none⟩), .pointer (some ⟨w.heap.size + 1, 0, none⟩)], .func (.func 351) #[] #[], .func (.func 352) #[] #[]]) (results_cell_row rfl _ _ (w.heap.size + 1 + 1) 327 #[.func (.func 350) #[] #[.pointer (some ⟨w.heap.size, 0, none⟩), .pointer (some ⟨w.heap.size + 1, 0, none⟩)], .func (.func 351) #[] #[], .func (.func 352) #[] #[]] (0, 0) _ rfl (heap3_2 w _ _ _) Tryz.underlying327 rfl (by kernel_rfl)) rfl ⟨_, _, _, rfl, ⟨intK_ok lo hi, wholeE_s hL (Nat.le_succ_of_le hL) (heap3_0 w _ _ _) (heap3_1 w _ _ _), wholeE_p, wholeE_g⟩, below3 w _ _ _⟩
set_option maxHeartbeats 400000 in
theorem runB_any {L : Nat} (w : World) (hL : L ≤ w.heap.size) (most : Int) : Calls Tryz.prog 126 #[.int .i64 most] w (Makes L (bytesK most) 0 w) := by
  have hmf : ∀ (fn : Fn) (first cap : Array Value) (w : World), (Instr.makeFunc fn first cap).run Tryz.prog w = .ok (.func fn first cap) w := fun _ _ _ _ => rfl
  go_enter Tryz.func126, Tryz.ntmps126
  go_wp2
  exact bodyPost_ret (v := .agg #[.func (.func 258) #[] #[.pointer (some ⟨w.heap.size, 0, none⟩)], .func (.func 259) #[] #[], .func (.func 261) #[] #[]]) (results_cell_row rfl _ _ (w.heap.size + 1) 238 #[.func (.func 258) #[] #[.pointer (some ⟨w.heap.size, 0, none⟩)], .func (.func 259) #[] #[], .func (.func 261) #[] #[]] (0, 0) _ rfl (heap_alloc2_new w _ _) Tryz.underlying238 rfl (by kernel_rfl)) rfl ⟨_, _, _, rfl, ⟨bytesK_ok most, runB_s hL (heap_alloc2_old w _ _), runB_p, runB_g⟩, ((Below.refl _ _).alloc (Nat.le_refl _) _).alloc (by simp) _⟩
set_option maxHeartbeats 400000 in
theorem runT_any {L : Nat} (w : World) (hL : L ≤ w.heap.size) (most : Int) : Calls Tryz.prog 185 #[.int .i64 most] w (Makes L (textK most) 0 w) := by
  have hmf : ∀ (fn : Fn) (first cap : Array Value) (w : World), (Instr.makeFunc fn first cap).run Tryz.prog w = .ok (.func fn first cap) w := fun _ _ _ _ => rfl
  go_enter Tryz.func185, Tryz.ntmps185
  go_wp2
  exact bodyPost_ret (v := .agg #[.func (.func 335) #[] #[.pointer (some ⟨w.heap.size, 0, none⟩)], .func (.func 336) #[] #[], .func (.func 337) #[] #[]]) (results_cell_row rfl _ _ (w.heap.size + 1) 311 #[.func (.func 335) #[] #[.pointer (some ⟨w.heap.size, 0, none⟩)], .func (.func 336) #[] #[], .func (.func 337) #[] #[]] (0, 0) _ rfl (heap_alloc2_new w _ _) Tryz.underlying311 rfl (by kernel_rfl)) rfl ⟨_, _, _, rfl, ⟨textK_ok most, runT_s hL (heap_alloc2_old w _ _), runT_p, runT_g⟩, ((Below.refl _ _).alloc (Nat.le_refl _) _).alloc (by simp) _⟩
set_option maxHeartbeats 400000 in
theorem flag_any {L : Nat} (w : World) : Calls Tryz.prog 166 #[] w (Makes L flagK 0 w) := by
  go_enter Tryz.func166, Tryz.ntmps166
  go_wp2
  exact bodyPost_ret (v := .agg #[.func (.func 307) #[] #[], .func (.func 308) #[] #[], .func (.func 309) #[] #[]]) (results_cell_row rfl _ _ w.heap.size 282 #[.func (.func 307) #[] #[], .func (.func 308) #[] #[], .func (.func 309) #[] #[]] (0, 0) _ rfl (heap_alloc_new w _) Tryz.underlying282 rfl (by kernel_rfl)) rfl ⟨_, _, _, rfl, ⟨flagK_ok, flag_s, flag_p, flag_g⟩, (Below.refl _ _).alloc (Nat.le_refl _) _⟩
end Go.Proofs.YtloieecpgndbhaaGreat.Kd
