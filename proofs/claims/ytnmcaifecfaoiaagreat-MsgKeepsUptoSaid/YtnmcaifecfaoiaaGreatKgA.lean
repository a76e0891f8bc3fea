/- Kinds' types; kinds of numbers, truths, bytes and texts, made. Written by geni.py. -/
import Derived.Test.YtnmcaifecfaoiaaGreatGJ
import Derived.Test.YtnmcaifecfaoiaaGreatGK
import Derived.Test.YtnmcaifecfaoiaaGreatKfG
import Derived.Test.YtnmcaifecfaoiaaGreatGG
import Derived.Test.YtnmcaifecfaoiaaGreatGH
namespace Go.Proofs.YtnmcaifecfaoiaaGreat.Kd
open Go.RowKit By CoP Co Mo

theorem kt_u64 : KT 70 := by
  refine ⟨⟨_, _, _, rfl, rfl, rfl, ?_, ?_, ?_, Tryz.runUnderlying70⟩, Tryz.isAgg70, Tryz.sizeOf70, ⟨_, Tryz.underlying70⟩, by kernel_rfl, Tryz.zeroValue70⟩ <;> (intro w; go_simp)
theorem kt_int : KT 60 := by
  refine ⟨⟨_, _, _, rfl, rfl, rfl, ?_, ?_, ?_, Tryz.runUnderlying60⟩, Tryz.isAgg60, Tryz.sizeOf60, ⟨_, Tryz.underlying60⟩, by kernel_rfl, Tryz.zeroValue60⟩ <;> (intro w; go_simp)
theorem kt_i64 : KT 142 := by
  refine ⟨⟨_, _, _, rfl, rfl, rfl, ?_, ?_, ?_, Tryz.runUnderlying142⟩, Tryz.isAgg142, Tryz.sizeOf142, ⟨_, Tryz.underlying142⟩, by kernel_rfl, Tryz.zeroValue142⟩ <;> (intro w; go_simp)
theorem kt_bool : KT 79 := by
  refine ⟨⟨_, _, _, rfl, rfl, rfl, ?_, ?_, ?_, Tryz.runUnderlying79⟩, Tryz.isAgg79, Tryz.sizeOf79, ⟨_, Tryz.underlying79⟩, by kernel_rfl, Tryz.zeroValue79⟩ <;> (intro w; go_simp)
theorem kt_bytes : KT 113 := by
  refine ⟨⟨_, _, _, rfl, rfl, rfl, ?_, ?_, ?_, Tryz.runUnderlying113⟩, Tryz.isAgg113, Tryz.sizeOf113, ⟨_, Tryz.underlying113⟩, by kernel_rfl, Tryz.zeroValue113⟩ <;> (intro w; go_simp)
theorem kt_ints : KT 152 := by
  refine ⟨⟨_, _, _, rfl, rfl, rfl, ?_, ?_, ?_, Tryz.runUnderlying152⟩, Tryz.isAgg152, Tryz.sizeOf152, ⟨_, Tryz.underlying152⟩, by kernel_rfl, Tryz.zeroValue152⟩ <;> (intro w; go_simp)
theorem kt_entries : KT 88 := by
  refine ⟨⟨_, _, _, rfl, rfl, rfl, ?_, ?_, ?_, Tryz.runUnderlying88⟩, Tryz.isAgg88, Tryz.sizeOf88, ⟨_, Tryz.underlying88⟩, by kernel_rfl, Tryz.zeroValue88⟩ <;> (intro w; go_simp)
theorem kt_Hard : KT 121 := by
  refine ⟨⟨_, _, _, rfl, rfl, rfl, ?_, ?_, ?_, Tryz.runUnderlying121⟩, Tryz.isAgg121, Tryz.sizeOf121, ⟨_, Tryz.underlying121⟩, by kernel_rfl, Tryz.zeroValue121⟩ <;> (intro w; go_simp)
theorem kt_Entry : KT 94 := by
  refine ⟨⟨_, _, _, rfl, rfl, rfl, ?_, ?_, ?_, Tryz.runUnderlying94⟩, Tryz.isAgg94, Tryz.sizeOf94, ⟨_, Tryz.underlying94⟩, by kernel_rfl, Tryz.zeroValue94⟩ <;> (intro w; go_simp)
theorem kt_Conf : KT 103 := by
  refine ⟨⟨_, _, _, rfl, rfl, rfl, ?_, ?_, ?_, Tryz.runUnderlying103⟩, Tryz.isAgg103, Tryz.sizeOf103, ⟨_, Tryz.underlying103⟩, by kernel_rfl, Tryz.zeroValue103⟩ <;> (intro w; go_simp)
theorem kt_Msg : KT 47 := by
  refine ⟨⟨_, _, _, rfl, rfl, rfl, ?_, ?_, ?_, Tryz.runUnderlying47⟩, Tryz.isAgg47, Tryz.sizeOf47, ⟨_, Tryz.underlying47⟩, by kernel_rfl, Tryz.zeroValue47⟩ <;> (intro w; go_simp)
set_option maxHeartbeats 400000 in
theorem wholeU_any {L : Nat} (w : World) (hL : L ≤ w.heap.size) (lo hi : Int) : Calls Tryz.prog 64 #[.int .u64 lo, .int .u64 hi] w (Makes L (numK lo hi) 0 w) := by
  have hmf : ∀ (fn : Fn) (first cap : Array Value) (w : World), (Instr.makeFunc fn first cap).run Tryz.prog w = .ok (.func fn first cap) w := fun _ _ _ _ => rfl
  go_enter Tryz.func64, Tryz.ntmps64
  go_wp2
  exact bodyPost_ret (v := .agg #[.func (.func 117) #[] #[.pointer (some ⟨w.heap.size, 0, none⟩), .pointer (some ⟨w.heap.size + 1, 0, none⟩)], .func (.func 118) #[] #[], .func (.func 119) #[] #[]]) (results_cell_row rfl _ _ (w.heap.size + 1 + 1) 70 #[.func (.func 117) #[] #[.pointer (some ⟨w.heap.size, 0, none⟩), .pointer (some ⟨w.heap.size + 1, 0, none⟩)], .func (.func 118) #[] #[], .func (.func 119) #[] #[]] (0, 0) _ rfl (heap3_2 w _ _ _) Tryz.underlying70 rfl (by kernel_rfl)) rfl ⟨_, _, _, rfl, ⟨numK_ok lo hi, wholeU_s hL (Nat.le_succ_of_le hL) (heap3_0 w _ _ _) (heap3_1 w _ _ _), wholeU_p, wholeU_g⟩, below3 w _ _ _⟩
set_option maxHeartbeats 400000 in
theorem wholeI_any {L : Nat} (w : World) (hL : L ≤ w.heap.size) (lo hi : Int) : Calls Tryz.prog 20 #[.int .i64 lo, .int .i64 hi] w (Makes L (intK lo hi) 0 w) := by
  have hmf : ∀ (fn : Fn) (first cap : Array Value) (w : World), (Instr.makeFunc fn first cap).run Tryz.prog w = .ok (.func fn first cap) w := fun _ _ _ _ => rfl
  go_enter Tryz.func20, Tryz.ntmps20
  go_wp2
  exact bodyPost_ret (v := .agg #[.func (.func 56) #[] #[.pointer (some ⟨w.heap.size, 0, none⟩), .pointer (some ⟨w.heap.size + 1, 0, none⟩)], .func (.func 57) #[] #[], .func (.func 59) #[] #[]]) (results_cell_row rfl _ _ (w.heap.size + 1 + 1) 60 #[.func (.func 56) #[] #[.pointer (some ⟨w.heap.size, 0, none⟩), .pointer (some ⟨w.heap.size + 1, 0, none⟩)], .func (.func 57) #[] #[], .func (.func 59) #[] #[]] (0, 0) _ rfl (heap3_2 w _ _ _) Tryz.underlying60 rfl (by kernel_rfl)) rfl ⟨_, _, _, rfl, ⟨intK_ok lo hi, wholeI_s hL (Nat.le_succ_of_le hL) (heap3_0 w _ _ _) (heap3_1 w _ _ _), wholeI_p, wholeI_g⟩, below3 w _ _ _⟩
set_option maxHeartbeats 400000 in
theorem wholeL_any {L : Nat} (w : World) (hL : L ≤ w.heap.size) (lo hi : Int) : Calls Tryz.prog 85 #[.int .i64 lo, .int .i64 hi] w (Makes L (intK lo hi) 0 w) := by
  have hmf : ∀ (fn : Fn) (first cap : Array Value) (w : World), (Instr.makeFunc fn first cap).run Tryz.prog w = .ok (.func fn first cap) w := fun _ _ _ _ => rfl
  go_enter Tryz.func85, Tryz.ntmps85
  go_wp2
  exact bodyPost_ret (v := .agg #[.func (.func 133) #[] #[.pointer (some ⟨w.heap.size, 0, none⟩), .pointer (some ⟨w.heap.size + 1, 0, none⟩)], .func (.func 134) #[] #[], .func (.func 135) #[] #[]]) (results_cell_row rfl _ _ (w.heap.size + 1 + 1) 142 #[.func (.func 133) #[] #[.pointer (some ⟨w.heap.size, 0, none⟩), .pointer (some ⟨w.heap.size + 1, 0, none⟩)], .func (.func 134) #[] #[], .func (.func 135) #[] #[]] (0, 0) _ rfl (heap3_2 w _ _ _) Tryz.underlying142 rfl (by kernel_rfl)) rfl ⟨_, _, _, rfl, ⟨intK_ok lo hi, wholeL_s hL (Nat.le_succ_of_le hL) (heap3_0 w _ _ _) (heap3_1 w _ _ _), wholeL_p, wholeL_g⟩, below3 w _ _ _⟩
set_option maxHeartbeats 400000 in
theorem runB_any {L : Nat} (w : World) (hL : L ≤ w.heap.size) (most : Int) : Calls Tryz.prog 44 #[.int .i64 most] w (Makes L (bytesK most) 0 w) := by
  have hmf : ∀ (fn : Fn) (first cap : Array Value) (w : World), (Instr.makeFunc fn first cap).run Tryz.prog w = .ok (.func fn first cap) w := fun _ _ _ _ => rfl
  go_enter Tryz.func44, Tryz.ntmps44
  go_wp2
  exact bodyPost_ret (v := .agg #[.func (.func 102) #[] #[.pointer (some ⟨w.heap.size, 0, none⟩)], .func (.func 103) #[] #[], .func (.func 105) #[] #[]]) (results_cell_row rfl _ _ (w.heap.size + 1) 113 #[.func (.func 102) #[] #[.pointer (some ⟨w.heap.size, 0, none⟩)], .func (.func 103) #[] #[], .func (.func 105) #[] #[]] (0, 0) _ rfl (heap_alloc2_new w _ _) Tryz.underlying113 rfl (by kernel_rfl)) rfl ⟨_, _, _, rfl, ⟨bytesK_ok most, runB_s hL (heap_alloc2_old w _ _), runB_p, runB_g⟩, ((Below.refl _ _).alloc (Nat.le_refl _) _).alloc (by simp) _⟩
set_option maxHeartbeats 400000 in
theorem flag_any {L : Nat} (w : World) : Calls Tryz.prog 32 #[] w (Makes L flagK 0 w) := by
  go_enter Tryz.func32, Tryz.ntmps32
  go_wp2
  exact bodyPost_ret (v := .agg #[.func (.func 68) #[] #[], .func (.func 69) #[] #[], .func (.func 70) #[] #[]]) (results_cell_row rfl _ _ w.heap.size 79 #[.func (.func 68) #[] #[], .func (.func 69) #[] #[], .func (.func 70) #[] #[]] (0, 0) _ rfl (heap_alloc_new w _) Tryz.underlying79 rfl (by kernel_rfl)) rfl ⟨_, _, _, rfl, ⟨flagK_ok, flag_s, flag_p, flag_g⟩, (Below.refl _ _).alloc (Nat.le_refl _) _⟩
end Go.Proofs.YtnmcaifecfaoiaaGreat.Kd
