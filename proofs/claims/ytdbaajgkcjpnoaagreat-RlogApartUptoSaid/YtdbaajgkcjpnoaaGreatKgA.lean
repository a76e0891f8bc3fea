/- Kinds' types; kinds of numbers, truths, bytes and texts, made. Written by geni.py. -/
import Derived.Test.YtdbaajgkcjpnoaaGreatGJ
import Derived.Test.YtdbaajgkcjpnoaaGreatGK
import Derived.Test.YtdbaajgkcjpnoaaGreatKfG
import Derived.Test.YtdbaajgkcjpnoaaGreatGG
import Derived.Test.YtdbaajgkcjpnoaaGreatGH
namespace Go.Proofs.YtdbaajgkcjpnoaaGreat.Kd
open Go.RowKit By CoP Co Mo

theorem kt_u64 : KT 107 := by
  refine ⟨⟨_, _, _, rfl, rfl, rfl, ?_, ?_, ?_, Tryz.runUnderlying107⟩, Tryz.isAgg107, Tryz.sizeOf107, ⟨_, Tryz.underlying107⟩, by kernel_rfl, Tryz.zeroValue107⟩ <;> (intro w; go_simp)
theorem kt_int : KT 117 := by
  refine ⟨⟨_, _, _, rfl, rfl, rfl, ?_, ?_, ?_, Tryz.runUnderlying117⟩, Tryz.isAgg117, Tryz.sizeOf117, ⟨_, Tryz.underlying117⟩, by kernel_rfl, Tryz.zeroValue117⟩ <;> (intro w; go_simp)
theorem kt_i64 : KT 126 := by
  refine ⟨⟨_, _, _, rfl, rfl, rfl, ?_, ?_, ?_, Tryz.runUnderlying126⟩, Tryz.isAgg126, Tryz.sizeOf126, ⟨_, Tryz.underlying126⟩, by kernel_rfl, Tryz.zeroValue126⟩ <;> (intro w; go_simp)
theorem kt_bytes : KT 135 := by
  refine ⟨⟨_, _, _, rfl, rfl, rfl, ?_, ?_, ?_, Tryz.runUnderlying135⟩, Tryz.isAgg135, Tryz.sizeOf135, ⟨_, Tryz.underlying135⟩, by kernel_rfl, Tryz.zeroValue135⟩ <;> (intro w; go_simp)
theorem kt_ints : KT 168 := by
  refine ⟨⟨_, _, _, rfl, rfl, rfl, ?_, ?_, ?_, Tryz.runUnderlying168⟩, Tryz.isAgg168, Tryz.sizeOf168, ⟨_, Tryz.underlying168⟩, by kernel_rfl, Tryz.zeroValue168⟩ <;> (intro w; go_simp)
theorem kt_Entry : KT 94 := by
  refine ⟨⟨_, _, _, rfl, rfl, rfl, ?_, ?_, ?_, Tryz.runUnderlying94⟩, Tryz.isAgg94, Tryz.sizeOf94, ⟨_, Tryz.underlying94⟩, by kernel_rfl, Tryz.zeroValue94⟩ <;> (intro w; go_simp)
theorem kt_Conf : KT 157 := by
  refine ⟨⟨_, _, _, rfl, rfl, rfl, ?_, ?_, ?_, Tryz.runUnderlying157⟩, Tryz.isAgg157, Tryz.sizeOf157, ⟨_, Tryz.underlying157⟩, by kernel_rfl, Tryz.zeroValue157⟩ <;> (intro w; go_simp)
set_option maxHeartbeats 400000 in
theorem wholeU_any {L : Nat} (w : World) (hL : L ≤ w.heap.size) (lo hi : Int) : Calls Tryz.prog 57 #[.int .u64 lo, .int .u64 hi] w (Makes L (numK lo hi) 0 w) := by
  have hmf : ∀ (fn : Fn) (first cap : Array Value) (w : World), (Instr.makeFunc fn first cap).run Tryz.prog w = .ok (.func fn first cap) w := fun _ _ _ _ => rfl
  go_enter Tryz.func57, Tryz.ntmps57
  go_wp2
  exact bodyPost_ret (v := .agg #[.func (.func 79) #[] #[.pointer (some ⟨w.heap.size, 0, none⟩), .pointer (some ⟨w.heap.size + 1, 0, none⟩)], .func (.func 80) #[] #[], .func (.func 82) #[] #[]]) (results_cell_row rfl _ _ (w.heap.size + 1 + 1) 107 #[.func (.func 79) #[] #[.pointer (some ⟨w.heap.size, 0, none⟩), .pointer (some ⟨w.heap.size + 1, 0, none⟩)], .func (.func 80) #[] #[], .func (.func 82) #[] #[]] (0, 0) _ rfl (heap3_2 w _ _ _) Tryz.underlying107 rfl (by kernel_rfl)) rfl ⟨_, _, _, rfl, ⟨numK_ok lo hi, wholeU_s hL (Nat.le_succ_of_le hL) (heap3_0 w _ _ _) (heap3_1 w _ _ _), wholeU_p, wholeU_g⟩, below3 w _ _ _⟩
set_option maxHeartbeats 400000 in
theorem wholeI_any {L : Nat} (w : World) (hL : L ≤ w.heap.size) (lo hi : Int) : Calls Tryz.prog 61 #[.int .i64 lo, .int .i64 hi] w (Makes L (intK lo hi) 0 w) := by
  have hmf : ∀ (fn : Fn) (first cap : Array Value) (w : World), (Instr.makeFunc fn first cap).run Tryz.prog w = .ok (.func fn first cap) w := fun _ _ _ _ => rfl
  go_enter Tryz.func61, Tryz.ntmps61
  go_wp2
  exact bodyPost_ret (v := .agg #[.func (.func 87) #[] #[.pointer (some ⟨w.heap.size, 0, none⟩), .pointer (some ⟨w.heap.size + 1, 0, none⟩)], .func (.func 88) #[] #[], .func (.func 89) #[] #[]]) (results_cell_row rfl _ _ (w.heap.size + 1 + 1) 117 #[.func (.func 87) #[] #[.pointer (some ⟨w.heap.size, 0, none⟩), .pointer (some ⟨w.heap.size + 1, 0, none⟩)], .func (.func 88) #[] #[], .func (.func 89) #[] #[]] (0, 0) _ rfl (heap3_2 w _ _ _) Tryz.underlying117 rfl (by kernel_rfl)) rfl ⟨_, _, _, rfl, ⟨intK_ok lo hi, wholeI_s hL (Nat.le_succ_of_le hL) (heap3_0 w _ _ _) (heap3_1 w _ _ _), wholeI_p, wholeI_g⟩, below3 w _ _ _⟩
set_option maxHeartbeats 400000 in
theorem wholeL_any {L : Nat} (w : World) (hL : L ≤ w.heap.size) (lo hi : Int) : Calls Tryz.prog 64 #[.int .i64 lo, .int .i64 hi] w (Makes L (intK lo hi) 0 w) := by
  have hmf : ∀ (fn : Fn) (first cap : Array Value) (w : World), (Instr.makeFunc fn first cap).run Tryz.prog w = .ok (.func fn first cap) w := fun _ _ _ _ => rfl
  go_enter Tryz.func64, Tryz.ntmps64
  go_wp2
  exact bodyPost_ret (v := .agg #[.func (.func 93) #[] #[.pointer (some ⟨w.heap.size, 0, none⟩), .pointer (some ⟨w.heap.size + 1, 0, none⟩)], .func (.func 94) #[] #[], .func (.func 95) #[] #[]]) (results_cell_row rfl _ _ (w.heap.size + 1 + 1) 126 #[.func (.func 93) #[] #[.pointer (some ⟨w.heap.size, 0, none⟩), .pointer (some ⟨w.heap.size + 1, 0, none⟩)], .func (.func 94) #[] #[], .func (.func 95) #[] #[]] (0, 0) _ rfl (heap3_2 w _ _ _) Tryz.underlying126 rfl (by kernel_rfl)) rfl ⟨_, _, _, rfl, ⟨intK_ok lo hi, wholeL_s hL (Nat.le_succ_of_le hL) (heap3_0 w _ _ _) (heap3_1 w _ _ _), wholeL_p, wholeL_g⟩, below3 w _ _ _⟩
set_option maxHeartbeats 400000 in
theorem runB_any {L : Nat} (w : World) (hL : L ≤ w.heap.size) (most : Int) : Calls Tryz.prog 67 #[.int .i64 most] w (Makes L (bytesK most) 0 w) := by
  have hmf : ∀ (fn : Fn) (first cap : Array Value) (w : World), (Instr.makeFunc fn first cap).run Tryz.prog w = .ok (.func fn first cap) w := fun _ _ _ _ => rfl
  go_enter Tryz.func67, Tryz.ntmps67
  go_wp2
  exact bodyPost_ret (v := .agg #[.func (.func 99) #[] #[.pointer (some ⟨w.heap.size, 0, none⟩)], .func (.func 100) #[] #[], .func (.func 102) #[] #[]]) (results_cell_row rfl _ _ (w.heap.size + 1) 135 #[.func (.func 99) #[] #[.pointer (some ⟨w.heap.size, 0, none⟩)], .func (.func 100) #[] #[], .func (.func 102) #[] #[]] (0, 0) _ rfl (heap_alloc2_new w _ _) Tryz.underlying135 rfl (by kernel_rfl)) rfl ⟨_, _, _, rfl, ⟨bytesK_ok most, runB_s hL (heap_alloc2_old w _ _), runB_p, runB_g⟩, ((Below.refl _ _).alloc (Nat.le_refl _) _).alloc (by simp) _⟩
end Go.Proofs.YtdbaajgkcjpnoaaGreat.Kd
