/- Kinds' types; kinds of numbers, truths, bytes and texts, made. Written by geni.py. -/
import Derived.Test.YthocmnfmialcaaaGJ
import Derived.Test.YthocmnfmialcaaaGK
import Derived.Test.YthocmnfmialcaaaKfG
import Derived.Test.YthocmnfmialcaaaGG
import Derived.Test.YthocmnfmialcaaaGH
namespace Go.Proofs.Ythocmnfmialcaaa.Kd
open Go.RowKit By CoP Co Mo

theorem kt_int : KT 78 := by
  refine ⟨⟨_, _, _, rfl, rfl, rfl, ?_, ?_, ?_, Try.runUnderlying78⟩, Try.isAgg78, Try.sizeOf78, ⟨_, Try.underlying78⟩, by kernel_rfl, Try.zeroValue78⟩ <;> (intro w; go_simp)
theorem kt_ints : KT 72 := by
  refine ⟨⟨_, _, _, rfl, rfl, rfl, ?_, ?_, ?_, Try.runUnderlying72⟩, Try.isAgg72, Try.sizeOf72, ⟨_, Try.underlying72⟩, by kernel_rfl, Try.zeroValue72⟩ <;> (intro w; go_simp)
theorem kt_Conf : KT 63 := by
  refine ⟨⟨_, _, _, rfl, rfl, rfl, ?_, ?_, ?_, Try.runUnderlying63⟩, Try.isAgg63, Try.sizeOf63, ⟨_, Try.underlying63⟩, by kernel_rfl, Try.zeroValue63⟩ <;> (intro w; go_simp)
set_option maxHeartbeats 400000 in
theorem wholeI_any {L : Nat} (w : World) (hL : L ≤ w.heap.size) (lo hi : Int) : Calls Try.prog 51 #[.int .i64 lo, .int .i64 hi] w (Makes L (intK lo hi) 0 w) := by
  have hmf : ∀ (fn : Fn) (first cap : Array Value) (w : World), (Instr.makeFunc fn first cap).run Try.prog w = .ok (.func fn first cap) w := fun _ _ _ _ => rfl
  go_enter Try.func51, Try.ntmps51
  go_wp2
  exact bodyPost_ret (v := .agg #[.func (.func 66) #[] #[.pointer (some ⟨w.heap.size, 0, none⟩), .pointer (some ⟨w.heap.size + 1, 0, none⟩)], .func (.func 67) #[] #[], .func (.func 68) #[] #[]]) (results_cell_row rfl _ _ (w.heap.size + 1 + 1) 78 #[.func (.func 66) #[] #[.pointer (some ⟨w.heap.size, 0, none⟩), .pointer (some ⟨w.heap.size + 1, 0, none⟩)], .func (.func 67) #[] #[], .func (.func 68) #[] #[]] (0, 0) _ rfl (heap3_2 w _ _ _) Try.underlying78 rfl (by kernel_rfl)) rfl ⟨_, _, _, rfl, ⟨intK_ok lo hi, wholeI_s hL (Nat.le_succ_of_le hL) (heap3_0 w _ _ _) (heap3_1 w _ _ _), wholeI_p, wholeI_g⟩, below3 w _ _ _⟩
end Go.Proofs.Ythocmnfmialcaaa.Kd
