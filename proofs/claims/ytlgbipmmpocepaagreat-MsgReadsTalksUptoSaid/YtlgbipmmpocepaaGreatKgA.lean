/- Kinds' types; kinds of numbers, truths, bytes and texts, made. Written by geni.py. -/
import Derived.Test.YtlgbipmmpocepaaGreatGJ
import Derived.Test.YtlgbipmmpocepaaGreatGK
import Derived.Test.YtlgbipmmpocepaaGreatKfG
import Derived.Test.YtlgbipmmpocepaaGreatGG
import Derived.Test.YtlgbipmmpocepaaGreatGH
namespace Go.Proofs.YtlgbipmmpocepaaGreat.Kd
open Go.RowKit By CoP Co Mo

theorem kt_u64 : KT 136 := by
  refine ⟨⟨_, _, _, rfl, rfl, rfl, ?_, ?_, ?_, Tryz.runUnderlying136⟩, Tryz.isAgg136, Tryz.sizeOf136, ⟨_, Tryz.underlying136⟩, by kernel_rfl, Tryz.zeroValue136⟩ <;> (intro w; go_simp)
theorem kt_int : KT 126 := by
  refine ⟨⟨_, _, _, rfl, rfl, rfl, ?_, ?_, ?_, Tryz.runUnderlying126⟩, Tryz.isAgg126, Tryz.sizeOf126, ⟨_, Tryz.underlying126⟩, by kernel_rfl, Tryz.zeroValue126⟩ <;> (intro w; go_simp)
theorem kt_i64 : KT 211 := by
  refine ⟨⟨_, _, _, rfl, rfl, rfl, ?_, ?_, ?_, Tryz.runUnderlying211⟩, Tryz.isAgg211, Tryz.sizeOf211, ⟨_, Tryz.underlying211⟩, by kernel_rfl, Tryz.zeroValue211⟩ <;> (intro w; go_simp)
theorem kt_err : KT 224 := by
  refine ⟨⟨_, _, _, rfl, rfl, rfl, ?_, ?_, ?_, Tryz.runUnderlying224⟩, Tryz.isAgg224, Tryz.sizeOf224, ⟨_, Tryz.underlying224⟩, by kernel_rfl, Tryz.zeroValue224⟩ <;> (intro w; go_simp)
theorem kt_bool : KT 145 := by
  refine ⟨⟨_, _, _, rfl, rfl, rfl, ?_, ?_, ?_, Tryz.runUnderlying145⟩, Tryz.isAgg145, Tryz.sizeOf145, ⟨_, Tryz.underlying145⟩, by kernel_rfl, Tryz.zeroValue145⟩ <;> (intro w; go_simp)
theorem kt_bytes : KT 179 := by
  refine ⟨⟨_, _, _, rfl, rfl, rfl, ?_, ?_, ?_, Tryz.runUnderlying179⟩, Tryz.isAgg179, Tryz.sizeOf179, ⟨_, Tryz.underlying179⟩, by kernel_rfl, Tryz.zeroValue179⟩ <;> (intro w; go_simp)
theorem kt_text : KT 202 := by
  refine ⟨⟨_, _, _, rfl, rfl, rfl, ?_, ?_, ?_, Tryz.runUnderlying202⟩, Tryz.isAgg202, Tryz.sizeOf202, ⟨_, Tryz.underlying202⟩, by kernel_rfl, Tryz.zeroValue202⟩ <;> (intro w; go_simp)
theorem kt_ints : KT 279 := by
  refine ⟨⟨_, _, _, rfl, rfl, rfl, ?_, ?_, ?_, Tryz.runUnderlying279⟩, Tryz.isAgg279, Tryz.sizeOf279, ⟨_, Tryz.underlying279⟩, by kernel_rfl, Tryz.zeroValue279⟩ <;> (intro w; go_simp)
theorem kt_entries : KT 154 := by
  refine ⟨⟨_, _, _, rfl, rfl, rfl, ?_, ?_, ?_, Tryz.runUnderlying154⟩, Tryz.isAgg154, Tryz.sizeOf154, ⟨_, Tryz.underlying154⟩, by kernel_rfl, Tryz.zeroValue154⟩ <;> (intro w; go_simp)
theorem kt_Hard : KT 257 := by
  refine ⟨⟨_, _, _, rfl, rfl, rfl, ?_, ?_, ?_, Tryz.runUnderlying257⟩, Tryz.isAgg257, Tryz.sizeOf257, ⟨_, Tryz.underlying257⟩, by kernel_rfl, Tryz.zeroValue257⟩ <;> (intro w; go_simp)
theorem kt_Command : KT 87 := by
  refine ⟨⟨_, _, _, rfl, rfl, rfl, ?_, ?_, ?_, Tryz.runUnderlying87⟩, Tryz.isAgg87, Tryz.sizeOf87, ⟨_, Tryz.underlying87⟩, by kernel_rfl, Tryz.zeroValue87⟩ <;> (intro w; go_simp)
theorem kt_Reply : KT 95 := by
  refine ⟨⟨_, _, _, rfl, rfl, rfl, ?_, ?_, ?_, Tryz.runUnderlying95⟩, Tryz.isAgg95, Tryz.sizeOf95, ⟨_, Tryz.underlying95⟩, by kernel_rfl, Tryz.zeroValue95⟩ <;> (intro w; go_simp)
theorem kt_Ask : KT 103 := by
  refine ⟨⟨_, _, _, rfl, rfl, rfl, ?_, ?_, ?_, Tryz.runUnderlying103⟩, Tryz.isAgg103, Tryz.sizeOf103, ⟨_, Tryz.underlying103⟩, by kernel_rfl, Tryz.zeroValue103⟩ <;> (intro w; go_simp)
theorem kt_Told : KT 110 := by
  refine ⟨⟨_, _, _, rfl, rfl, rfl, ?_, ?_, ?_, Tryz.runUnderlying110⟩, Tryz.isAgg110, Tryz.sizeOf110, ⟨_, Tryz.underlying110⟩, by kernel_rfl, Tryz.zeroValue110⟩ <;> (intro w; go_simp)
theorem kt_Entry : KT 160 := by
  refine ⟨⟨_, _, _, rfl, rfl, rfl, ?_, ?_, ?_, Tryz.runUnderlying160⟩, Tryz.isAgg160, Tryz.sizeOf160, ⟨_, Tryz.underlying160⟩, by kernel_rfl, Tryz.zeroValue160⟩ <;> (intro w; go_simp)
theorem kt_Conf : KT 169 := by
  refine ⟨⟨_, _, _, rfl, rfl, rfl, ?_, ?_, ?_, Tryz.runUnderlying169⟩, Tryz.isAgg169, Tryz.sizeOf169, ⟨_, Tryz.underlying169⟩, by kernel_rfl, Tryz.zeroValue169⟩ <;> (intro w; go_simp)
theorem kt_Msg : KT 73 := by
  refine ⟨⟨_, _, _, rfl, rfl, rfl, ?_, ?_, ?_, Tryz.runUnderlying73⟩, Tryz.isAgg73, Tryz.sizeOf73, ⟨_, Tryz.underlying73⟩, by kernel_rfl, Tryz.zeroValue73⟩ <;> (intro w; go_simp)
set_option maxHeartbeats 400000 in
theorem wholeU_any {L : Nat} (w : World) (hL : L ≤ w.heap.size) (lo hi : Int) : Calls Tryz.prog 153 #[.int .u64 lo, .int .u64 hi] w (Makes L (numK lo hi) 0 w) := by
  have hmf : ∀ (fn : Fn) (first cap : Array Value) (w : World), (Instr.makeFunc fn first cap).run Tryz.prog w = .ok (.func fn first cap) w := fun _ _ _ _ => rfl
  go_enter Tryz.func153, Tryz.ntmps153
  go_wp2
  exact bodyPost_ret (v := .agg #[.func (.func 275) #[] #[.pointer (some ⟨w.heap.size, 0, none⟩), .pointer (some ⟨w.heap.size + 1, 0, none⟩)], .func (.func 276) #[] #[], .func (.func 277) #[] #[]]) (results_cell_row rfl _ _ (w.heap.size + 1 + 1) 136 #[.func (.func 275) #[] #[.pointer (some ⟨w.heap.size, 0, none⟩), .pointer (some ⟨w.heap.size + 1, 0, none⟩)], .func (.func 276) #[] #[], .func (.func 277) #[] #[]] (0, 0) _ rfl (heap3_2 w _ _ _) Tryz.underlying136 rfl (by kernel_rfl)) rfl ⟨_, _, _, rfl, ⟨numK_ok lo hi, wholeU_s hL (Nat.le_succ_of_le hL) (heap3_0 w _ _ _) (heap3_1 w _ _ _), wholeU_p, wholeU_g⟩, below3 w _ _ _⟩
set_option maxHeartbeats 400000 in
theorem wholeI_any {L : Nat} (w : World) (hL : L ≤ w.heap.size) (lo hi : Int) : Calls Tryz.prog 52 #[.int .i64 lo, .int .i64 hi] w (Makes L (intK lo hi) 0 w) := by
  have hmf : ∀ (fn : Fn) (first cap : Array Value) (w : World), (Instr.makeFunc fn first cap).run Tryz.prog w = .ok (.func fn first cap) w := fun _ _ _ _ => rfl
  go_enter Tryz.func52, Tryz.ntmps52
  go_wp2
  exact bodyPost_ret (v := .agg #[.func (.func 145) #[] #[.pointer (some ⟨w.heap.size, 0, none⟩), .pointer (some ⟨w.heap.size + 1, 0, none⟩)], .func (.func 146) #[] #[], .func (.func 148) #[] #[]]) (results_cell_row rfl _ _ (w.heap.size + 1 + 1) 126 #[.func (.func 145) #[] #[.pointer (some ⟨w.heap.size, 0, none⟩), .pointer (some ⟨w.heap.size + 1, 0, none⟩)], .func (.func 146) #[] #[], .func (.func 148) #[] #[]] (0, 0) _ rfl (heap3_2 w _ _ _) Tryz.underlying126 rfl (by kernel_rfl)) rfl ⟨_, _, _, rfl, ⟨intK_ok lo hi, wholeI_s hL (Nat.le_succ_of_le hL) (heap3_0 w _ _ _) (heap3_1 w _ _ _), wholeI_p, wholeI_g⟩, below3 w _ _ _⟩
set_option maxHeartbeats 400000 in
theorem wholeL_any {L : Nat} (w : World) (hL : L ≤ w.heap.size) (lo hi : Int) : Calls Tryz.prog 174 #[.int .i64 lo, .int .i64 hi] w (Makes L (intK lo hi) 0 w) := by
  have hmf : ∀ (fn : Fn) (first cap : Array Value) (w : World), (Instr.makeFunc fn first cap).run Tryz.prog w = .ok (.func fn first cap) w := fun _ _ _ _ => rfl
  go_enter Tryz.func174, Tryz.ntmps174
  go_wp2
  exact bodyPost_ret (v := .agg #[.func (.func 291) #[] #[.pointer (some ⟨w.heap.size, 0, none⟩), .pointer (some ⟨w.heap.size + 1, 0, none⟩)], .func (.func 292) #[] #[], .func (.func 293) #[] #[]]) (results_cell_row rfl _ _ (w.heap.size + 1 + 1) 211 #[.func (.func 291) #[] #[.pointer (some ⟨w.heap.size, 0, none⟩), .pointer (some ⟨w.heap.size + 1, 0, none⟩)], .func (.func 292) #[] #[], .func (.func 293) #[] #[]] (0, 0) _ rfl (heap3_2 w _ _ _) Tryz.underlying211 rfl (by kernel_rfl)) rfl ⟨_, _, _, rfl, ⟨intK_ok lo hi, wholeL_s hL (Nat.le_succ_of_le hL) (heap3_0 w _ _ _) (heap3_1 w _ _ _), wholeL_p, wholeL_g⟩, below3 w _ _ _⟩
set_option maxHeartbeats 400000 in
theorem wholeE_any {L : Nat} (w : World) (hL : L ≤ w.heap.size) (lo hi : Int) : Calls Tryz.prog 104 #[.int .i64 lo, .int .i64 hi] w (Makes L (intK lo hi) 0 w) := by
  have hmf : ∀ (fn : Fn) (first cap : Array Value) (w : World), (Instr.makeFunc fn first cap).run Tryz.prog w = .ok (.func fn first cap) w := fun _ _ _ _ => rfl
  go_enter Tryz.func104, Tryz.ntmps104
  go_wp2
  exact bodyPost_ret (v := .agg #[.func (.func 226) #[] #[.pointer (some ⟨w.heap.size, 0, none⟩), .pointer (some ⟨w.heap.size + 1, 0, none⟩)], .func (.func 227) #[] #[], .func (.func 228) #[] #[]]) (results_cell_row rfl _ _ (w.heap.size + 1 + 1) 224 #[.func (.func 226) #[] #[.pointer (some ⟨w.heap.size, 0, none⟩), .pointer (some ⟨w.heap.size + 1, 0, none⟩)], .func (.func 227) #[] #[], .func (.func 228) #[] #[]] (0, 0) _ rfl (heap3_2 w _ _ _) Tryz.underlying224 rfl (by kernel_rfl)) rfl ⟨_, _, _, rfl, ⟨intK_ok lo hi, wholeE_s hL (Nat.le_succ_of_le hL) (heap3_0 w _ _ _) (heap3_1 w _ _ _), wholeE_p, wholeE_g⟩, below3 w _ _ _⟩
set_option maxHeartbeats 400000 in
theorem runB_any {L : Nat} (w : World) (hL : L ≤ w.heap.size) (most : Int) : Calls Tryz.prog 76 #[.int .i64 most] w (Makes L (bytesK most) 0 w) := by
  have hmf : ∀ (fn : Fn) (first cap : Array Value) (w : World), (Instr.makeFunc fn first cap).run Tryz.prog w = .ok (.func fn first cap) w := fun _ _ _ _ => rfl
  go_enter Tryz.func76, Tryz.ntmps76
  go_wp2
  exact bodyPost_ret (v := .agg #[.func (.func 191) #[] #[.pointer (some ⟨w.heap.size, 0, none⟩)], .func (.func 192) #[] #[], .func (.func 194) #[] #[]]) (results_cell_row rfl _ _ (w.heap.size + 1) 179 #[.func (.func 191) #[] #[.pointer (some ⟨w.heap.size, 0, none⟩)], .func (.func 192) #[] #[], .func (.func 194) #[] #[]] (0, 0) _ rfl (heap_alloc2_new w _ _) Tryz.underlying179 rfl (by kernel_rfl)) rfl ⟨_, _, _, rfl, ⟨bytesK_ok most, runB_s hL (heap_alloc2_old w _ _), runB_p, runB_g⟩, ((Below.refl _ _).alloc (Nat.le_refl _) _).alloc (by simp) _⟩
set_option maxHeartbeats 400000 in
theorem runT_any {L : Nat} (w : World) (hL : L ≤ w.heap.size) (most : Int) : Calls Tryz.prog 91 #[.int .i64 most] w (Makes L (textK most) 0 w) := by
  have hmf : ∀ (fn : Fn) (first cap : Array Value) (w : World), (Instr.makeFunc fn first cap).run Tryz.prog w = .ok (.func fn first cap) w := fun _ _ _ _ => rfl
  go_enter Tryz.func91, Tryz.ntmps91
  go_wp2
  exact bodyPost_ret (v := .agg #[.func (.func 211) #[] #[.pointer (some ⟨w.heap.size, 0, none⟩)], .func (.func 212) #[] #[], .func (.func 213) #[] #[]]) (results_cell_row rfl _ _ (w.heap.size + 1) 202 #[.func (.func 211) #[] #[.pointer (some ⟨w.heap.size, 0, none⟩)], .func (.func 212) #[] #[], .func (.func 213) #[] #[]] (0, 0) _ rfl (heap_alloc2_new w _ _) Tryz.underlying202 rfl (by kernel_rfl)) rfl ⟨_, _, _, rfl, ⟨textK_ok most, runT_s hL (heap_alloc2_old w _ _), runT_p, runT_g⟩, ((Below.refl _ _).alloc (Nat.le_refl _) _).alloc (by simp) _⟩
set_option maxHeartbeats 400000 in
theorem flag_any {L : Nat} (w : World) : Calls Tryz.prog 64 #[] w (Makes L flagK 0 w) := by
  go_enter Tryz.func64, Tryz.ntmps64
  go_wp2
  exact bodyPost_ret (v := .agg #[.func (.func 157) #[] #[], .func (.func 158) #[] #[], .func (.func 159) #[] #[]]) (results_cell_row rfl _ _ w.heap.size 145 #[.func (.func 157) #[] #[], .func (.func 158) #[] #[], .func (.func 159) #[] #[]] (0, 0) _ rfl (heap_alloc_new w _) Tryz.underlying145 rfl (by kernel_rfl)) rfl ⟨_, _, _, rfl, ⟨flagK_ok, flag_s, flag_p, flag_g⟩, (Below.refl _ _).alloc (Nat.le_refl _) _⟩
end Go.Proofs.YtlgbipmmpocepaaGreat.Kd
