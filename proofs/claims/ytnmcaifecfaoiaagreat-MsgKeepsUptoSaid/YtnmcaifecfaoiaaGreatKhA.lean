/- Kinds of all numbers; kinds of which nothing is asked; the kinds of commands, replies, what edges ask and are told. Written by geni.py. -/
import Derived.Test.YtnmcaifecfaoiaaGreatKgB
namespace Go.Proofs.YtnmcaifecfaoiaaGreat.Kd
open Go.RowKit By CoP Co Mo

theorem all3 {a b c : Fn} {x y z : Array Value} : (#[.func a #[] x, .func b #[] y, .func c #[] z] : Array Value).all (·.oneCell') = true := by
  rw [Array.all_eq_true_iff_forall_mem]
  intro v hv
  simp only [List.mem_toArray, List.mem_cons, List.not_mem_nil, or_false] at hv
  rcases hv with rfl | rfl | rfl <;> rfl
def numberK : Kd := numK 0 18446744073709551615
def signedK : Kd := intK (-9223372036854775808) 9223372036854775807
def commandF : List Kd := [numberK, numberK, intK 1 5, textK 64, signedK, signedK, numberK]
def commandK : Kd := recK commandF (fun _ => true)
def replyF : List Kd := [numberK, numberK, intK 0 20, numberK, signedK, signedK]
def replyK : Kd := recK replyF (fun _ => true)
def hardF : List Kd := [numberK, intK 0 16]
def hardK : Kd := recK hardF (fun _ => true)
def toldF : List Kd := [numberK, flagK, intK 0 16, replyK, signedK, signedK]
def toldK : Kd := recK toldF (fun _ => true)
/-- What is asked of an Ask's fields together. -/
def isNoCommand : Data → Bool
  | .agg [.lit (.int .u64 a), .lit (.int .u64 b), .lit (.int .i64 c), .lit (.string l), .lit (.int .i64 d), .lit (.int .i64 e), .lit (.int .u64 f)] => decide (a = 0) && decide (b = 0) && decide (c = 0) && l.isEmpty && decide (d = 0) && decide (e = 0) && decide (f = 0)
  | _ => false
def askT : List Data → Bool
  | [.lit (.bool look), .lit (.bool lazy), _, cmd, .lit (.string key)] => if look then isNoCommand cmd else (commandK.sound cmd && key.isEmpty && !lazy)
  | _ => false
def askF : List Kd := [flagK, flagK, numberK, looseK commandK, textK 64]
def askK : Kd := recK askF askT
set_option maxHeartbeats 400000 in
theorem number_any {L : Nat} (w : World) (hL : L ≤ w.heap.size) : Calls Tryz.prog 25 #[] w (Makes L numberK 0 w) := by
  have hb0 : Below w.heap.size w (w.alloc (.cells #[.nilFunc, .nilFunc, .nilFunc] 70)) := (Below.refl _ _).alloc (Nat.le_refl _) _
  have hr0 := heap_alloc_new w (.cells #[.nilFunc, .nilFunc, .nilFunc] 70)
  have hl0 : w.heap.size + 1 ≤ (w.alloc (.cells #[.nilFunc, .nilFunc, .nilFunc] 70)).heap.size := by rw [World.size_alloc]; exact Nat.le_refl _
  have HB0 := Lib.hid hb0
  have HR0 := Lib.hid hr0
  have HL0 := Lib.hid hl0
  clear hb0 hr0 hl0
  go_enter Tryz.func25, Tryz.ntmps25
  go_wp2_with fail
  refine (wholeU_any _ HL0.out 0 18446744073709551615).mono ?_
  rintro e w1 ⟨f1, f2, f3, rfl, hk, hb1⟩
  have HK := Lib.hid hk
  have HR := Lib.hid ((hb1.block w.heap.size (row_lt HR0.out)).trans HR0.out)
  have HB := Lib.hid (ext HB0.out hb1)
  obtain ⟨_, ⟨q1, c1, rfl, _⟩, ⟨q2, c2, rfl, _⟩, ⟨q3, c3, rfl, _⟩⟩ := hk
  clear hb1
  have H1 : (#[.func (.func q1) #[] c1, .func (.func q2) #[] c2, .func (.func q3) #[] c3] : Array Value).all (·.oneCell') = true := all3
  have H2 : (#[.nilFunc, .nilFunc, .nilFunc] : Array Value).size = (#[.func (.func q1) #[] c1, .func (.func q2) #[] c2, .func (.func q3) #[] c3] : Array Value).size := rfl
  have H5 : (Tryz.prog.info? 70).map (·.size) = some (#[.func (.func q1) #[] c1, .func (.func q2) #[] c2, .func (.func q3) #[] c3] : Array Value).size := kt_u64.i
  have H6 := Lib.hid H5
  have H3 := Lib.hid H1
  have H4 := Lib.hid H2
  clear H1 H2 H5
  go_wp2_with (with_reducible refine wpList_store_row rfl 70 (.tmp 0) (.tmp 1) rfl w.heap.size #[.func (.func q1) #[] c1, .func (.func q2) #[] c2, .func (.func q3) #[] c3] rfl rfl 70 #[.nilFunc, .nilFunc, .nilFunc] HR.out H6.out H4.out H3.out ?_)
  go_wp2
  exact bodyPost_ret (v := .agg #[.func (.func q1) #[] c1, .func (.func q2) #[] c2, .func (.func q3) #[] c3]) (results_cell_row rfl _ _ w.heap.size 70 #[.func (.func q1) #[] c1, .func (.func q2) #[] c2, .func (.func q3) #[] c3] (0, 0) _ rfl (setRow_heap _ _ _ _ _ _ HR.out) Tryz.underlying70 rfl (by kernel_rfl)) rfl ⟨_, _, _, rfl, (HK.out.unset (Nat.lt_succ_self _)).less (Nat.le_succ_of_le hL), below_setRow HB.out (Nat.le_refl _) _⟩
end Go.Proofs.YtnmcaifecfaoiaaGreat.Kd
