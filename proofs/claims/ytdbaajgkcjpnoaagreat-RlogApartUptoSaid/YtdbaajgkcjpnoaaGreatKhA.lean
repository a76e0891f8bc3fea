/- Kinds of all numbers; kinds of which nothing is asked; the kinds of commands, replies, what edges ask and are told. Written by geni.py. -/
import Derived.Test.YtdbaajgkcjpnoaaGreatKgB
namespace Go.Proofs.YtdbaajgkcjpnoaaGreat.Kd
open Go.RowKit By CoP Co Mo

theorem all3 {a b c : Fn} {x y z : Array Value} : (#[.func a #[] x, .func b #[] y, .func c #[] z] : Array Value).all (·.oneCell') = true := by
  rw [Array.all_eq_true_iff_forall_mem]
  intro v hv
  simp only [List.mem_toArray, List.mem_cons, List.not_mem_nil, or_false] at hv
  rcases hv with rfl | rfl | rfl <;> rfl
def numberK : Kd := numK 0 18446744073709551615
def signedK : Kd := intK (-9223372036854775808) 9223372036854775807
def commandF : List Kd := [numberK, numberK, intK 1 5, textK 64, signedK, signedK, numberK]
def commandK : Kd := recK commandF (fun _ => true)
def replyF : List Kd := [numberK, numberK, intK 0 20, numberK, signedK, signedK]
def replyK : Kd := recK replyF (fun _ => true)
def hardF : List Kd := [numberK, intK 0 16]
def hardK : Kd := recK hardF (fun _ => true)
def toldF : List Kd := [numberK, flagK, intK 0 16, replyK, signedK, signedK]
def toldK : Kd := recK toldF (fun _ => true)
/-- What is asked of an Ask's fields together. -/
def isNoCommand : Data → Bool
  | .agg [.lit (.int .u64 a), .lit (.int .u64 b), .lit (.int .i64 c), .lit (.string l), .lit (.int .i64 d), .lit (.int .i64 e), .lit (.int .u64 f)] => decide (a = 0) && decide (b = 0) && decide (c = 0) && l.isEmpty && decide (d = 0) && decide (e = 0) && decide (f = 0)
  | _ => false
def askT : List Data → Bool
  | [.lit (.bool look), .lit (.bool lazy), _, cmd, .lit (.string key)] => if look then isNoCommand cmd else (commandK.sound cmd && key.isEmpty && !lazy)
  | _ => false
def askF : List Kd := [flagK, flagK, numberK, looseK commandK, textK 64]
def askK : Kd := recK askF askT
end Go.Proofs.YtdbaajgkcjpnoaaGreat.Kd
