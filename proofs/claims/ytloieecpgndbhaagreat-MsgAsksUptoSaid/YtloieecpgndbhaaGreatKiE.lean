/- Package scupperref03's AskOK and ToldOK, as contracts of calls. -/
import Derived.Test.YtloieecpgndbhaaGreatKiC
import Derived.Test.YtloieecpgndbhaaGreatKiD
import Derived.Deep.RegionLaw
namespace Go.Proofs.YtloieecpgndbhaaGreat.Kd
open Go.RowKit By CoP Co Mo

set_option maxHeartbeats 1000000 in
theorem askOK_look (w : World) (ly : Bool) (aq se sq : Nat) (op : Int) (ke : List UInt8) (am sp : Int) (le : Nat) (ak : List UInt8) :
    Calls Tryz.prog 40 #[.agg #[.bool true, .bool ly, .int .u64 (aq : Int), .int .u64 (se : Int), .int .u64 (sq : Int), .int .i64 op, .string (str ke), .int .i64 am, .int .i64 sp, .int .u64 (le : Int), .string (str ak)]] w (Says (decide ((ak.length : Int) ≤ 64) && isNoCommand (cmdD se sq op ke am sp le)) w) := by
  have hsz := str_size ak
  cases hq : isNoCommand (cmdD se sq op ke am sp le) with
  | true =>
    simp only [cmdD, isNoCommand, Bool.and_eq_true, decide_eq_true_eq] at hq
    obtain ⟨⟨⟨⟨⟨⟨q1, q2⟩, q3⟩, q4⟩, q5⟩, q6⟩, q7⟩ := hq
    have q4' : ke = [] := by simpa using q4
    subst q4'
    rw [q1, q2, q3, q5, q6, q7]
    clear q1 q2 q3 q4 q5 q6 q7
    have hnil : (str []).toList = [] := (str_nil []).2 rfl
    by_cases h3 : (ak.length : Int) ≤ 64
    all_goals
      first | rw [decide_eq_true h3] | rw [decide_eq_false h3]
      go_enter Tryz.func40, Tryz.ntmps40
      go_wp2
      go_ret
      refine ⟨by simp_all, below_box _ _⟩
  | false =>
    rw [Bool.and_false]
    simp only [cmdD, isNoCommand] at hq
    have hne := str_nil ke
    go_enter Tryz.func40, Tryz.ntmps40
    go_wp2
    all_goals
      go_ret
      refine ⟨by simp_all, below_box _ _⟩
end Go.Proofs.YtloieecpgndbhaaGreat.Kd
