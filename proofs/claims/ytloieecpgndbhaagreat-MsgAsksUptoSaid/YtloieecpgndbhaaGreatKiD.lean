/- Package scupperref03's CommandOK, ReplyOK, AskOK, ToldOK, as contracts of calls. -/
import Derived.Test.YtloieecpgndbhaaGreatKhE
namespace Go.Proofs.YtloieecpgndbhaaGreat.Kd
open Go.RowKit By CoP Co Mo

theorem below_box (w : World) (o : Obj) : Below w.heap.size w (w.alloc o) := (Below.refl _ _).alloc (Nat.le_refl _) _
set_option maxHeartbeats 1000000 in
theorem commandOK_any (w : World) (se sq : Nat) (op : Int) (ke : List UInt8) (am sp : Int) (le : Nat) :
    Calls Tryz.prog 36 #[.agg #[.int .u64 (se : Int), .int .u64 (sq : Int), .int .i64 op, .string (str ke), .int .i64 am, .int .i64 sp, .int .u64 (le : Int)]] w (Says (decide (1 ≤ op) && decide (op ≤ 5) && decide ((ke.length : Int) ≤ 64)) w) := by
  have hsz := str_size ke
  by_cases h1 : 1 ≤ op
  · by_cases h2 : op ≤ 5
    · by_cases h3 : (ke.length : Int) ≤ 64
      all_goals
        rw [decide_eq_true h1, decide_eq_true h2]
        first | rw [decide_eq_true h3] | rw [decide_eq_false h3]
        go_enter Tryz.func36, Tryz.ntmps36
        go_wp2
        go_ret
        refine ⟨by simp_all, below_box _ _⟩
    · rw [decide_eq_true h1, decide_eq_false h2]
      have h2' : 5 < op := by omega
      go_enter Tryz.func36, Tryz.ntmps36
      go_wp2
      go_ret
      refine ⟨by simp_all, below_box _ _⟩
  · rw [decide_eq_false h1]
    have h1' : op < 1 := by omega
    go_enter Tryz.func36, Tryz.ntmps36
    go_wp2
    go_ret
    refine ⟨by simp_all, below_box _ _⟩
set_option maxHeartbeats 1000000 in
theorem replyOK_any (w : World) (se sq : Nat) (er : Int) (lz : Nat) (am un : Int) :
    Calls Tryz.prog 38 #[.agg #[.int .u64 (se : Int), .int .u64 (sq : Int), .int .i64 er, .int .u64 (lz : Int), .int .i64 am, .int .i64 un]] w (Says (decide (0 ≤ er) && decide (er ≤ 20)) w) := by
  by_cases h1 : 0 ≤ er
  · by_cases h2 : er ≤ 20
    all_goals
      rw [decide_eq_true h1]
      first | rw [decide_eq_true h2] | rw [decide_eq_false h2]
      go_enter Tryz.func38, Tryz.ntmps38
      go_wp2
      go_ret
      refine ⟨by simp_all, below_box _ _⟩
  · rw [decide_eq_false h1]
    have h1' : er < 0 := by omega
    go_enter Tryz.func38, Tryz.ntmps38
    go_wp2
    go_ret
    refine ⟨by simp_all, below_box _ _⟩
end Go.Proofs.YtloieecpgndbhaaGreat.Kd
