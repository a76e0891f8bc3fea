/- Package sum's and its reference's functions, as contracts of calls. -/
import Derived.Test.YtbblieengdlidaaChecked
import Derived.Test.YtbblieengdlidaaSumP
import Derived.WalkKit
import Derived.ProofKit
import Derived.OpenShut
import Derived.Deep.QuietTactic
import Derived.BigQuiet
import Derived.Lib.Hide
namespace Go.Proofs.Ytbblieengdlidaa.SumW
open Go.RowKit SumP

def Two (a b : Int) (w : World) (e : Ending) (w' : World) : Prop := e = .returned (.tuple #[.int .i64 a, .int .i64 b]) ∧ w' = w
theorem Two.of {a b a' b' : Int} (w : World) (ha : a = a') (hb : b = b') : Two a b w (.returned (.tuple #[.int .i64 a', .int .i64 b'])) w := ⟨by rw [ha, hb], rfl⟩
def One (k : IntKind) (a : Int) (w : World) (e : Ending) (w' : World) : Prop := e = .returned (.int k a) ∧ w' = w
theorem One.of {k : IntKind} {a a' : Int} (w : World) (ha : a = a') : One k a w (.returned (.int k a')) w := ⟨by rw [ha], rfl⟩
def Yes (b : Bool) (w : World) (e : Ending) (w' : World) : Prop := e = .returned (.bool b) ∧ w' = w
set_option maxHeartbeats 400000 in
theorem add_any (a b : Int) (a0 : -9223372036854775808 ≤ a) (a1 : a ≤ 9223372036854775807) (b0 : -9223372036854775808 ≤ b) (b1 : b ≤ 9223372036854775807) (w : World) :
    Calls Try.prog 10 #[.int .i64 a, .int .i64 b] w (Two (fitV (a + b)) (fitE (a + b)) w) := by
  rcases Int.lt_trichotomy b 0 with hb | hb | hb
  · have hn : ¬ (0 < b) := by omega
    have hn' : ¬ (0 ≤ b) := by omega
    by_cases h : a < -9223372036854775808 - b
    · go_enter Try.func10, Try.ntmps10
      go_wp2
      go_ret2
      exact Two.of w (fitV_out (by omega)) (fitE_out (by omega))
    · go_enter Try.func10, Try.ntmps10
      go_wp2
      go_ret2
      exact Two.of w (fitV_in (by omega) (by omega)) (fitE_in (by omega) (by omega))
  · subst hb
    have hn : fitV (a + 0) = a := by rw [fitV_in (by omega) (by omega)]; omega
    have hn' : fitE (a + 0) = 0 := fitE_in (by omega) (by omega)
    rw [hn, hn']; clear hn hn'
    have h1 : ¬ (9223372036854775807 < a) := by omega
    have h2 : ¬ (a < -9223372036854775808) := by omega
    go_enter Try.func10, Try.ntmps10
    go_wp2
    go_ret2
    exact Two.of w rfl rfl
  · have hn : ¬ (b < 0) := by omega
    have hn' : 0 ≤ b := by omega
    by_cases h : 9223372036854775807 - b < a
    · go_enter Try.func10, Try.ntmps10
      go_wp2
      go_ret2
      exact Two.of w (fitV_out (by omega)) (fitE_out (by omega))
    · go_enter Try.func10, Try.ntmps10
      go_wp2
      go_ret2
      exact Two.of w (fitV_in (by omega) (by omega)) (fitE_in (by omega) (by omega))
set_option maxHeartbeats 400000 in
theorem sub_any (a b : Int) (a0 : -9223372036854775808 ≤ a) (a1 : a ≤ 9223372036854775807) (b0 : -9223372036854775808 ≤ b) (b1 : b ≤ 9223372036854775807) (w : World) :
    Calls Try.prog 12 #[.int .i64 a, .int .i64 b] w (Two (fitV (a - b)) (fitE (a - b)) w) := by
  rcases Int.lt_trichotomy b 0 with hb | hb | hb
  · have hn : ¬ (0 < b) := by omega
    have hn' : ¬ (0 ≤ b) := by omega
    by_cases h : 9223372036854775807 + b < a
    · go_enter Try.func12, Try.ntmps12
      go_wp2
      go_ret2
      exact Two.of w (fitV_out (by omega)) (fitE_out (by omega))
    · go_enter Try.func12, Try.ntmps12
      go_wp2
      go_ret2
      exact Two.of w (fitV_in (by omega) (by omega)) (fitE_in (by omega) (by omega))
  · subst hb
    have hn : fitV (a - 0) = a := by rw [fitV_in (by omega) (by omega)]; omega
    have hn' : fitE (a - 0) = 0 := fitE_in (by omega) (by omega)
    rw [hn, hn']; clear hn hn'
    have h1 : ¬ (9223372036854775807 < a) := by omega
    have h2 : ¬ (a < -9223372036854775808) := by omega
    go_enter Try.func12, Try.ntmps12
    go_wp2
    go_ret2
    exact Two.of w rfl rfl
  · have hn : ¬ (b < 0) := by omega
    have hn' : 0 ≤ b := by omega
    by_cases h : a < -9223372036854775808 + b
    · go_enter Try.func12, Try.ntmps12
      go_wp2
      go_ret2
      exact Two.of w (fitV_out (by omega)) (fitE_out (by omega))
    · go_enter Try.func12, Try.ntmps12
      go_wp2
      go_ret2
      exact Two.of w (fitV_in (by omega) (by omega)) (fitE_in (by omega) (by omega))
set_option maxHeartbeats 400000 in
theorem radd_any (a b : Int) (a0 : -9223372036854775808 ≤ a) (a1 : a ≤ 9223372036854775807) (b0 : -9223372036854775808 ≤ b) (b1 : b ≤ 9223372036854775807) (w : World) :
    Calls Try.prog 11 #[.int .i64 a, .int .i64 b] w (Two (fitV (a + b)) (fitE (a + b)) w) := by
  rcases Int.lt_trichotomy b 0 with hb | hb | hb
  · have hn : ¬ (0 < b) := by omega
    have hn' : ¬ (0 ≤ b) := by omega
    by_cases h : a < -9223372036854775808 - b
    · go_enter Try.func11, Try.ntmps11
      go_wp2
      go_ret2
      exact Two.of w (fitV_out (by omega)) (fitE_out (by omega))
    · go_enter Try.func11, Try.ntmps11
      go_wp2
      go_ret2
      exact Two.of w (fitV_in (by omega) (by omega)) (fitE_in (by omega) (by omega))
  · subst hb
    have hn : fitV (a + 0) = a := by rw [fitV_in (by omega) (by omega)]; omega
    have hn' : fitE (a + 0) = 0 := fitE_in (by omega) (by omega)
    rw [hn, hn']; clear hn hn'
    have h1 : ¬ (9223372036854775807 < a) := by omega
    have h2 : ¬ (a < -9223372036854775808) := by omega
    go_enter Try.func11, Try.ntmps11
    go_wp2
    go_ret2
    exact Two.of w rfl rfl
  · have hn : ¬ (b < 0) := by omega
    have hn' : 0 ≤ b := by omega
    by_cases h : 9223372036854775807 - b < a
    · go_enter Try.func11, Try.ntmps11
      go_wp2
      go_ret2
      exact Two.of w (fitV_out (by omega)) (fitE_out (by omega))
    · go_enter Try.func11, Try.ntmps11
      go_wp2
      go_ret2
      exact Two.of w (fitV_in (by omega) (by omega)) (fitE_in (by omega) (by omega))
set_option maxHeartbeats 400000 in
theorem rsub_any (a b : Int) (a0 : -9223372036854775808 ≤ a) (a1 : a ≤ 9223372036854775807) (b0 : -9223372036854775808 ≤ b) (b1 : b ≤ 9223372036854775807) (w : World) :
    Calls Try.prog 13 #[.int .i64 a, .int .i64 b] w (Two (fitV (a - b)) (fitE (a - b)) w) := by
  rcases Int.lt_trichotomy b 0 with hb | hb | hb
  · have hn : ¬ (0 < b) := by omega
    have hn' : ¬ (0 ≤ b) := by omega
    by_cases h : 9223372036854775807 + b < a
    · go_enter Try.func13, Try.ntmps13
      go_wp2
      go_ret2
      exact Two.of w (fitV_out (by omega)) (fitE_out (by omega))
    · go_enter Try.func13, Try.ntmps13
      go_wp2
      go_ret2
      exact Two.of w (fitV_in (by omega) (by omega)) (fitE_in (by omega) (by omega))
  · subst hb
    have hn : fitV (a - 0) = a := by rw [fitV_in (by omega) (by omega)]; omega
    have hn' : fitE (a - 0) = 0 := fitE_in (by omega) (by omega)
    rw [hn, hn']; clear hn hn'
    have h1 : ¬ (9223372036854775807 < a) := by omega
    have h2 : ¬ (a < -9223372036854775808) := by omega
    go_enter Try.func13, Try.ntmps13
    go_wp2
    go_ret2
    exact Two.of w rfl rfl
  · have hn : ¬ (b < 0) := by omega
    have hn' : 0 ≤ b := by omega
    by_cases h : a < -9223372036854775808 + b
    · go_enter Try.func13, Try.ntmps13
      go_wp2
      go_ret2
      exact Two.of w (fitV_out (by omega)) (fitE_out (by omega))
    · go_enter Try.func13, Try.ntmps13
      go_wp2
      go_ret2
      exact Two.of w (fitV_in (by omega) (by omega)) (fitE_in (by omega) (by omega))
end Go.Proofs.Ytbblieengdlidaa.SumW
