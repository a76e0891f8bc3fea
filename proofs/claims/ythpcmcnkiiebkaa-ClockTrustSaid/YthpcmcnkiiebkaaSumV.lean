/- Drift: package sum's and its reference's functions, as contracts of calls. -/
import Derived.Test.YthpcmcnkiiebkaaSumW
namespace Go.Proofs.Ythpcmcnkiiebkaa.SumW
open Go.RowKit SumP

/-- An integer, and draws alone. -/
def Drawn (v : Int) (w : World) (e : Ending) (w' : World) : Prop := e = .returned (.int .i64 v) ∧ ∃ n, w' = w.drewN n
theorem Drawn.of {v v' : Int} {w : World} {n : Nat} (h : v = v') : Drawn v w (.returned (.int .i64 v')) (w.drewN n) := ⟨by rw [h], _, rfl⟩
theorem bad_ways {t r : Int} (h : ¬ TameT t r) : t < 0 ∨ (0 ≤ t ∧ 1099511627776 < t) ∨ (0 ≤ t ∧ t ≤ 1099511627776 ∧ r < 0) ∨ (0 ≤ t ∧ t ≤ 1099511627776 ∧ 0 ≤ r ∧ 500000 < r) := by
  unfold TameT at h; omega
theorem One.mk {k : IntKind} {a : Int} {w w' : World} {e : Ending} (h : One k a w e w') : e = .returned (.int k a) ∧ w' = w := h
theorem check_bad (t r : Int) (h : ¬ TameT t r) (w : World) : Calls Try.prog 34 #[.int .i64 t, .int .i64 r] w (One .i64 1 w) := by
  rcases bad_ways h with h | ⟨h0, h1⟩ | ⟨h0, h1, h2⟩ | ⟨h0, h1, h2, h3⟩
  · have hn : ¬ (0 ≤ t) := by omega
    go_enter Try.func34, Try.ntmps34
    go_wp2
    go_ret
    exact ⟨rfl, rfl⟩
  · have hn : ¬ (t < 0) := by omega
    have hn2 : ¬ (t ≤ 1099511627776) := by omega
    go_enter Try.func34, Try.ntmps34
    go_wp2
    go_ret
    exact ⟨rfl, rfl⟩
  · have hn : ¬ (t < 0) := by omega
    have hn2 : ¬ (1099511627776 < t) := by omega
    have hn3 : ¬ (0 ≤ r) := by omega
    go_enter Try.func34, Try.ntmps34
    go_wp2
    go_ret
    exact ⟨rfl, rfl⟩
  · have hn : ¬ (t < 0) := by omega
    have hn2 : ¬ (1099511627776 < t) := by omega
    have hn3 : ¬ (r < 0) := by omega
    have hn4 : ¬ (r ≤ 500000) := by omega
    go_enter Try.func34, Try.ntmps34
    go_wp2
    go_ret
    exact ⟨rfl, rfl⟩
theorem check_good (t r : Int) (h : TameT t r) (w : World) : Calls Try.prog 34 #[.int .i64 t, .int .i64 r] w (One .i64 0 w) := by
  obtain ⟨h0, h1, h2, h3⟩ := h
  have n0 : ¬ (t < 0) := by omega
  have n1 : ¬ (1099511627776 < t) := by omega
  have n2 : ¬ (r < 0) := by omega
  have n3 : ¬ (500000 < r) := by omega
  go_enter Try.func34, Try.ntmps34
  go_wp2
  go_ret
  exact ⟨rfl, rfl⟩
theorem rbad_bad (t r : Int) (h : ¬ TameT t r) (w : World) : Calls Try.prog 17 #[.int .i64 t, .int .i64 r] w (Yes true w) := by
  rcases bad_ways h with h | ⟨h0, h1⟩ | ⟨h0, h1, h2⟩ | ⟨h0, h1, h2, h3⟩
  · have hn : ¬ (0 ≤ t) := by omega
    go_enter Try.func17, Try.ntmps17
    go_wp2
    go_ret
    exact ⟨rfl, rfl⟩
  · have hn : ¬ (t < 0) := by omega
    have hn2 : ¬ (t ≤ 1099511627776) := by omega
    go_enter Try.func17, Try.ntmps17
    go_wp2
    go_ret
    exact ⟨rfl, rfl⟩
  · have hn : ¬ (t < 0) := by omega
    have hn2 : ¬ (1099511627776 < t) := by omega
    have hn3 : ¬ (0 ≤ r) := by omega
    go_enter Try.func17, Try.ntmps17
    go_wp2
    go_ret
    exact ⟨rfl, rfl⟩
  · have hn : ¬ (t < 0) := by omega
    have hn2 : ¬ (1099511627776 < t) := by omega
    have hn3 : ¬ (r < 0) := by omega
    have hn4 : ¬ (r ≤ 500000) := by omega
    go_enter Try.func17, Try.ntmps17
    go_wp2
    go_ret
    exact ⟨rfl, rfl⟩
theorem rbad_good (t r : Int) (h : TameT t r) (w : World) : Calls Try.prog 17 #[.int .i64 t, .int .i64 r] w (Yes false w) := by
  obtain ⟨h0, h1, h2, h3⟩ := h
  have n0 : ¬ (t < 0) := by omega
  have n1 : ¬ (1099511627776 < t) := by omega
  have n2 : ¬ (r < 0) := by omega
  have n3 : ¬ (500000 < r) := by omega
  go_enter Try.func17, Try.ntmps17
  go_wp2
  go_ret
  exact ⟨rfl, rfl⟩
theorem most_bad (t r : Int) (h : ¬ TameT t r) (w : World) : Calls Try.prog 32 #[.int .i64 t, .int .i64 r] w (Two 0 1 w) := by
  go_enter Try.func32, Try.ntmps32
  go_wp2_with (go_at_call 34; refine (check_bad _ _ h _).mono ?_; rintro e w1 ⟨rfl, rfl⟩)
  go_ret2
  exact ⟨rfl, rfl⟩
theorem most_good (t r : Int) (h : TameT t r) (w : World) : Calls Try.prog 32 #[.int .i64 t, .int .i64 r] w (Two (mostF t r) 0 w) := by
  have hp := most_prod h
  have hg := h
  obtain ⟨h0, h1, h2, h3⟩ := h
  go_enter Try.func32, Try.ntmps32
  go_wp2_with (go_at_call 34; refine (check_good _ _ hg _).mono ?_; rintro e w1 ⟨rfl, rfl⟩)
  go_ret2
  exact Two.of _ rfl rfl
theorem least_bad (t r : Int) (h : ¬ TameT t r) (w : World) : Calls Try.prog 31 #[.int .i64 t, .int .i64 r] w (Two 0 1 w) := by
  go_enter Try.func31, Try.ntmps31
  go_wp2_with (go_at_call 34; refine (check_bad _ _ h _).mono ?_; rintro e w1 ⟨rfl, rfl⟩)
  go_ret2
  exact ⟨rfl, rfl⟩
theorem least_good (t r : Int) (h : TameT t r) (w : World) : Calls Try.prog 31 #[.int .i64 t, .int .i64 r] w (Two (leastF t r) 0 w) := by
  skip
  have hg := h
  obtain ⟨h0, h1, h2, h3⟩ := h
  go_enter Try.func31, Try.ntmps31
  go_wp2_with (go_at_call 34; refine (check_good _ _ hg _).mono ?_; rintro e w1 ⟨rfl, rfl⟩)
  go_ret2
  exact Two.of _ rfl rfl
theorem ratio_any (t a b : Int) (t0 : 0 ≤ t) (t1 : t ≤ 1099511627776) (a0 : 0 ≤ a) (a1 : a ≤ 1500000) (b0 : 1 ≤ b) (b1 : b ≤ 1500000) (w : World) :
    Calls Try.prog 33 #[.int .i64 t, .int .i64 a, .int .i64 b] w (fun e w' => e = .returned (.int .i64 (t * a / b)) ∧ ∃ n, w' = w.drewN n) := by
  have q0 : 0 ≤ t / b := Int.ediv_nonneg t0 (by omega)
  have q1 : t / b ≤ 1099511627776 := Int.le_trans (Int.ediv_le_self _ t0) t1
  have m0 : 0 ≤ t % b := Int.emod_nonneg _ (by omega)
  have m1 : t % b ≤ 1500000 := by have := Int.emod_lt_of_pos t (show 0 < b by omega); omega
  have p0 := prod_in q0 q1 a0 a1
  have p1 := prod_in m0 m1 a0 a1
  have p2 : 0 ≤ t % b * a / b := Int.ediv_nonneg p1.1 (by omega)
  have p3 : t % b * a / b ≤ 2250000000000 := by have := Int.ediv_le_self b p1.1; omega
  have HR := Lib.hid (ratio_eq t a b (by omega))
  go_enter Try.func33, Try.ntmps33
  go_wp2
  go_quiet (fail)
  go_wp2
  go_ret
  exact ⟨congrArg (fun z => Ending.returned (Value.int .i64 z)) HR.out, _, rfl⟩
theorem rmost_good (t r : Int) (h : TameT t r) (w : World) : Calls Try.prog 30 #[.int .i64 t, .int .i64 r] w (Drawn (mostF t r) w) := by
  obtain ⟨h0, h1, h2, h3⟩ := h
  go_enter Try.func30, Try.ntmps30
  go_wp2_with fail
  refine (ratio_any _ _ _ (by omega) (by omega) (by omega) (by omega) (by omega) (by omega) _).mono ?_
  rintro e w1 ⟨rfl, n1, rfl⟩
  go_wp2
  go_ret
  exact Drawn.of rfl
theorem rshr_good (t r : Int) (h : TameT t r) (w : World) : Calls Try.prog 27 #[.int .i64 t, .int .i64 r] w (Drawn (shrF t r) w) := by
  obtain ⟨h0, h1, h2, h3⟩ := h
  go_enter Try.func27, Try.ntmps27
  go_wp2_with fail
  refine (ratio_any _ _ _ (by omega) (by omega) (by omega) (by omega) (by omega) (by omega) _).mono ?_
  rintro e w1 ⟨rfl, n1, rfl⟩
  go_wp2
  go_ret
  exact Drawn.of rfl
theorem rleast_good (t r : Int) (h : TameT t r) (w : World) : Calls Try.prog 29 #[.int .i64 t, .int .i64 r] w (Drawn (leastF t r) w) := by
  have HE := Lib.hid (least_eq h)
  have hg := h
  have hi := shr_in h
  have hs := (shr_spec h).1
  obtain ⟨h0, h1, h2, h3⟩ := h
  have hs0 : 0 ≤ shrF t r * (1000000 + r) := Int.mul_nonneg hi.1 (by omega)
  by_cases hc : shrF t r * (1000000 + r) < t * 1000000
  · go_enter Try.func29, Try.ntmps29
    go_wp2_with fail
    refine (rshr_good _ _ hg _).mono ?_
    rintro e w1 ⟨rfl, n1, rfl⟩
    go_wp2
    go_ret
    exact Drawn.of (by rw [HE.out, if_pos hc])
  · go_enter Try.func29, Try.ntmps29
    go_wp2_with fail
    refine (rshr_good _ _ hg _).mono ?_
    rintro e w1 ⟨rfl, n1, rfl⟩
    go_wp2
    go_ret
    exact Drawn.of (by rw [HE.out, if_neg (by omega)])
theorem rguard_good (t r : Int) (h : TameT t r) (w : World) : Calls Try.prog 18 #[.int .i64 t, .int .i64 r] w (Drawn (guardF t r) w) := by
  have hs := shr_good h
  go_enter Try.func18, Try.ntmps18
  go_wp2_with fail
  refine (rshr_good _ _ h _).mono ?_
  rintro e w1 ⟨rfl, n1, rfl⟩
  go_wp2_with fail
  refine (rshr_good _ _ hs _).mono ?_
  rintro e w1 ⟨rfl, n2, rfl⟩
  go_wp2
  go_ret
  exact Drawn.of rfl
end Go.Proofs.Ythpcmcnkiiebkaa.SumW
