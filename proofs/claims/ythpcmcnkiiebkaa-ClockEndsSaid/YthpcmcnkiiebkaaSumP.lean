/- Plain facts about sums that may be too large, and about drift: nothing here speaks of a program. -/
import Derived.WalkKit
namespace Go.Proofs.Ythpcmcnkiiebkaa.SumP
open Go.RowKit (wrap64)

def fits (n : Int) : Prop := -9223372036854775808 ≤ n ∧ n ≤ 9223372036854775807
instance (n : Int) : Decidable (fits n) := by unfold fits; infer_instance
/-- What a checked sum answers: the number, or nought. -/
def fitV (n : Int) : Int := if fits n then n else 0
/-- What a checked sum answers beside it: fine, or too large. -/
def fitE (n : Int) : Int := if fits n then 0 else 3
theorem fitV_in {n : Int} (h : -9223372036854775808 ≤ n) (h' : n ≤ 9223372036854775807) : fitV n = n := if_pos ⟨h, h'⟩
theorem fitE_in {n : Int} (h : -9223372036854775808 ≤ n) (h' : n ≤ 9223372036854775807) : fitE n = 0 := if_pos ⟨h, h'⟩
theorem fitV_out {n : Int} (h : n < -9223372036854775808 ∨ 9223372036854775807 < n) : fitV n = 0 := if_neg (by unfold fits; omega)
theorem fitE_out {n : Int} (h : n < -9223372036854775808 ∨ 9223372036854775807 < n) : fitE n = 3 := if_neg (by unfold fits; omega)
theorem fitV_fits (n : Int) : -9223372036854775808 ≤ fitV n ∧ fitV n ≤ 9223372036854775807 := by
  by_cases h : fits n
  · rw [fitV, if_pos h]; exact h
  · rw [fitV, if_neg h]; omega
theorem fitE_cases (n : Int) : fitE n = 0 ∨ fitE n = 3 := by
  by_cases h : fits n
  · rw [fitE, if_pos h]; exact Or.inl rfl
  · rw [fitE, if_neg h]; exact Or.inr rfl
theorem fit_ok {n : Int} (h : fitE n = 0) : fits n ∧ fitV n = n := by
  by_cases h' : fits n
  · exact ⟨h', if_pos h'⟩
  · rw [fitE, if_neg h'] at h; omega

/-- A wrapped number differs from the number by whole rounds. -/
theorem wrap64_round (n : Int) : ∃ k : Int, wrap64 n = n - 18446744073709551616 * k ∧ -9223372036854775808 ≤ wrap64 n ∧ wrap64 n ≤ 9223372036854775807 := by
  refine ⟨(n + 9223372036854775808) / 18446744073709551616, ?_, ?_, ?_⟩ <;> unfold wrap64 <;> omega

theorem tdiv_rest (p b : Int) : p = b * p.tdiv b + p.tmod b := by have := Int.mul_tdiv_add_tmod p b; omega

theorem tmod_small (p b : Int) (hb : b ≠ 0) : (p.tmod b).natAbs < b.natAbs := by
  rw [Int.natAbs_tmod]; exact Nat.mod_lt _ (by omega)

/-- Behind a product that is too large the quotient tells. -/
theorem mul_out (a b p : Int) (hb : b ≠ 0) (b0 : -9223372036854775808 ≤ b) (b1 : b ≤ 9223372036854775807) (hp : p = wrap64 (a * b)) (h : ¬ fits (a * b)) : p.tdiv b ≠ a := by
  intro e
  obtain ⟨k, h1, h2, h3⟩ := wrap64_round (a * b)
  rw [← hp] at h1 h2 h3
  have h4 := tdiv_rest p b
  have h5 := tmod_small p b hb
  rw [e, Int.mul_comm b a] at h4
  unfold fits at h
  generalize a * b = m at *
  generalize p.tmod b = r at *
  omega

theorem tdiv_in (p b : Int) (hb : b ≠ 0) (hb' : b ≠ -1) (p0 : -9223372036854775808 ≤ p) (p1 : p ≤ 9223372036854775807) : -9223372036854775808 ≤ p.tdiv b ∧ p.tdiv b ≤ 9223372036854775807 := by
  have e : (p.tdiv b).natAbs = p.natAbs / b.natAbs := Int.natAbs_tdiv p b
  by_cases h1 : b = 1
  · subst h1; simp; omega
  · have h2 : 2 ≤ b.natAbs := by omega
    have h3 : p.natAbs / b.natAbs ≤ p.natAbs / 2 := Nat.div_le_div_left h2 (by omega)
    omega

/-! ### Drift -/
/-- May a time and a drift be? -/
def TameT (t r : Int) : Prop := 0 ≤ t ∧ t ≤ 1099511627776 ∧ 0 ≤ r ∧ r ≤ 500000
instance (t r : Int) : Decidable (TameT t r) := by unfold TameT; infer_instance
def mostF (t r : Int) : Int := t * (1000000 + r) / 1000000
def shrF (t r : Int) : Int := t * 1000000 / (1000000 + r)
def leastF (t r : Int) : Int := (t * 1000000 + 1000000 + r - 1) / (1000000 + r)
def guardF (t r : Int) : Int := shrF (shrF t r) r

theorem prod_in {t c T C : Int} (t0 : 0 ≤ t) (t1 : t ≤ T) (c0 : 0 ≤ c) (c1 : c ≤ C) : 0 ≤ t * c ∧ t * c ≤ T * C :=
  ⟨Int.mul_nonneg t0 c0, Int.le_trans (Int.mul_le_mul_of_nonneg_right t1 c0) (Int.mul_le_mul_of_nonneg_left c1 (Int.le_trans t0 t1))⟩

theorem most_prod {t r : Int} (h : TameT t r) : 0 ≤ t * (1000000 + r) ∧ t * (1000000 + r) ≤ 1649267441664000000 := by
  obtain ⟨h1, h2, h3, h4⟩ := h
  have := prod_in h1 h2 (show 0 ≤ 1000000 + r by omega) (show 1000000 + r ≤ 1500000 by omega)
  omega
theorem most_in {t r : Int} (h : TameT t r) : t ≤ mostF t r ∧ 0 ≤ mostF t r ∧ mostF t r ≤ 1649267441664 := by
  have h5 := most_prod h
  obtain ⟨h1, h2, h3, h4⟩ := h
  have h6 : t * 1000000 ≤ t * (1000000 + r) := Int.mul_le_mul_of_nonneg_left (by omega) h1
  unfold mostF
  omega
/-- What a whole part of a time is. -/
theorem shr_spec {t r : Int} (h : TameT t r) : shrF t r * (1000000 + r) ≤ t * 1000000 ∧ t * 1000000 < shrF t r * (1000000 + r) + (1000000 + r) := by
  obtain ⟨h1, h2, h3, h4⟩ := h
  have h5 := Int.ediv_mul_le (t * 1000000) (show (1000000 + r) ≠ 0 by omega)
  have h6 := Int.lt_ediv_add_one_mul_self (t * 1000000) (show 0 < 1000000 + r by omega)
  rw [Int.add_mul, Int.one_mul] at h6
  exact ⟨h5, h6⟩
theorem shr_in {t r : Int} (h : TameT t r) : 0 ≤ shrF t r ∧ shrF t r ≤ t := by
  obtain ⟨h1, h2, h3, h4⟩ := h
  refine ⟨Int.ediv_nonneg (by omega) (by omega), ?_⟩
  refine Int.ediv_le_of_le_mul (by omega) ?_
  exact Int.mul_le_mul_of_nonneg_left (by omega) h1
theorem shr_good {t r : Int} (h : TameT t r) : TameT (shrF t r) r := by
  have h5 := shr_in h
  obtain ⟨h1, h2, h3, h4⟩ := h
  exact ⟨by omega, by omega, h3, h4⟩
theorem guard_in {t r : Int} (h : TameT t r) : 0 ≤ guardF t r ∧ guardF t r ≤ shrF t r := shr_in (shr_good h)
theorem guard_good {t r : Int} (h : TameT t r) : TameT (guardF t r) r := shr_good (shr_good h)
/-- Cut up: one more, but where nothing was cut. -/
theorem least_eq {t r : Int} (h : TameT t r) : leastF t r = if shrF t r * (1000000 + r) < t * 1000000 then shrF t r + 1 else shrF t r := by
  have h5 := shr_spec h
  obtain ⟨h1, h2, h3, h4⟩ := h
  unfold leastF
  generalize shrF t r = q at *
  have e : (q + 1) * (1000000 + r) = q * (1000000 + r) + (1000000 + r) := by rw [Int.add_mul, Int.one_mul]
  have e2 : (q + 1 + 1) * (1000000 + r) = q * (1000000 + r) + (1000000 + r) + (1000000 + r) := by rw [Int.add_mul, e, Int.one_mul]
  split
  · have a1 : q + 1 ≤ (t * 1000000 + 1000000 + r - 1) / (1000000 + r) := (Int.le_ediv_iff_mul_le (by omega)).2 (by omega)
    have a2 : (t * 1000000 + 1000000 + r - 1) / (1000000 + r) < q + 1 + 1 := (Int.ediv_lt_iff_lt_mul (by omega)).2 (by omega)
    omega
  · have a1 : q ≤ (t * 1000000 + 1000000 + r - 1) / (1000000 + r) := (Int.le_ediv_iff_mul_le (by omega)).2 (by omega)
    have a2 : (t * 1000000 + 1000000 + r - 1) / (1000000 + r) < q + 1 := (Int.ediv_lt_iff_lt_mul (by omega)).2 (by omega)
    omega
theorem least_in {t r : Int} (h : TameT t r) : 0 ≤ leastF t r ∧ leastF t r ≤ t ∧ shrF t r ≤ leastF t r ∧ leastF t r ≤ shrF t r + 1 := by
  have h5 := least_eq h
  have h6 := shr_in h
  have h7 := shr_spec h
  obtain ⟨h1, h2, h3, h4⟩ := h
  by_cases e : shrF t r = t
  · rw [e] at h5 h6 h7
    have h8 : t * 1000000 ≤ t * (1000000 + r) := Int.mul_le_mul_of_nonneg_left (by omega) h1
    rw [if_neg (by omega)] at h5
    omega
  · split at h5 <;> omega
/-- A number by whole parts and rests. -/
theorem ratio_eq (t a b : Int) (hb : 0 < b) : t / b * a + t % b * a / b = t * a / b := by
  have e : t * a = t % b * a + b * (t / b * a) := by
    have := Int.emod_add_mul_ediv t b
    calc t * a = (t % b + b * (t / b)) * a := by rw [this]
      _ = t % b * a + b * (t / b * a) := by rw [Int.add_mul, Int.mul_assoc]
  rw [e, Int.add_mul_ediv_left _ _ (by omega)]
  omega
theorem mostF_mono {t u r s : Int} (t0 : 0 ≤ t) (tu : t ≤ u) (r0 : 0 ≤ r) (rs : r ≤ s) : mostF t r ≤ mostF u s := by
  refine Int.ediv_le_ediv (by omega) ?_
  exact Int.le_trans (Int.mul_le_mul_of_nonneg_right tu (by omega)) (Int.mul_le_mul_of_nonneg_left (by omega) (by omega))
theorem shrF_mono {t u r s : Int} (t0 : 0 ≤ t) (tu : t ≤ u) (r0 : 0 ≤ r) (rs : r ≤ s) : shrF t s ≤ shrF u r := by
  unfold shrF
  refine (Int.le_ediv_iff_mul_le (by omega)).2 ?_
  have h1 := Int.ediv_mul_le (t * 1000000) (show (1000000 + s) ≠ 0 by omega)
  have h2 : 0 ≤ t * 1000000 / (1000000 + s) := Int.ediv_nonneg (by omega) (by omega)
  have h3 : t * 1000000 / (1000000 + s) * (1000000 + r) ≤ t * 1000000 / (1000000 + s) * (1000000 + s) := Int.mul_le_mul_of_nonneg_left (by omega) h2
  omega
theorem shrF_zero (t : Int) : shrF t 0 = t := by unfold shrF; omega
theorem guardF_zero (t : Int) : guardF t 0 = t := by unfold guardF; rw [shrF_zero, shrF_zero]
theorem guardF_mono {t u r s : Int} (t0 : 0 ≤ t) (tu : t ≤ u) (r0 : 0 ≤ r) (rs : r ≤ s) (hu : TameT t s) : guardF t s ≤ guardF u r :=
  shrF_mono (shr_in hu).1 (shrF_mono t0 tu r0 rs) r0 rs
/-- A part that counts the guarded time is done ahead. -/
theorem most_shr {t r : Int} (h : TameT t r) : mostF (shrF t r) r ≤ t := by
  have h5 := shr_spec h
  exact Int.ediv_le_of_le_mul (by omega) h5.1
/-- Cut down, two parts are no more than the whole, and at most one less. -/
theorem floor_parts (x y d : Int) (hd : 0 < d) : 0 ≤ (x + y) / d - x / d - y / d ∧ (x + y) / d - x / d - y / d ≤ 1 := by
  have hx := Int.ediv_mul_le x (show d ≠ 0 by omega)
  have hx' := Int.lt_ediv_add_one_mul_self x hd
  have hy := Int.ediv_mul_le y (show d ≠ 0 by omega)
  have hy' := Int.lt_ediv_add_one_mul_self y hd
  generalize x / d = p at *
  generalize y / d = q at *
  have a1 : p + q ≤ (x + y) / d := (Int.le_ediv_iff_mul_le hd).2 (by rw [Int.add_mul]; omega)
  have a2 : (x + y) / d < p + q + 1 + 1 := (Int.ediv_lt_iff_lt_mul hd).2 (by rw [Int.add_mul, Int.add_mul, Int.add_mul]; rw [Int.add_mul] at hx' hy'; omega)
  omega
theorem most_parts (t u r : Int) : 0 ≤ mostF (t + u) r - mostF t r - mostF u r ∧ mostF (t + u) r - mostF t r - mostF u r ≤ 1 := by
  unfold mostF; rw [Int.add_mul]; exact floor_parts _ _ _ (by omega)
theorem shr_parts (t u r : Int) (r0 : 0 ≤ r) : 0 ≤ shrF (t + u) r - shrF t r - shrF u r ∧ shrF (t + u) r - shrF t r - shrF u r ≤ 1 := by
  unfold shrF; rw [Int.add_mul]; exact floor_parts _ _ _ (by omega)
theorem least_neg (t r : Int) (r0 : 0 ≤ r) : leastF t r = - (-(t * 1000000) / (1000000 + r)) := by
  unfold leastF
  have hy := Int.ediv_mul_le (-(t * 1000000)) (show 1000000 + r ≠ 0 by omega)
  have hy' := Int.lt_ediv_add_one_mul_self (-(t * 1000000)) (show 0 < 1000000 + r by omega)
  generalize -(t * 1000000) / (1000000 + r) = q at *
  rw [Int.add_mul, Int.one_mul] at hy'
  have e := Int.neg_mul q (1000000 + r)
  have a1 : -q ≤ (t * 1000000 + 1000000 + r - 1) / (1000000 + r) := (Int.le_ediv_iff_mul_le (by omega)).2 (by rw [e]; omega)
  have a2 : (t * 1000000 + 1000000 + r - 1) / (1000000 + r) < -q + 1 := (Int.ediv_lt_iff_lt_mul (by omega)).2 (by rw [Int.add_mul, Int.one_mul, e]; omega)
  omega
theorem least_parts (t u r : Int) (r0 : 0 ≤ r) : 0 ≤ leastF t r + leastF u r - leastF (t + u) r ∧ leastF t r + leastF u r - leastF (t + u) r ≤ 1 := by
  rw [least_neg t r r0, least_neg u r r0, least_neg (t + u) r r0]
  have e : -((t + u) * 1000000) = -(t * 1000000) + -(u * 1000000) := by omega
  rw [e]
  have := floor_parts (-(t * 1000000)) (-(u * 1000000)) (1000000 + r) (by omega)
  omega
end Go.Proofs.Ythpcmcnkiiebkaa.SumP
