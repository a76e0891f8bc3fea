/- The laws of layer 1, but the two over lists: each function of plain numbers returns true. -/
import Derived.Test.YtbblieengdlidaaSumV
import Derived.Test.YtbblieengdlidaaSumM
namespace Go.Proofs.Ytbblieengdlidaa.SumW
open Go.RowKit SumP

theorem answers_yes (w : World) : Calls Try.prog 16 #[] w (Yes true w) := by
  have hv : fitV (2 + 3) = 5 := fitV_in (by omega) (by omega)
  have he : fitE (2 + 3) = 0 := fitE_in (by omega) (by omega)
  have hc : Calls Try.prog 10 #[.int .i64 2, .int .i64 3] w (Two 5 0 w) := by
    have h := add_any 2 3 (by omega) (by omega) (by omega) (by omega) w
    rw [hv, he] at h; exact h
  clear hv he
  go_enter Try.func16, Try.ntmps16
  go_wp2_with fail
  refine (hc).mono ?_
  rintro e w1 ⟨rfl, rfl⟩
  go_wp2
  go_ret
  exact ⟨rfl, rfl⟩
set_option maxRecDepth 100000 in
set_option maxHeartbeats 1000000 in
theorem sumTwo_true (a : Int) (b : Int) (wa : (Lit.int .i64 a).wf = true) (wb : (Lit.int .i64 b).wf = true) (w : World) :
    Calls Try.prog 3 #[.int .i64 a, .int .i64 b] w (fun e w' => e = .returned (.bool true) ∧ ∃ n, w' = w.drewN n) := by
  obtain ⟨a0, a1⟩ := bounds_i64 wa
  obtain ⟨b0, b1⟩ := bounds_i64 wb
  clear wa wb
  go_enter Try.func3, Try.ntmps3
  go_wp2_with fail
  refine (add_any _ _ a0 a1 b0 b1 _).mono ?_
  rintro e w1 ⟨rfl, rfl⟩
  go_wp2_with fail
  refine (radd_any _ _ a0 a1 b0 b1 _).mono ?_
  rintro e w1 ⟨rfl, rfl⟩
  go_wp2_with fail
  refine (sub_any _ _ a0 a1 b0 b1 _).mono ?_
  rintro e w1 ⟨rfl, rfl⟩
  go_wp2_with fail
  refine (rsub_any _ _ a0 a1 b0 b1 _).mono ?_
  rintro e w1 ⟨rfl, rfl⟩
  go_wp2_with fail
  refine (mul_any _ _ a0 a1 b0 b1 _).mono ?_
  rintro e w1 ⟨rfl, rfl⟩
  go_wp2_with fail
  refine (rmul_any _ _ a0 a1 b0 b1 _).mono ?_
  rintro e w1 ⟨rfl, rfl⟩
  go_wp2_with fail
  refine (answers_yes _).mono ?_
  rintro e w1 ⟨rfl, rfl⟩
  go_wp2
  go_ret
  exact ⟨rfl, 0, rfl⟩
set_option maxRecDepth 100000 in
set_option maxHeartbeats 1000000 in
theorem sumDrift_true (t : Int) (r : Int) (wt : (Lit.int .i64 t).wf = true) (wr : (Lit.int .i64 r).wf = true) (w : World) :
    Calls Try.prog 6 #[.int .i64 t, .int .i64 r] w (fun e w' => e = .returned (.bool true) ∧ ∃ n, w' = w.drewN n) := by
  obtain ⟨t0, t1⟩ := bounds_i64 wt
  obtain ⟨r0, r1⟩ := bounds_i64 wr
  clear wt wr
  by_cases h : TameT t r
  · skip
    go_enter Try.func6, Try.ntmps6
    go_wp2_with fail
    refine (most_good _ _ h _).mono ?_
    rintro e w1 ⟨rfl, rfl⟩
    go_wp2_with fail
    refine (least_good _ _ h _).mono ?_
    rintro e w1 ⟨rfl, rfl⟩
    go_wp2_with fail
    refine (shr_good' _ _ h _).mono ?_
    rintro e w1 ⟨rfl, rfl⟩
    go_wp2_with fail
    refine (guard_good' _ _ h _).mono ?_
    rintro e w1 ⟨rfl, rfl⟩
    go_wp2_with fail
    refine (answers_yes _).mono ?_
    rintro e w1 ⟨rfl, rfl⟩
    go_wp2_with fail
    refine (rbad_good _ _ h _).mono ?_
    rintro e w1 ⟨rfl, rfl⟩
    go_wp2_with fail
    refine (rmost_good _ _ h _).mono ?_
    rintro e w1 ⟨rfl, n1, rfl⟩
    go_wp2_with fail
    refine (rleast_good _ _ h _).mono ?_
    rintro e w1 ⟨rfl, n2, rfl⟩
    go_wp2_with fail
    refine (rshr_good _ _ h _).mono ?_
    rintro e w1 ⟨rfl, n3, rfl⟩
    go_wp2_with fail
    refine (rguard_good _ _ h _).mono ?_
    rintro e w1 ⟨rfl, n4, rfl⟩
    go_wp2
    go_ret
    exact ⟨rfl, _, rfl⟩
  · skip
    go_enter Try.func6, Try.ntmps6
    go_wp2_with fail
    refine (most_bad _ _ h _).mono ?_
    rintro e w1 ⟨rfl, rfl⟩
    go_wp2_with fail
    refine (least_bad _ _ h _).mono ?_
    rintro e w1 ⟨rfl, rfl⟩
    go_wp2_with fail
    refine (shr_bad _ _ h _).mono ?_
    rintro e w1 ⟨rfl, rfl⟩
    go_wp2_with fail
    refine (guard_bad _ _ h _).mono ?_
    rintro e w1 ⟨rfl, rfl⟩
    go_wp2_with fail
    refine (answers_yes _).mono ?_
    rintro e w1 ⟨rfl, rfl⟩
    go_wp2_with fail
    refine (rbad_bad _ _ h _).mono ?_
    rintro e w1 ⟨rfl, rfl⟩
    go_wp2
    go_ret
    exact ⟨rfl, 0, rfl⟩
set_option maxRecDepth 100000 in
set_option maxHeartbeats 1000000 in
theorem sumTrust_true (t : Int) (r : Int) (wt : (Lit.int .i64 t).wf = true) (wr : (Lit.int .i64 r).wf = true) (w : World) :
    Calls Try.prog 7 #[.int .i64 t, .int .i64 r] w (fun e w' => e = .returned (.bool true) ∧ ∃ n, w' = w.drewN n) := by
  obtain ⟨t0, t1⟩ := bounds_i64 wt
  obtain ⟨r0, r1⟩ := bounds_i64 wr
  clear wt wr
  by_cases h : TameT t r
  · have hs := shr_good h
    have hg := guard_good h
    have s1 := shr_in h
    have q1 := guard_in h
    have hb1 : mostF (guardF t r) r ≤ shrF t r := most_shr hs
    have hb2 : mostF (shrF t r) r ≤ t := most_shr h
    have hb3 : guardF t r * (1000000 + r) ≤ shrF t r * 1000000 := (shr_spec hs).1
    have hb4 := most_prod hg
    have hr := h.2.2
    have ht := h.2.1
    go_enter Try.func7, Try.ntmps7
    go_wp2_with fail
    refine (guard_good' _ _ h _).mono ?_
    rintro e w1 ⟨rfl, rfl⟩
    go_wp2_with fail
    refine (answers_yes _).mono ?_
    rintro e w1 ⟨rfl, rfl⟩
    go_wp2_with fail
    refine (shr_good' _ _ h _).mono ?_
    rintro e w1 ⟨rfl, rfl⟩
    go_wp2_with fail
    refine (most_good _ _ hg _).mono ?_
    rintro e w1 ⟨rfl, rfl⟩
    go_wp2_with fail
    refine (most_good _ _ hs _).mono ?_
    rintro e w1 ⟨rfl, rfl⟩
    go_wp2
    go_ret
    exact ⟨rfl, 0, rfl⟩
  · skip
    go_enter Try.func7, Try.ntmps7
    go_wp2_with fail
    refine (guard_bad _ _ h _).mono ?_
    rintro e w1 ⟨rfl, rfl⟩
    go_wp2_with fail
    refine (answers_yes _).mono ?_
    rintro e w1 ⟨rfl, rfl⟩
    go_wp2_with fail
    refine (answers_yes _).mono ?_
    rintro e w1 ⟨rfl, rfl⟩
    go_wp2_with fail
    refine (rbad_bad _ _ h _).mono ?_
    rintro e w1 ⟨rfl, rfl⟩
    go_wp2
    go_ret
    exact ⟨rfl, 0, rfl⟩
theorem guard_zero (t : Int) (h : TameT t 0) (w : World) : Calls Try.prog 22 #[.int .i64 t, .int .i64 0] w (Two t 0 w) := by
  have := guard_good' t 0 h w
  rw [guardF_zero] at this; exact this
set_option maxRecDepth 100000 in
set_option maxHeartbeats 1000000 in
theorem sumOrder_true (t : Int) (u : Int) (r : Int) (m : Int) (wt : (Lit.int .i64 t).wf = true) (wu : (Lit.int .i64 u).wf = true) (wr : (Lit.int .i64 r).wf = true) (wm : (Lit.int .i64 m).wf = true) (w : World) :
    Calls Try.prog 8 #[.int .i64 t, .int .i64 u, .int .i64 r, .int .i64 m] w (fun e w' => e = .returned (.bool true) ∧ ∃ n, w' = w.drewN n) := by
  obtain ⟨t0, t1⟩ := bounds_i64 wt
  obtain ⟨u0, u1⟩ := bounds_i64 wu
  obtain ⟨r0, r1⟩ := bounds_i64 wr
  obtain ⟨m0, m1⟩ := bounds_i64 wm
  clear wt wu wr wm
  by_cases h : TameT t r
  rotate_left
  · skip
    go_enter Try.func8, Try.ntmps8
    go_wp2_with fail
    refine (answers_yes _).mono ?_
    rintro e w1 ⟨rfl, rfl⟩
    go_wp2_with fail
    refine (rbad_bad _ _ h _).mono ?_
    rintro e w1 ⟨rfl, rfl⟩
    go_wp2_with fail
    refine (answers_yes _).mono ?_
    rintro e w1 ⟨rfl, rfl⟩
    go_wp2
    go_ret
    exact ⟨rfl, 0, rfl⟩
  by_cases k : TameT u m
  rotate_left
  · skip
    go_enter Try.func8, Try.ntmps8
    go_wp2_with fail
    refine (answers_yes _).mono ?_
    rintro e w1 ⟨rfl, rfl⟩
    go_wp2_with fail
    refine (rbad_good _ _ h _).mono ?_
    rintro e w1 ⟨rfl, rfl⟩
    go_wp2_with fail
    refine (rbad_bad _ _ k _).mono ?_
    rintro e w1 ⟨rfl, rfl⟩
    go_wp2_with fail
    refine (answers_yes _).mono ?_
    rintro e w1 ⟨rfl, rfl⟩
    go_wp2
    go_ret
    exact ⟨rfl, 0, rfl⟩
  by_cases tu : u < t
  · skip
    go_enter Try.func8, Try.ntmps8
    go_wp2_with fail
    refine (answers_yes _).mono ?_
    rintro e w1 ⟨rfl, rfl⟩
    go_wp2_with fail
    refine (rbad_good _ _ h _).mono ?_
    rintro e w1 ⟨rfl, rfl⟩
    go_wp2_with fail
    refine (rbad_good _ _ k _).mono ?_
    rintro e w1 ⟨rfl, rfl⟩
    go_wp2_with fail
    refine (answers_yes _).mono ?_
    rintro e w1 ⟨rfl, rfl⟩
    go_wp2
    go_ret
    exact ⟨rfl, 0, rfl⟩
  by_cases rm : m < r
  · skip
    go_enter Try.func8, Try.ntmps8
    go_wp2_with fail
    refine (answers_yes _).mono ?_
    rintro e w1 ⟨rfl, rfl⟩
    go_wp2_with fail
    refine (rbad_good _ _ h _).mono ?_
    rintro e w1 ⟨rfl, rfl⟩
    go_wp2_with fail
    refine (rbad_good _ _ k _).mono ?_
    rintro e w1 ⟨rfl, rfl⟩
    go_wp2_with fail
    refine (answers_yes _).mono ?_
    rintro e w1 ⟨rfl, rfl⟩
    go_wp2
    go_ret
    exact ⟨rfl, 0, rfl⟩
  have htu : t ≤ u := by omega
  have hrm : r ≤ m := by omega
  have hur : TameT u r := ⟨k.1, k.2.1, h.2.2.1, h.2.2.2⟩
  have htm : TameT t m := ⟨h.1, h.2.1, k.2.2.1, k.2.2.2⟩
  have ht0 : TameT t 0 := ⟨h.1, h.2.1, by omega, by omega⟩
  have f1 := mostF_mono h.1 htu h.2.2.1 (Int.le_refl r)
  have f2 := mostF_mono h.1 (Int.le_refl t) h.2.2.1 hrm
  have f3 := guardF_mono h.1 htu h.2.2.1 (Int.le_refl r) h
  have f4 := guardF_mono h.1 (Int.le_refl t) h.2.2.1 hrm htm
  have f5 := (most_in h).1
  have f6 := least_in h
  have f7 := shr_in h
  have f8 : leastF t r - shrF t r ≤ 1 := by omega
  have hk0 : Calls Try.prog 22 #[.int .i64 t, .int .i64 0] = Calls Try.prog 22 #[.int .i64 t, .int .i64 0] := rfl
  clear hk0
  go_enter Try.func8, Try.ntmps8
  go_wp2_with fail
  refine (answers_yes _).mono ?_
  rintro e w1 ⟨rfl, rfl⟩
  go_wp2_with fail
  refine (rbad_good _ _ h _).mono ?_
  rintro e w1 ⟨rfl, rfl⟩
  go_wp2_with fail
  refine (rbad_good _ _ k _).mono ?_
  rintro e w1 ⟨rfl, rfl⟩
  go_wp2_with fail
  refine (most_good _ _ h _).mono ?_
  rintro e w1 ⟨rfl, rfl⟩
  go_wp2_with fail
  refine (most_good _ _ hur _).mono ?_
  rintro e w1 ⟨rfl, rfl⟩
  go_wp2_with fail
  refine (most_good _ _ htm _).mono ?_
  rintro e w1 ⟨rfl, rfl⟩
  go_wp2_with fail
  refine (guard_good' _ _ h _).mono ?_
  rintro e w1 ⟨rfl, rfl⟩
  go_wp2_with fail
  refine (guard_good' _ _ hur _).mono ?_
  rintro e w1 ⟨rfl, rfl⟩
  go_wp2_with fail
  refine (guard_good' _ _ htm _).mono ?_
  rintro e w1 ⟨rfl, rfl⟩
  go_wp2_with fail
  refine (least_good _ _ h _).mono ?_
  rintro e w1 ⟨rfl, rfl⟩
  go_wp2_with fail
  refine (shr_good' _ _ h _).mono ?_
  rintro e w1 ⟨rfl, rfl⟩
  go_wp2_with fail
  refine (guard_zero _ ht0 _).mono ?_
  rintro e w1 ⟨rfl, rfl⟩
  go_wp2
  go_ret
  exact ⟨rfl, 0, rfl⟩
set_option maxRecDepth 100000 in
set_option maxHeartbeats 1000000 in
theorem sumParts_true (t : Int) (u : Int) (r : Int) (wt : (Lit.int .i64 t).wf = true) (wu : (Lit.int .i64 u).wf = true) (wr : (Lit.int .i64 r).wf = true) (w : World) :
    Calls Try.prog 9 #[.int .i64 t, .int .i64 u, .int .i64 r] w (fun e w' => e = .returned (.bool true) ∧ ∃ n, w' = w.drewN n) := by
  obtain ⟨t0, t1⟩ := bounds_i64 wt
  obtain ⟨u0, u1⟩ := bounds_i64 wu
  obtain ⟨r0, r1⟩ := bounds_i64 wr
  clear wt wu wr
  by_cases h : TameT t r
  rotate_left
  · skip
    go_enter Try.func9, Try.ntmps9
    go_wp2_with fail
    refine (answers_yes _).mono ?_
    rintro e w1 ⟨rfl, rfl⟩
    go_wp2_with fail
    refine (rbad_bad _ _ h _).mono ?_
    rintro e w1 ⟨rfl, rfl⟩
    go_wp2_with fail
    refine (answers_yes _).mono ?_
    rintro e w1 ⟨rfl, rfl⟩
    go_wp2
    go_ret
    exact ⟨rfl, 0, rfl⟩
  by_cases k : TameT u r
  rotate_left
  · skip
    go_enter Try.func9, Try.ntmps9
    go_wp2_with fail
    refine (answers_yes _).mono ?_
    rintro e w1 ⟨rfl, rfl⟩
    go_wp2_with fail
    refine (rbad_good _ _ h _).mono ?_
    rintro e w1 ⟨rfl, rfl⟩
    go_wp2_with fail
    refine (rbad_bad _ _ k _).mono ?_
    rintro e w1 ⟨rfl, rfl⟩
    go_wp2_with fail
    refine (answers_yes _).mono ?_
    rintro e w1 ⟨rfl, rfl⟩
    go_wp2
    go_ret
    exact ⟨rfl, 0, rfl⟩
  have h1 := h.2.1
  have h0 := h.1
  have k1 := k.2.1
  have k0 := k.1
  by_cases tu : 1099511627776 < t + u
  · skip
    go_enter Try.func9, Try.ntmps9
    go_wp2_with fail
    refine (answers_yes _).mono ?_
    rintro e w1 ⟨rfl, rfl⟩
    go_wp2_with fail
    refine (rbad_good _ _ h _).mono ?_
    rintro e w1 ⟨rfl, rfl⟩
    go_wp2_with fail
    refine (rbad_good _ _ k _).mono ?_
    rintro e w1 ⟨rfl, rfl⟩
    go_wp2_with fail
    refine (answers_yes _).mono ?_
    rintro e w1 ⟨rfl, rfl⟩
    go_wp2
    go_ret
    exact ⟨rfl, 0, rfl⟩
  have hs : TameT (t + u) r := ⟨by omega, by omega, h.2.2.1, h.2.2.2⟩
  have f1 := most_parts t u r
  have f2 := shr_parts t u r h.2.2.1
  have f3 := least_parts t u r h.2.2.1
  have m1 := (most_in h).2
  have m2 := (most_in k).2
  have m3 := (most_in hs).2
  have s1 := shr_in h
  have s2 := shr_in k
  have s3 := shr_in hs
  have l1 := least_in h
  have l2 := least_in k
  have l3 := least_in hs
  go_enter Try.func9, Try.ntmps9
  go_wp2_with fail
  refine (answers_yes _).mono ?_
  rintro e w1 ⟨rfl, rfl⟩
  go_wp2_with fail
  refine (rbad_good _ _ h _).mono ?_
  rintro e w1 ⟨rfl, rfl⟩
  go_wp2_with fail
  refine (rbad_good _ _ k _).mono ?_
  rintro e w1 ⟨rfl, rfl⟩
  go_wp2_with fail
  refine (most_good _ _ h _).mono ?_
  rintro e w1 ⟨rfl, rfl⟩
  go_wp2_with fail
  refine (most_good _ _ k _).mono ?_
  rintro e w1 ⟨rfl, rfl⟩
  go_wp2_with fail
  refine (most_good _ _ hs _).mono ?_
  rintro e w1 ⟨rfl, rfl⟩
  go_wp2_with fail
  refine (shr_good' _ _ h _).mono ?_
  rintro e w1 ⟨rfl, rfl⟩
  go_wp2_with fail
  refine (shr_good' _ _ k _).mono ?_
  rintro e w1 ⟨rfl, rfl⟩
  go_wp2_with fail
  refine (shr_good' _ _ hs _).mono ?_
  rintro e w1 ⟨rfl, rfl⟩
  go_wp2_with fail
  refine (least_good _ _ h _).mono ?_
  rintro e w1 ⟨rfl, rfl⟩
  go_wp2_with fail
  refine (least_good _ _ k _).mono ?_
  rintro e w1 ⟨rfl, rfl⟩
  go_wp2_with fail
  refine (least_good _ _ hs _).mono ?_
  rintro e w1 ⟨rfl, rfl⟩
  go_wp2
  go_ret
  exact ⟨rfl, 0, rfl⟩
end Go.Proofs.Ytbblieengdlidaa.SumW
