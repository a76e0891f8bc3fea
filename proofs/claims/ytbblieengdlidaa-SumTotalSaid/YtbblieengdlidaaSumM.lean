/- Products, as contracts of calls: package sum's, and its reference's by sizes. -/
import Derived.Test.YtbblieengdlidaaSumW
namespace Go.Proofs.Ytbblieengdlidaa.SumW
open Go.RowKit SumP

set_option maxHeartbeats 400000 in
theorem mul_any (a b : Int) (a0 : -9223372036854775808 ≤ a) (a1 : a ≤ 9223372036854775807) (b0 : -9223372036854775808 ≤ b) (b1 : b ≤ 9223372036854775807) (w : World) :
    Calls Try.prog 14 #[.int .i64 a, .int .i64 b] w (Two (fitV (a * b)) (fitE (a * b)) w) := by
  by_cases hb : b = 0
  · subst hb
    have hn : fitV (a * 0) = 0 := by rw [Int.mul_zero]; exact fitV_in (by omega) (by omega)
    have hn' : fitE (a * 0) = 0 := by rw [Int.mul_zero]; exact fitE_in (by omega) (by omega)
    rw [hn, hn']; clear hn hn'
    go_enter Try.func14, Try.ntmps14
    go_wp2
    go_ret2
    exact ⟨rfl, rfl⟩
  · by_cases hb' : b = -1
    · subst hb'
      have hn : fitV (a * -1) = fitV (-a) := by congr 1; omega
      have hn' : fitE (a * -1) = fitE (-a) := by congr 1; omega
      rw [hn, hn']; clear hn hn'
      go_enter Try.func14, Try.ntmps14
      go_wp2_with fail
      refine (sub_any 0 a (by omega) (by omega) a0 a1 _).mono ?_
      rintro e w1 ⟨rfl, rfl⟩
      go_wp2
      go_ret2
      exact ⟨rfl, rfl⟩
    · have e0 : (b == 0) = false := beq_eq_false_iff_ne.2 hb
      have e1 : (b == -1) = false := beq_eq_false_iff_ne.2 hb'
      by_cases h : fits (a * b)
      · have hv : fitV (a * b) = a * b := fitV_in h.1 h.2
        have he : fitE (a * b) = 0 := fitE_in h.1 h.2
        rw [hv, he]; clear hv he
        have hq : (a * b).tdiv b = a := Int.mul_tdiv_cancel a hb
        have h1 := h.1
        have h2 := h.2
        go_enter Try.func14, Try.ntmps14
        go_wp2
        go_ret2
        exact ⟨rfl, rfl⟩
      · have hv : fitV (a * b) = 0 := if_neg h
        have he : fitE (a * b) = 3 := if_neg h
        rw [hv, he]; clear hv he
        obtain ⟨k, hk, p0, p1⟩ := wrap64_round (a * b)
        clear hk k
        have hq : ((wrap64 (a * b)).tdiv b != a) = true := bne_iff_ne.2 (mul_out a b _ hb b0 b1 rfl h)
        have hr := tdiv_in (wrap64 (a * b)) b hb hb' p0 p1
        clear h
        go_enter Try.func14, Try.ntmps14
        go_wp2
        go_ret2
        exact ⟨rfl, rfl⟩

theorem u64_in_neg (a : Int) (h : a < 0) (h' : -9223372036854775808 ≤ a) : IntKind.u64.wrap (-IntKind.u64.wrap a) = -a := by
  simp [IntKind.wrap, IntKind.bits, IntKind.signed]; omega
theorem i64_of_neg (p : Int) (h : 0 ≤ p) (h' : p ≤ 9223372036854775808) : wrap64 (IntKind.u64.wrap (-p)) = -p := by
  unfold wrap64; simp [IntKind.wrap, IntKind.bits, IntKind.signed]; omega

/-- A number without its sign. -/
theorem size_any (a x : Int) (a0 : -9223372036854775808 ≤ a) (a1 : a ≤ 9223372036854775807) (hx : x = a.natAbs) (w : World) :
    Calls Try.prog 28 #[.int .i64 a] w (One .u64 x w) := by
  by_cases h : a < 0
  · have e : IntKind.u64.wrap (-IntKind.u64.wrap a) = x := by rw [u64_in_neg a h a0]; omega
    have E := Lib.hid e
    clear e hx
    go_enter Try.func28, Try.ntmps28
    go_wp2
    go_ret
    exact One.of _ E.out.symm
  · have e : x = a := by omega
    subst e
    clear hx
    go_enter Try.func28, Try.ntmps28
    go_wp2
    go_ret
    exact ⟨rfl, rfl⟩

set_option maxHeartbeats 400000 in
theorem rmul_pp (a b : Int) (a0 : -9223372036854775808 ≤ a) (a1 : a ≤ 9223372036854775807) (b0 : -9223372036854775808 ≤ b) (b1 : b ≤ 9223372036854775807) (ha : 0 ≤ a) (hb : 0 ≤ b) (w : World) :
    Calls Try.prog 15 #[.int .i64 a, .int .i64 b] w (Two (fitV (a * b)) (fitE (a * b)) w) := by
  obtain ⟨x, hx⟩ : ∃ x : Int, x = a.natAbs := ⟨_, rfl⟩
  obtain ⟨y, hy⟩ : ∃ y : Int, y = b.natAbs := ⟨_, rfl⟩
  have ex : x = a := by omega
  have ey : y = b := by omega
  have HX := Lib.hid hx
  have HY := Lib.hid hy
  have na : ¬ (a < 0) := by omega
  have nb : ¬ (b < 0) := by omega
  have da : decide (a < 0) = false := by simp; omega
  have db : decide (b < 0) = false := by simp; omega
  have hp : x * y = a * b := by rw [ex, ey]
  have x0 : 0 ≤ x := by omega
  have y0 : 0 ≤ y := by omega
  have x1 : x ≤ 9223372036854775808 := by omega
  have y1 : y ≤ 9223372036854775808 := by omega
  have p0 : 0 ≤ x * y := Int.mul_nonneg x0 y0
  by_cases z : x = 0
  · have hv : fitV (a * b) = 0 := by
      have : a * b = 0 := by rw [z, Int.zero_mul] at hp; omega
      rw [this]; exact fitV_in (by omega) (by omega)
    have he : fitE (a * b) = 0 := by
      have : a * b = 0 := by rw [z, Int.zero_mul] at hp; omega
      rw [this]; exact fitE_in (by omega) (by omega)
    rw [hv, he]; clear hv he
    have z' : (x != 0) = false := by rw [z]; rfl
    have p1 : x * y ≤ 0 := by rw [z, Int.zero_mul]; omega
    have HP : Hid (x * y = 0) := Lib.hid (by omega)
    have HI := Lib.hid (i64_of_neg (x * y) p0 (by omega))
    have HJ := Lib.hid (IntWalk.i64_in (x * y) (by omega))
    clear hx hy ex ey hp z
    go_enter Try.func15, Try.ntmps15
    go_wp2_with fail
    refine (size_any a x a0 a1 HX.out _).mono ?_
    rintro e w1 ⟨rfl, rfl⟩
    go_wp2_with fail
    refine (size_any b y b0 b1 HY.out _).mono ?_
    rintro e w1 ⟨rfl, rfl⟩
    go_wp2
    go_ret2
    exact Two.of _ (by first | (rw [HP.out]; done) | (rw [HP.out]; rfl)) rfl
  · have z' : (x != 0) = true := bne_iff_ne.2 z
    have z1 : 1 ≤ x := by omega
    have o' : (9223372036854775807 : Int) / x < y ↔ 9223372036854775807 < x * y := by rw [Int.mul_comm x y]; exact Int.ediv_lt_iff_lt_mul (by omega)
    by_cases o : 9223372036854775807 < x * y
    · have ho := o'.2 o
      have hv : fitV (a * b) = 0 := fitV_out (by omega)
      have he : fitE (a * b) = 3 := fitE_out (by omega)
      rw [hv, he]; clear hv he
      clear hx hy ex ey hp o' o
      go_enter Try.func15, Try.ntmps15
      go_wp2_with fail
      refine (size_any a x a0 a1 HX.out _).mono ?_
      rintro e w1 ⟨rfl, rfl⟩
      go_wp2_with fail
      refine (size_any b y b0 b1 HY.out _).mono ?_
      rintro e w1 ⟨rfl, rfl⟩
      go_wp2
      go_ret2
      exact ⟨rfl, rfl⟩
    · have ho : ¬ ((9223372036854775807 : Int) / x < y) := fun h => o (o'.1 h)
      have p1 : x * y ≤ 9223372036854775807 := by omega
      have hv : fitV (a * b) = a * b := fitV_in (by omega) (by omega)
      have he : fitE (a * b) = 0 := fitE_in (by omega) (by omega)
      rw [hv, he]; clear hv he
      have HP := Lib.hid hp
      have HI := Lib.hid (i64_of_neg (x * y) p0 (by omega))
      have HV : Hid (a * b = x * y) := Lib.hid (by omega)
      clear hx hy ex ey hp o' o
      go_enter Try.func15, Try.ntmps15
      go_wp2_with fail
      refine (size_any a x a0 a1 HX.out _).mono ?_
      rintro e w1 ⟨rfl, rfl⟩
      go_wp2_with fail
      refine (size_any b y b0 b1 HY.out _).mono ?_
      rintro e w1 ⟨rfl, rfl⟩
      go_wp2
      go_ret2
      exact Two.of _ HV.out rfl
set_option maxHeartbeats 400000 in
theorem rmul_pn (a b : Int) (a0 : -9223372036854775808 ≤ a) (a1 : a ≤ 9223372036854775807) (b0 : -9223372036854775808 ≤ b) (b1 : b ≤ 9223372036854775807) (ha : 0 ≤ a) (hb : b < 0) (w : World) :
    Calls Try.prog 15 #[.int .i64 a, .int .i64 b] w (Two (fitV (a * b)) (fitE (a * b)) w) := by
  obtain ⟨x, hx⟩ : ∃ x : Int, x = a.natAbs := ⟨_, rfl⟩
  obtain ⟨y, hy⟩ : ∃ y : Int, y = b.natAbs := ⟨_, rfl⟩
  have ex : x = a := by omega
  have ey : y = -b := by omega
  have HX := Lib.hid hx
  have HY := Lib.hid hy
  have na : ¬ (a < 0) := by omega
  have nb : ¬ (0 ≤ b) := by omega
  have da : decide (a < 0) = false := by simp; omega
  have db : decide (b < 0) = true := by simp; omega
  have hp : x * y = -(a * b) := by rw [ex, ey]; rw [Int.mul_neg]
  have x0 : 0 ≤ x := by omega
  have y0 : 0 ≤ y := by omega
  have x1 : x ≤ 9223372036854775808 := by omega
  have y1 : y ≤ 9223372036854775808 := by omega
  have p0 : 0 ≤ x * y := Int.mul_nonneg x0 y0
  by_cases z : x = 0
  · have hv : fitV (a * b) = 0 := by
      have : a * b = 0 := by rw [z, Int.zero_mul] at hp; omega
      rw [this]; exact fitV_in (by omega) (by omega)
    have he : fitE (a * b) = 0 := by
      have : a * b = 0 := by rw [z, Int.zero_mul] at hp; omega
      rw [this]; exact fitE_in (by omega) (by omega)
    rw [hv, he]; clear hv he
    have z' : (x != 0) = false := by rw [z]; rfl
    have p1 : x * y ≤ 0 := by rw [z, Int.zero_mul]; omega
    have HP : Hid (x * y = 0) := Lib.hid (by omega)
    have HI := Lib.hid (i64_of_neg (x * y) p0 (by omega))
    have HJ := Lib.hid (IntWalk.i64_in (x * y) (by omega))
    clear hx hy ex ey hp z
    go_enter Try.func15, Try.ntmps15
    go_wp2_with fail
    refine (size_any a x a0 a1 HX.out _).mono ?_
    rintro e w1 ⟨rfl, rfl⟩
    go_wp2_with fail
    refine (size_any b y b0 b1 HY.out _).mono ?_
    rintro e w1 ⟨rfl, rfl⟩
    go_wp2
    go_ret2
    exact Two.of _ (by first | (rw [HP.out]; done) | (rw [HP.out]; rfl)) rfl
  · have z' : (x != 0) = true := bne_iff_ne.2 z
    have z1 : 1 ≤ x := by omega
    have o' : (9223372036854775808 : Int) / x < y ↔ 9223372036854775808 < x * y := by rw [Int.mul_comm x y]; exact Int.ediv_lt_iff_lt_mul (by omega)
    by_cases o : 9223372036854775808 < x * y
    · have ho := o'.2 o
      have hv : fitV (a * b) = 0 := fitV_out (by omega)
      have he : fitE (a * b) = 3 := fitE_out (by omega)
      rw [hv, he]; clear hv he
      clear hx hy ex ey hp o' o
      go_enter Try.func15, Try.ntmps15
      go_wp2_with fail
      refine (size_any a x a0 a1 HX.out _).mono ?_
      rintro e w1 ⟨rfl, rfl⟩
      go_wp2_with fail
      refine (size_any b y b0 b1 HY.out _).mono ?_
      rintro e w1 ⟨rfl, rfl⟩
      go_wp2
      go_ret2
      exact ⟨rfl, rfl⟩
    · have ho : ¬ ((9223372036854775808 : Int) / x < y) := fun h => o (o'.1 h)
      have p1 : x * y ≤ 9223372036854775808 := by omega
      have hv : fitV (a * b) = a * b := fitV_in (by omega) (by omega)
      have he : fitE (a * b) = 0 := fitE_in (by omega) (by omega)
      rw [hv, he]; clear hv he
      have HP := Lib.hid hp
      have HI := Lib.hid (i64_of_neg (x * y) p0 (by omega))
      have HV : Hid (a * b = -(x * y)) := Lib.hid (by omega)
      clear hx hy ex ey hp o' o
      go_enter Try.func15, Try.ntmps15
      go_wp2_with fail
      refine (size_any a x a0 a1 HX.out _).mono ?_
      rintro e w1 ⟨rfl, rfl⟩
      go_wp2_with fail
      refine (size_any b y b0 b1 HY.out _).mono ?_
      rintro e w1 ⟨rfl, rfl⟩
      go_wp2
      go_ret2
      exact Two.of _ (HV.out.trans HI.out.symm) rfl
set_option maxHeartbeats 400000 in
theorem rmul_np (a b : Int) (a0 : -9223372036854775808 ≤ a) (a1 : a ≤ 9223372036854775807) (b0 : -9223372036854775808 ≤ b) (b1 : b ≤ 9223372036854775807) (ha : a < 0) (hb : 0 ≤ b) (w : World) :
    Calls Try.prog 15 #[.int .i64 a, .int .i64 b] w (Two (fitV (a * b)) (fitE (a * b)) w) := by
  obtain ⟨x, hx⟩ : ∃ x : Int, x = a.natAbs := ⟨_, rfl⟩
  obtain ⟨y, hy⟩ : ∃ y : Int, y = b.natAbs := ⟨_, rfl⟩
  have ex : x = -a := by omega
  have ey : y = b := by omega
  have HX := Lib.hid hx
  have HY := Lib.hid hy
  have na : ¬ (0 ≤ a) := by omega
  have nb : ¬ (b < 0) := by omega
  have da : decide (a < 0) = true := by simp; omega
  have db : decide (b < 0) = false := by simp; omega
  have hp : x * y = -(a * b) := by rw [ex, ey]; rw [Int.neg_mul]
  have x0 : 0 ≤ x := by omega
  have y0 : 0 ≤ y := by omega
  have x1 : x ≤ 9223372036854775808 := by omega
  have y1 : y ≤ 9223372036854775808 := by omega
  have p0 : 0 ≤ x * y := Int.mul_nonneg x0 y0
  by_cases z : x = 0
  · have hv : fitV (a * b) = 0 := by
      have : a * b = 0 := by rw [z, Int.zero_mul] at hp; omega
      rw [this]; exact fitV_in (by omega) (by omega)
    have he : fitE (a * b) = 0 := by
      have : a * b = 0 := by rw [z, Int.zero_mul] at hp; omega
      rw [this]; exact fitE_in (by omega) (by omega)
    rw [hv, he]; clear hv he
    have z' : (x != 0) = false := by rw [z]; rfl
    have p1 : x * y ≤ 0 := by rw [z, Int.zero_mul]; omega
    have HP : Hid (x * y = 0) := Lib.hid (by omega)
    have HI := Lib.hid (i64_of_neg (x * y) p0 (by omega))
    have HJ := Lib.hid (IntWalk.i64_in (x * y) (by omega))
    clear hx hy ex ey hp z
    go_enter Try.func15, Try.ntmps15
    go_wp2_with fail
    refine (size_any a x a0 a1 HX.out _).mono ?_
    rintro e w1 ⟨rfl, rfl⟩
    go_wp2_with fail
    refine (size_any b y b0 b1 HY.out _).mono ?_
    rintro e w1 ⟨rfl, rfl⟩
    go_wp2
    go_ret2
    exact Two.of _ (by first | (rw [HP.out]; done) | (rw [HP.out]; rfl)) rfl
  · have z' : (x != 0) = true := bne_iff_ne.2 z
    have z1 : 1 ≤ x := by omega
    have o' : (9223372036854775808 : Int) / x < y ↔ 9223372036854775808 < x * y := by rw [Int.mul_comm x y]; exact Int.ediv_lt_iff_lt_mul (by omega)
    by_cases o : 9223372036854775808 < x * y
    · have ho := o'.2 o
      have hv : fitV (a * b) = 0 := fitV_out (by omega)
      have he : fitE (a * b) = 3 := fitE_out (by omega)
      rw [hv, he]; clear hv he
      clear hx hy ex ey hp o' o
      go_enter Try.func15, Try.ntmps15
      go_wp2_with fail
      refine (size_any a x a0 a1 HX.out _).mono ?_
      rintro e w1 ⟨rfl, rfl⟩
      go_wp2_with fail
      refine (size_any b y b0 b1 HY.out _).mono ?_
      rintro e w1 ⟨rfl, rfl⟩
      go_wp2
      go_ret2
      exact ⟨rfl, rfl⟩
    · have ho : ¬ ((9223372036854775808 : Int) / x < y) := fun h => o (o'.1 h)
      have p1 : x * y ≤ 9223372036854775808 := by omega
      have hv : fitV (a * b) = a * b := fitV_in (by omega) (by omega)
      have he : fitE (a * b) = 0 := fitE_in (by omega) (by omega)
      rw [hv, he]; clear hv he
      have HP := Lib.hid hp
      have HI := Lib.hid (i64_of_neg (x * y) p0 (by omega))
      have HV : Hid (a * b = -(x * y)) := Lib.hid (by omega)
      clear hx hy ex ey hp o' o
      go_enter Try.func15, Try.ntmps15
      go_wp2_with fail
      refine (size_any a x a0 a1 HX.out _).mono ?_
      rintro e w1 ⟨rfl, rfl⟩
      go_wp2_with fail
      refine (size_any b y b0 b1 HY.out _).mono ?_
      rintro e w1 ⟨rfl, rfl⟩
      go_wp2
      go_ret2
      exact Two.of _ (HV.out.trans HI.out.symm) rfl
set_option maxHeartbeats 400000 in
theorem rmul_nn (a b : Int) (a0 : -9223372036854775808 ≤ a) (a1 : a ≤ 9223372036854775807) (b0 : -9223372036854775808 ≤ b) (b1 : b ≤ 9223372036854775807) (ha : a < 0) (hb : b < 0) (w : World) :
    Calls Try.prog 15 #[.int .i64 a, .int .i64 b] w (Two (fitV (a * b)) (fitE (a * b)) w) := by
  obtain ⟨x, hx⟩ : ∃ x : Int, x = a.natAbs := ⟨_, rfl⟩
  obtain ⟨y, hy⟩ : ∃ y : Int, y = b.natAbs := ⟨_, rfl⟩
  have ex : x = -a := by omega
  have ey : y = -b := by omega
  have HX := Lib.hid hx
  have HY := Lib.hid hy
  have na : ¬ (0 ≤ a) := by omega
  have nb : ¬ (0 ≤ b) := by omega
  have da : decide (a < 0) = true := by simp; omega
  have db : decide (b < 0) = true := by simp; omega
  have hp : x * y = a * b := by rw [ex, ey]; rw [Int.neg_mul_neg]
  have x0 : 0 ≤ x := by omega
  have y0 : 0 ≤ y := by omega
  have x1 : x ≤ 9223372036854775808 := by omega
  have y1 : y ≤ 9223372036854775808 := by omega
  have p0 : 0 ≤ x * y := Int.mul_nonneg x0 y0
  by_cases z : x = 0
  · have hv : fitV (a * b) = 0 := by
      have : a * b = 0 := by rw [z, Int.zero_mul] at hp; omega
      rw [this]; exact fitV_in (by omega) (by omega)
    have he : fitE (a * b) = 0 := by
      have : a * b = 0 := by rw [z, Int.zero_mul] at hp; omega
      rw [this]; exact fitE_in (by omega) (by omega)
    rw [hv, he]; clear hv he
    have z' : (x != 0) = false := by rw [z]; rfl
    have p1 : x * y ≤ 0 := by rw [z, Int.zero_mul]; omega
    have HP : Hid (x * y = 0) := Lib.hid (by omega)
    have HI := Lib.hid (i64_of_neg (x * y) p0 (by omega))
    have HJ := Lib.hid (IntWalk.i64_in (x * y) (by omega))
    clear hx hy ex ey hp z
    go_enter Try.func15, Try.ntmps15
    go_wp2_with fail
    refine (size_any a x a0 a1 HX.out _).mono ?_
    rintro e w1 ⟨rfl, rfl⟩
    go_wp2_with fail
    refine (size_any b y b0 b1 HY.out _).mono ?_
    rintro e w1 ⟨rfl, rfl⟩
    go_wp2
    go_ret2
    exact Two.of _ (by first | (rw [HP.out]; done) | (rw [HP.out]; rfl)) rfl
  · have z' : (x != 0) = true := bne_iff_ne.2 z
    have z1 : 1 ≤ x := by omega
    have o' : (9223372036854775807 : Int) / x < y ↔ 9223372036854775807 < x * y := by rw [Int.mul_comm x y]; exact Int.ediv_lt_iff_lt_mul (by omega)
    by_cases o : 9223372036854775807 < x * y
    · have ho := o'.2 o
      have hv : fitV (a * b) = 0 := fitV_out (by omega)
      have he : fitE (a * b) = 3 := fitE_out (by omega)
      rw [hv, he]; clear hv he
      clear hx hy ex ey hp o' o
      go_enter Try.func15, Try.ntmps15
      go_wp2_with fail
      refine (size_any a x a0 a1 HX.out _).mono ?_
      rintro e w1 ⟨rfl, rfl⟩
      go_wp2_with fail
      refine (size_any b y b0 b1 HY.out _).mono ?_
      rintro e w1 ⟨rfl, rfl⟩
      go_wp2
      go_ret2
      exact ⟨rfl, rfl⟩
    · have ho : ¬ ((9223372036854775807 : Int) / x < y) := fun h => o (o'.1 h)
      have p1 : x * y ≤ 9223372036854775807 := by omega
      have hv : fitV (a * b) = a * b := fitV_in (by omega) (by omega)
      have he : fitE (a * b) = 0 := fitE_in (by omega) (by omega)
      rw [hv, he]; clear hv he
      have HP := Lib.hid hp
      have HI := Lib.hid (i64_of_neg (x * y) p0 (by omega))
      have HV : Hid (a * b = x * y) := Lib.hid (by omega)
      clear hx hy ex ey hp o' o
      go_enter Try.func15, Try.ntmps15
      go_wp2_with fail
      refine (size_any a x a0 a1 HX.out _).mono ?_
      rintro e w1 ⟨rfl, rfl⟩
      go_wp2_with fail
      refine (size_any b y b0 b1 HY.out _).mono ?_
      rintro e w1 ⟨rfl, rfl⟩
      go_wp2
      go_ret2
      exact Two.of _ HV.out rfl
theorem rmul_any (a b : Int) (a0 : -9223372036854775808 ≤ a) (a1 : a ≤ 9223372036854775807) (b0 : -9223372036854775808 ≤ b) (b1 : b ≤ 9223372036854775807) (w : World) :
    Calls Try.prog 15 #[.int .i64 a, .int .i64 b] w (Two (fitV (a * b)) (fitE (a * b)) w) := by
  by_cases ha : 0 ≤ a <;> by_cases hb : 0 ≤ b
  · exact rmul_pp a b a0 a1 b0 b1 ha hb w
  · exact rmul_pn a b a0 a1 b0 b1 ha (by omega) w
  · exact rmul_np a b a0 a1 b0 b1 (by omega) hb w
  · exact rmul_nn a b a0 a1 b0 b1 (by omega) (by omega) w
end Go.Proofs.Ytbblieengdlidaa.SumW
