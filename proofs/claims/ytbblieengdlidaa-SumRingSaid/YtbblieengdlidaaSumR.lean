/- The laws of layer 1 over lists: rings, and the total of many. -/
import Derived.Test.YtbblieengdlidaaSumL
import Derived.Test.YtbblieengdlidaaSumT
namespace Go.Proofs.Ytbblieengdlidaa.SumW
open Go.RowKit SumP

theorem mul_turned (a b : Int) (a0 : -9223372036854775808 ≤ a) (a1 : a ≤ 9223372036854775807) (b0 : -9223372036854775808 ≤ b) (b1 : b ≤ 9223372036854775807) (w : World) : Calls Try.prog 14 #[.int .i64 b, .int .i64 a] w (Two (fitV (a * b)) (fitE (a * b)) w) := by
  rw [Int.mul_comm a b]; exact mul_any b a b0 b1 a0 a1 w
theorem add_turned (a b : Int) (a0 : -9223372036854775808 ≤ a) (a1 : a ≤ 9223372036854775807) (b0 : -9223372036854775808 ≤ b) (b1 : b ≤ 9223372036854775807) (h : fits (a + b)) (w : World) : Calls Try.prog 10 #[.int .i64 b, .int .i64 a] w (Two (a + b) 0 w) := by
  rw [Int.add_comm a b]; exact add_ok b a b0 b1 a0 a1 (by rw [Int.add_comm b a]; exact h) w
theorem add_turned_over (a b : Int) (a0 : -9223372036854775808 ≤ a) (a1 : a ≤ 9223372036854775807) (b0 : -9223372036854775808 ≤ b) (b1 : b ≤ 9223372036854775807) (h : ¬ fits (a + b)) (w : World) : Calls Try.prog 10 #[.int .i64 b, .int .i64 a] w (Two 0 3 w) :=
  add_over b a b0 b1 a0 a1 (by rw [Int.add_comm b a]; exact h) w
theorem sub_back (a b : Int) (a0 : -9223372036854775808 ≤ a) (a1 : a ≤ 9223372036854775807) (b0 : -9223372036854775808 ≤ b) (b1 : b ≤ 9223372036854775807) (h : fits (a + b)) (w : World) : Calls Try.prog 12 #[.int .i64 (a + b), .int .i64 b] w (Two a 0 w) := by
  have := sub_any (a + b) b h.1 h.2 b0 b1 w
  have e : a + b - b = a := by omega
  rw [e, fitV_in a0 a1, fitE_in a0 a1] at this; exact this
theorem total_three (a b c v f : Int) (t : TypeId) (a0 : -9223372036854775808 ≤ a) (a1 : a ≤ 9223372036854775807) (b0 : -9223372036854775808 ≤ b) (b1 : b ≤ 9223372036854775807) (c0 : -9223372036854775808 ≤ c) (c1 : c ≤ 9223372036854775807) (hv : totV 0 [a, b, c] = v) (hf : totE 0 [a, b, c] = f) (w : World) :
    Calls Try.prog 17 #[.slice (some ⟨w.heap.size, 0, none⟩) 3 3] (w.alloc (.cells #[.int .i64 a, .int .i64 b, .int .i64 c] t)) (Two v f (w.alloc (.cells #[.int .i64 a, .int .i64 b, .int .i64 c] t))) := by
  subst hv hf
  refine total_row w.heap.size 0 3 [a, b, c] _ (by simp) ?_ ?_
  · intro j
    match j with
    | 0 => exact ⟨a0, a1⟩
    | 1 => exact ⟨b0, b1⟩
    | 2 => exact ⟨c0, c1⟩
    | n + 3 => simp [List.getD]
  · intro j hj
    rw [World.cell?_alloc_at _ _ _ _ rfl]
    match j, hj with
    | 0, _ => rfl
    | 1, _ => rfl
    | 2, _ => rfl
def Ringed (w : World) (e : Ending) (w' : World) : Prop := e = .returned (.bool true) ∧ Grown w w'
set_option maxRecDepth 100000 in
set_option maxHeartbeats 1000000 in
theorem sumRing_true (a b c : Int) (wa : (Lit.int .i64 a).wf = true) (wb : (Lit.int .i64 b).wf = true) (wc : (Lit.int .i64 c).wf = true) (w : World) :
    Calls Try.prog 5 #[.int .i64 a, .int .i64 b, .int .i64 c] w (Ringed w) := by
  obtain ⟨a0, a1⟩ := bounds_i64 wa
  obtain ⟨b0, b1⟩ := bounds_i64 wb
  obtain ⟨c0, c1⟩ := bounds_i64 wc
  clear wa wb wc
  have hz : (0 : Int) + a = a := by omega
  have hfa : fits (0 + a) := ⟨by omega, by omega⟩
  have T1 : ¬ fits (a + b) → totV 0 [a, b, c] = 0 ∧ totE 0 [a, b, c] = 3 := fun h => by
    rw [totV, totE, if_pos hfa, if_pos hfa, hz, totV, totE, if_neg h, if_neg h]; exact ⟨rfl, rfl⟩
  have T2 : fits (a + b) → ¬ fits (a + b + c) → totV 0 [a, b, c] = 0 ∧ totE 0 [a, b, c] = 3 := fun h k => by
    rw [totV, totE, if_pos hfa, if_pos hfa, hz, totV, totE, if_pos h, if_pos h, totV, totE, if_neg k, if_neg k]; exact ⟨rfl, rfl⟩
  have T3 : fits (a + b) → fits (a + b + c) → totV 0 [a, b, c] = a + b + c ∧ totE 0 [a, b, c] = 0 := fun h k => by
    rw [totV, totE, if_pos hfa, if_pos hfa, hz, totV, totE, if_pos h, if_pos h, totV, totE, if_pos k, if_pos k, totV, totE]; exact ⟨rfl, rfl⟩
  clear hz hfa
  by_cases h : fits (a + b)
  · have hs1 := h.1
    have hs2 := h.2
    by_cases k : fits (a + b + c)
    · obtain ⟨t1, t2⟩ := T3 h k
      clear T1 T2 T3
      have H1 := Lib.hid t1
      have H2 := Lib.hid t2
      clear t1 t2
      go_enter Try.func5, Try.ntmps5
      go_wp2_with fail
      refine (add_ok _ _ a0 a1 b0 b1 h _).mono ?_
      rintro e w1 ⟨rfl, rfl⟩
      go_wp2_with fail
      refine (add_turned _ _ a0 a1 b0 b1 h _).mono ?_
      rintro e w1 ⟨rfl, rfl⟩
      go_wp2_with fail
      refine (mul_any _ _ a0 a1 b0 b1 _).mono ?_
      rintro e w1 ⟨rfl, rfl⟩
      go_wp2_with fail
      refine (mul_turned _ _ a0 a1 b0 b1 _).mono ?_
      rintro e w1 ⟨rfl, rfl⟩
      go_wp2_with fail
      refine (answers_yes _).mono ?_
      rintro e w1 ⟨rfl, rfl⟩
      go_wp2_with fail
      refine (sub_back _ _ a0 a1 b0 b1 h _).mono ?_
      rintro e w1 ⟨rfl, rfl⟩
      go_wp2_with fail
      refine (total_three a b c _ _ _ a0 a1 b0 b1 c0 c1 H1.out H2.out _).mono ?_
      rintro e w1 ⟨rfl, rfl⟩
      go_wp2_with fail
      refine (add_ok _ _ hs1 hs2 c0 c1 k _).mono ?_
      rintro e w1 ⟨rfl, rfl⟩
      go_wp2
      go_ret
      exact ⟨rfl, (Grown.refl _).alloc _ _⟩
    · obtain ⟨t1, t2⟩ := T2 h k
      clear T1 T2 T3
      have H1 := Lib.hid t1
      have H2 := Lib.hid t2
      clear t1 t2
      go_enter Try.func5, Try.ntmps5
      go_wp2_with fail
      refine (add_ok _ _ a0 a1 b0 b1 h _).mono ?_
      rintro e w1 ⟨rfl, rfl⟩
      go_wp2_with fail
      refine (add_turned _ _ a0 a1 b0 b1 h _).mono ?_
      rintro e w1 ⟨rfl, rfl⟩
      go_wp2_with fail
      refine (mul_any _ _ a0 a1 b0 b1 _).mono ?_
      rintro e w1 ⟨rfl, rfl⟩
      go_wp2_with fail
      refine (mul_turned _ _ a0 a1 b0 b1 _).mono ?_
      rintro e w1 ⟨rfl, rfl⟩
      go_wp2_with fail
      refine (answers_yes _).mono ?_
      rintro e w1 ⟨rfl, rfl⟩
      go_wp2_with fail
      refine (sub_back _ _ a0 a1 b0 b1 h _).mono ?_
      rintro e w1 ⟨rfl, rfl⟩
      go_wp2_with fail
      refine (total_three a b c _ _ _ a0 a1 b0 b1 c0 c1 H1.out H2.out _).mono ?_
      rintro e w1 ⟨rfl, rfl⟩
      go_wp2
      go_ret
      exact ⟨rfl, (Grown.refl _).alloc _ _⟩
  · obtain ⟨t1, t2⟩ := T1 h
    clear T1 T2 T3
    have H1 := Lib.hid t1
    have H2 := Lib.hid t2
    clear t1 t2
    go_enter Try.func5, Try.ntmps5
    go_wp2_with fail
    refine (add_over _ _ a0 a1 b0 b1 h _).mono ?_
    rintro e w1 ⟨rfl, rfl⟩
    go_wp2_with fail
    refine (add_turned_over _ _ a0 a1 b0 b1 h _).mono ?_
    rintro e w1 ⟨rfl, rfl⟩
    go_wp2_with fail
    refine (mul_any _ _ a0 a1 b0 b1 _).mono ?_
    rintro e w1 ⟨rfl, rfl⟩
    go_wp2_with fail
    refine (mul_turned _ _ a0 a1 b0 b1 _).mono ?_
    rintro e w1 ⟨rfl, rfl⟩
    go_wp2_with fail
    refine (answers_yes _).mono ?_
    rintro e w1 ⟨rfl, rfl⟩
    go_wp2_with fail
    refine (total_three a b c _ _ _ a0 a1 b0 b1 c0 c1 H1.out H2.out _).mono ?_
    rintro e w1 ⟨rfl, rfl⟩
    go_wp2
    go_ret
    exact ⟨rfl, (Grown.refl _).alloc _ _⟩
end Go.Proofs.Ytbblieengdlidaa.SumW
