/- Package post's small functions as contracts of calls: ends, ways, New, Len. -/
import Derived.Test.YtenaecpmmbigdaaPoA
namespace Go.Proofs.Ytenaecpmmbigdaa.Po
open Go.RowKit Go.Maps By Mp

theorem isEnd_any (n : Int) (w : World) : Calls Try.prog 32 #[.int .i64 n] w (RetB (.bool (decide (End8 n))) w) := by
  by_cases h0 : n = 0
  · rw [decide_eq_false (fun h => h.1 h0)]
    subst h0
    go_enter Try.func32, Try.ntmps32
    go_wp2
    go_ret
    exact ⟨rfl, Below.refl _ _⟩
  · have hb0 : (n != 0) = true := bne_iff_ne.2 h0
    by_cases h1 : -16 ≤ n
    · by_cases h2 : n ≤ 16
      · rw [decide_eq_true (show End8 n from ⟨h0, h1, h2⟩)]
        go_enter Try.func32, Try.ntmps32
        go_wp2
        go_ret
        exact ⟨rfl, Below.refl _ _⟩
      · rw [decide_eq_false (fun h => h2 h.2.2)]
        go_enter Try.func32, Try.ntmps32
        go_wp2
        go_ret
        exact ⟨rfl, Below.refl _ _⟩
    · rw [decide_eq_false (fun h => h1 h.2.1)]
      go_enter Try.func32, Try.ntmps32
      go_wp2
      go_ret
      exact ⟨rfl, Below.refl _ _⟩
def Sound8 (a b : Int) : Prop := End8 a ∧ End8 b ∧ a ≠ b
instance (a b : Int) : Decidable (Sound8 a b) := inferInstanceAs (Decidable (_ ∧ _ ∧ _))
theorem wcells {w : World} {g : Nat} {a b : Value} (hr : w.heap[g]? = some (.cells #[a, b] tWay (0, 0))) : w.cell? ⟨g, 0, none⟩ = some a ∧ w.cell? ⟨g, 1, none⟩ = some b :=
  ⟨(cell_of_row w _ 0 _ _ _ hr).trans rfl, (cell_of_row w _ 1 _ _ _ hr).trans rfl⟩
set_option maxHeartbeats 800000 in
theorem isSound_any (a b : Int) (w : World) : Calls Try.prog 26 #[wayV a b] w (RetB (.bool (decide (Sound8 a b))) w) := by
  obtain ⟨w1, hw1⟩ : ∃ w1, w1 = w.alloc (.cells #[.int .i64 a, .int .i64 b] tWay) := ⟨_, rfl⟩
  have hb1 : Below w.heap.size w w1 := by rw [hw1]; exact (Below.refl _ _).alloc (Nat.le_refl _) _
  have hr1 : w1.heap[w.heap.size]? = some (.cells #[.int .i64 a, .int .i64 b] tWay (0, 0)) := by rw [hw1]; exact heap_alloc_new w _
  obtain ⟨c0, c1⟩ := wcells hr1
  have HR1 := Lib.hid hr1
  have HB1 := Lib.hid hb1
  have HW1 := Lib.hid hw1
  have HEA := Lib.hid (isEnd_any a w1)
  clear hr1 hb1 hw1
  by_cases ha : End8 a
  · rw [decide_eq_true ha] at HEA
    by_cases hb : End8 b
    · by_cases hab : a = b
      · rw [decide_eq_false (fun h : Sound8 a b => h.2.2 hab)]
        have hq : (a != b) = false := by simp [hab]
        clear hab
        go_enter Try.func26, Try.ntmps26
        go_wp2_with fail
        rw [← HW1.out]
        go_wp2_with fail
        refine HEA.out.mono ?_
        rintro e w2 ⟨rfl, hb2⟩
        obtain ⟨c0, c1⟩ := wcells ((hb2.block _ (row_lt HR1.out)).trans HR1.out)
        have HR2 := Lib.hid ((hb2.block _ (row_lt HR1.out)).trans HR1.out)
        have HB2 := Lib.hid (By.ext HB1.out hb2)
        have HEB := Lib.hid (isEnd_any b w2)
        rw [decide_eq_true hb] at HEB
        clear hb2
        go_wp2_with fail
        refine HEB.out.mono ?_
        rintro e w3 ⟨rfl, hb3⟩
        obtain ⟨c0, c1⟩ := wcells ((hb3.block _ (row_lt HR2.out)).trans HR2.out)
        have HB3 := Lib.hid (By.ext HB2.out hb3)
        clear hb3
        go_wp2
        go_ret
        exact ⟨rfl, HB3.out⟩
      · rw [decide_eq_true (show Sound8 a b from ⟨ha, hb, hab⟩)]
        have hq : (a != b) = true := bne_iff_ne.2 hab
        clear hab
        go_enter Try.func26, Try.ntmps26
        go_wp2_with fail
        rw [← HW1.out]
        go_wp2_with fail
        refine HEA.out.mono ?_
        rintro e w2 ⟨rfl, hb2⟩
        obtain ⟨c0, c1⟩ := wcells ((hb2.block _ (row_lt HR1.out)).trans HR1.out)
        have HR2 := Lib.hid ((hb2.block _ (row_lt HR1.out)).trans HR1.out)
        have HB2 := Lib.hid (By.ext HB1.out hb2)
        have HEB := Lib.hid (isEnd_any b w2)
        rw [decide_eq_true hb] at HEB
        clear hb2
        go_wp2_with fail
        refine HEB.out.mono ?_
        rintro e w3 ⟨rfl, hb3⟩
        obtain ⟨c0, c1⟩ := wcells ((hb3.block _ (row_lt HR2.out)).trans HR2.out)
        have HB3 := Lib.hid (By.ext HB2.out hb3)
        clear hb3
        go_wp2
        go_ret
        exact ⟨rfl, HB3.out⟩
    · rw [decide_eq_false (fun h : Sound8 a b => hb h.2.1)]
      go_enter Try.func26, Try.ntmps26
      go_wp2_with fail
      rw [← HW1.out]
      go_wp2_with fail
      refine HEA.out.mono ?_
      rintro e w2 ⟨rfl, hb2⟩
      obtain ⟨c0, c1⟩ := wcells ((hb2.block _ (row_lt HR1.out)).trans HR1.out)
      have HB2 := Lib.hid (By.ext HB1.out hb2)
      have HEB := Lib.hid (isEnd_any b w2)
      rw [decide_eq_false hb] at HEB
      clear hb2
      go_wp2_with fail
      refine HEB.out.mono ?_
      rintro e w3 ⟨rfl, hb3⟩
      have HB3 := Lib.hid (By.ext HB2.out hb3)
      clear hb3
      go_wp2
      go_ret
      exact ⟨rfl, HB3.out⟩
  · rw [decide_eq_false (fun h : Sound8 a b => ha h.1)]
    rw [decide_eq_false ha] at HEA
    go_enter Try.func26, Try.ntmps26
    go_wp2_with fail
    rw [← HW1.out]
    go_wp2_with fail
    refine HEA.out.mono ?_
    rintro e w2 ⟨rfl, hb2⟩
    have HB2 := Lib.hid (By.ext HB1.out hb2)
    clear hb2
    go_wp2
    go_ret
    exact ⟨rfl, HB2.out⟩
theorem len_nil (w : World) : Calls Try.prog 15 #[.pointer none] w (RetB (.int .i64 0) w) := by
  go_enter Try.func15, Try.ntmps15
  go_wp2
  go_ret
  exact ⟨rfl, Below.refl _ _⟩
theorem len_any (g : Nat) (p : P8) (S : Nat → Prop) (w : World) (h : PostIs w g p S) : Calls Try.prog 15 #[.pointer (some ⟨g, 0, none⟩)] w (RetB (.int .i64 (p.l.length : Nat)) w) := by
  obtain ⟨v, mb, h⟩ := h
  obtain ⟨A, c, rfl⟩ := ownsRow_form h.own
  obtain ⟨c0, c1, c2⟩ := h.cells
  have q := ptrTest
  clear h
  go_enter Try.func15, Try.ntmps15
  go_wp2
  go_ret
  exact ⟨rfl, Below.refl _ _⟩
/-- New gives a post of the call's own, with nothing on the way. -/
def NewPost (room : Int) (w : World) (e : Ending) (w' : World) : Prop :=
  e = .returned (.tuple #[.pointer (some ⟨w.heap.size, 0, none⟩), .int .i64 0]) ∧ PostIs w' w.heap.size ⟨[], [], room⟩ (fun b => b = w.heap.size) ∧ Below w.heap.size w w'
theorem new_bad (room : Int) (w : World) (hr : ¬ (0 ≤ room ∧ room ≤ 4096)) : Calls Try.prog 8 #[.int .i64 room] w (RetB (.tuple #[.pointer none, .int .i64 1]) w) := by
  by_cases h0 : room < 0
  · clear hr
    go_enter Try.func8, Try.ntmps8
    go_wp2
    refine bodyPost_ret (results_tmp2 rfl _ _ _) rfl ?_
    exact ⟨rfl, Below.refl _ _⟩
  · have h1 : (4096 : Int) < room := by omega
    clear hr
    go_enter Try.func8, Try.ntmps8
    go_wp2
    refine bodyPost_ret (results_tmp2 rfl _ _ _) rfl ?_
    exact ⟨rfl, Below.refl _ _⟩
theorem new_ok (room : Int) (w : World) (h0 : 0 ≤ room) (h1 : room ≤ 4096) : Calls Try.prog 8 #[.int .i64 room] w (NewPost room w) := by
  have HR := Lib.hid (show 0 ≤ room ∧ room ≤ 4096 from ⟨h0, h1⟩)
  go_enter Try.func8, Try.ntmps8
  go_wp2
  refine bodyPost_ret (results_tmp2 rfl _ _ _) rfl ?_
  refine ⟨rfl, ⟨.slice none 0 0, none, ⟨heap_alloc_new w _, World.ownsRow_nil _ _ _ _, rfl, rfl, (fun b h => by cases h), (fun b h => by cases h), (fun b h => by
    have h : b = w.heap.size := h
    rw [World.size_alloc]; omega), ⟨HR.out, HR.out.1, (fun x h => by cases h), List.nodup_nil, (fun x h => by cases h)⟩⟩⟩, (Below.refl _ _).alloc (Nat.le_refl _) _⟩
end Go.Proofs.Ytenaecpmmbigdaa.Po
