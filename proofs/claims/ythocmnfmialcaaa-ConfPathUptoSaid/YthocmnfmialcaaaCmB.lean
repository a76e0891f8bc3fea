/- Plain facts of changes: what comes is sound; who learns and leaves is gone; who votes, leaves, learns and votes, votes again; nobody else's part is another one. -/
import Derived.Test.YthocmnfmialcaaaRE
namespace Go.Proofs.Ythocmnfmialcaaa.Cn
open Go.RowKit By CoP Co Mo Kd

theorem posL_cons (x y : Int) (t : List Int) : posL x (y :: t) = if x < y then 0 else posL x t + 1 := by
  unfold posL
  rw [List.findIdx?_cons]
  by_cases h : x < y
  · rw [if_pos (by simpa using h), if_pos h]; rfl
  · rw [if_neg (by simpa using h), if_neg h]
    cases t.findIdx? (fun y => decide (x < y)) <;> simp
theorem wthL_nil (x : Int) : wthL x [] = [x] := rfl
theorem wthL_cons (x y : Int) (t : List Int) : wthL x (y :: t) = if x < y then x :: y :: t else y :: wthL x t := by
  unfold wthL
  rw [posL_cons]
  by_cases h : x < y
  · rw [if_pos h, if_pos h]; rfl
  · rw [if_neg h, if_neg h]; rfl
theorem woL_cons (x y : Int) (t : List Int) : woL x (y :: t) = if y = x then woL x t else y :: woL x t := by
  unfold woL
  by_cases h : y = x
  · rw [if_pos h, List.filter_cons_of_neg (by simp [h])]
  · rw [if_neg h, List.filter_cons_of_pos (by simp [h])]
theorem mem_wthL {x z : Int} {l : List Int} : z ∈ wthL x l ↔ z = x ∨ z ∈ l := by
  unfold wthL insL'
  have h : z ∈ l ↔ z ∈ l.take (posL x l) ∨ z ∈ l.drop (posL x l) := by rw [← List.mem_append, List.take_append_drop]
  rw [List.mem_append, List.mem_cons, h]
  constructor
  · rintro (h | h | h)
    · exact .inr (.inl h)
    · exact .inl h
    · exact .inr (.inr h)
  · rintro (h | h | h)
    · exact .inr (.inl h)
    · exact .inl h
    · exact .inr (.inr h)
theorem mem_woL {x z : Int} {l : List Int} : z ∈ woL x l ↔ z ∈ l ∧ z ≠ x := by
  unfold woL
  rw [List.mem_filter]
  simp
theorem rising_wo : ∀ {l : List Int} {p : Int} (x : Int), risingFrom p l = true → risingFrom p (woL x l) = true
  | [], _, _, _ => rfl
  | y :: t, p, x, h => by
    simp only [risingFrom, Bool.and_eq_true, decide_eq_true_eq] at h
    obtain ⟨⟨⟨h1, h2⟩, h3⟩, h4⟩ := h
    rw [woL_cons]
    have ih := rising_wo x h4
    split
    · -- what rises from y rises from p
      have hm : ∀ {l : List Int} {a b : Int}, a ≤ b → risingFrom b l = true → risingFrom a l = true := by
        intro l a b hab hr
        cases l with
        | nil => rfl
        | cons c s =>
          simp only [risingFrom, Bool.and_eq_true, decide_eq_true_eq] at hr ⊢
          exact ⟨⟨hr.1.1, by omega⟩, hr.2⟩
      exact hm (Int.le_of_lt h3) ih
    · simp only [risingFrom, Bool.and_eq_true, decide_eq_true_eq]
      exact ⟨⟨⟨h1, h2⟩, h3⟩, ih⟩
theorem rising_with : ∀ {l : List Int} {p x : Int}, 1 ≤ x → x ≤ 16 → p < x → x ∉ l → risingFrom p l = true → risingFrom p (wthL x l) = true
  | [], p, x, h1, h2, h3, _, _ => by
    rw [wthL_nil]
    simp only [risingFrom, Bool.and_eq_true, decide_eq_true_eq]
    exact ⟨⟨⟨h1, h2⟩, h3⟩, trivial⟩
  | y :: t, p, x, h1, h2, h3, hx, h => by
    simp only [risingFrom, Bool.and_eq_true, decide_eq_true_eq] at h
    obtain ⟨⟨⟨h4, h5⟩, h6⟩, h7⟩ := h
    rw [List.mem_cons, not_or] at hx
    rw [wthL_cons]
    split
    · simp only [risingFrom, Bool.and_eq_true, decide_eq_true_eq]
      exact ⟨⟨⟨h1, h2⟩, h3⟩, ⟨⟨h4, h5⟩, by assumption⟩, h7⟩
    · simp only [risingFrom, Bool.and_eq_true, decide_eq_true_eq]
      exact ⟨⟨⟨h4, h5⟩, h6⟩, rising_with h1 h2 (by omega) hx.2 h7⟩
theorem wo_with : ∀ {x : Int} {l : List Int}, x ∉ l → woL x (wthL x l) = l
  | x, [], _ => by rw [wthL_nil, woL_cons, if_pos rfl]; rfl
  | x, y :: t, h => by
    rw [List.mem_cons, not_or] at h
    rw [wthL_cons]
    split
    · rw [woL_cons, if_pos rfl]
      exact woL_none (by rw [List.mem_cons, not_or]; exact h)
    · rw [woL_cons, if_neg (fun e => h.1 e.symm), wo_with h.2]
theorem with_wo : ∀ {l : List Int} {p x : Int}, risingFrom p l = true → x ∈ l → wthL x (woL x l) = l
  | [], _, _, _, h => by cases h
  | y :: t, p, x, h, hx => by
    simp only [risingFrom, Bool.and_eq_true, decide_eq_true_eq] at h
    rw [woL_cons]
    by_cases e : y = x
    · subst e
      rw [if_pos rfl]
      have hn : y ∉ t := fun hy => by have := (risingFrom_mem t y h.2 y hy).1; omega
      rw [woL_none hn]
      cases t with
      | nil => rfl
      | cons z s =>
        rw [wthL_cons, if_pos (risingFrom_mem (z :: s) y h.2 z (by simp)).1]
    · rw [if_neg e]
      have hxt : x ∈ t := by
        rcases List.mem_cons.1 hx with h9 | h9
        · exact absurd h9.symm e
        · exact h9
      have hyx := (risingFrom_mem t y h.2 x hxt).1
      rw [wthL_cons, if_neg (by omega), with_wo h.2 hxt]
/-- What comes of a change is sound. -/
theorem chg_sound {k : Nat} {vs ls : List Int} {x : Int} (hk : k = 1 ∨ k = 2 ∨ k = 3) (he : chgE k vs ls x = 0) : confB (chgV k vs ls x) (chgL k vs ls x) = true := by
  have hc : ccErr vs ls x = 0 := by
    by_cases h : ccErr vs ls x = 0
    · exact h
    · unfold chgE at he; rw [if_pos h] at he; exact absurd he h
  obtain ⟨hs, hx1, hx2⟩ := ccErr_zero hc
  obtain ⟨ha, hrv, hrl, hp⟩ := (confB_iff vs ls).1 hs
  have hne : ¬ chgE k vs ls x ≠ 0 := by omega
  unfold chgV chgL
  rw [if_neg hne, if_neg hne]
  rw [confB_iff]
  unfold chgE at he
  rw [if_neg (by omega)] at he
  rcases hk with rfl | rfl | rfl
  · rw [if_pos rfl] at he
    by_cases hm : x ∈ vs ∨ x ∈ ls
    · rw [if_pos hm] at he; cases he
    · rw [not_or] at hm
      rw [if_pos rfl, if_pos rfl]
      refine ⟨fun z hz hw => ?_, hrv, rising_with hx1 hx2 (by omega) hm.2 hrl, hp⟩
      rcases mem_wthL.1 hw with rfl | hw
      · exact hm.1 hz
      · exact ha z hz hw
  · rw [if_neg (by decide), if_pos rfl] at he
    by_cases hm : x ∈ ls
    · have hxv : x ∉ vs := fun h => ha x h hm
      rw [if_neg (by decide), if_pos rfl, if_neg (by decide)]
      refine ⟨fun z hz hw => ?_, rising_with hx1 hx2 (by omega) hxv hrv, rising_wo x hrl, by rw [wthL_len]; omega⟩
      obtain ⟨hw1, hw2⟩ := mem_woL.1 hw
      rcases mem_wthL.1 hz with rfl | hz
      · exact hw2 rfl
      · exact ha z hz hw1
    · rw [if_neg hm] at he; cases he
  · rw [if_neg (by decide), if_neg (by decide)] at he
    by_cases hm : x ∈ vs ∨ x ∈ ls
    · rw [if_neg (not_not_intro hm)] at he
      by_cases h0 : (woL x vs).length = 0
      · rw [if_pos h0] at he; cases he
      · rw [if_neg (by decide), if_neg (by decide), if_neg (by decide)]
        exact ⟨fun z hz hw => ha z (mem_woL.1 hz).1 (mem_woL.1 hw).1, rising_wo x hrv, rising_wo x hrl, by omega⟩
    · rw [if_pos hm] at he; cases he
theorem chg_ok {k : Nat} {vs ls : List Int} {x : Int} (he : chgE k vs ls x = 0) : confB vs ls = true ∧ 1 ≤ x ∧ x ≤ 16 := by
  by_cases h : ccErr vs ls x = 0
  · exact ccErr_zero h
  · unfold chgE at he; rw [if_pos h] at he; exact absurd he h
/-- Nobody else's part is another one; the one's own is. -/
theorem chg_others {k : Nat} {vs ls : List Int} {x z : Int} (hk : k = 1 ∨ k = 2 ∨ k = 3) (he : chgE k vs ls x = 0) (hz : z ≠ x) : (z ∈ chgV k vs ls x ↔ z ∈ vs) ∧ ((z ∈ chgV k vs ls x ∨ z ∈ chgL k vs ls x) ↔ (z ∈ vs ∨ z ∈ ls)) := by
  have hne : ¬ chgE k vs ls x ≠ 0 := by omega
  unfold chgV chgL
  rw [if_neg hne, if_neg hne]
  rcases hk with rfl | rfl | rfl
  · rw [if_pos rfl, if_pos rfl, mem_wthL]
    simp [hz]
  · obtain ⟨hs, _, _⟩ := chg_ok he
    rw [if_neg (by decide), if_pos rfl, if_neg (by decide), mem_wthL, mem_woL]
    simp [hz]
  · rw [if_neg (by decide), if_neg (by decide), if_neg (by decide), mem_woL, mem_woL]
    simp [hz]
theorem chg_own {k : Nat} {vs ls : List Int} {x : Int} (hk : k = 1 ∨ k = 2 ∨ k = 3) (he : chgE k vs ls x = 0) : ¬ ((x ∈ chgV k vs ls x ↔ x ∈ vs) ∧ ((x ∈ chgV k vs ls x ∨ x ∈ chgL k vs ls x) ↔ (x ∈ vs ∨ x ∈ ls))) := by
  obtain ⟨hs, _, _⟩ := chg_ok he
  obtain ⟨ha, _, _, _⟩ := (confB_iff vs ls).1 hs
  have hne : ¬ chgE k vs ls x ≠ 0 := by omega
  have hcc : ¬ ccErr vs ls x ≠ 0 := fun h => by unfold chgE at he; rw [if_pos h] at he; exact h he
  unfold chgV chgL
  rw [if_neg hne, if_neg hne]
  unfold chgE at he
  rw [if_neg hcc] at he
  rcases hk with rfl | rfl | rfl
  · rw [if_pos rfl] at he
    by_cases hm : x ∈ vs ∨ x ∈ ls
    · rw [if_pos hm] at he; cases he
    · rw [if_pos rfl, if_pos rfl]
      rintro ⟨_, h⟩
      exact hm (h.1 (.inr (mem_wthL.2 (.inl rfl))))
  · rw [if_neg (by decide), if_pos rfl] at he
    by_cases hm : x ∈ ls
    · rw [if_neg (by decide), if_pos rfl]
      rintro ⟨h, _⟩
      exact ha x (h.1 (mem_wthL.2 (.inl rfl))) hm
    · rw [if_neg hm] at he; cases he
  · rw [if_neg (by decide), if_neg (by decide)] at he
    by_cases hm : x ∈ vs ∨ x ∈ ls
    · rw [if_neg (by decide), if_neg (by decide), if_neg (by decide)]
      rintro ⟨_, h⟩
      rcases h.2 hm with h | h
      · exact (mem_woL.1 h).2 rfl
      · exact (mem_woL.1 h).2 rfl
    · rw [if_pos hm] at he; cases he
end Go.Proofs.Ythocmnfmialcaaa.Cn
