/- Plain facts of a fall: the last Put that stays, what is done. No walk. -/
import Derived.Test.YtcfnfphnjkllcaaEJ
import Derived.Test.YtcfnfphnjkllcaaDkY
namespace Go.Proofs.Ytcfnfphnjkllcaa.Dk
open Go.RowKit Go.Maps By Mp

/-- The last Put that stays. -/
def lastP (m : Nat) : Nat → Int → List W1 → Int
  | _, acc, [] => acc
  | k, acc, x :: r => lastP m (k + 1) (if stays m k = true ∧ x.kind = 1 then (k : Int) else acc) r
theorem lastP_snoc (m : Nat) (x : W1) : ∀ (l : List W1) (k : Nat) (acc : Int), lastP m k acc (l ++ [x]) = if stays m (k + l.length) = true ∧ x.kind = 1 then ((k + l.length : Nat) : Int) else lastP m k acc l
  | [], k, acc => by simp [lastP]
  | y :: l, k, acc => by
    show lastP m (k + 1) _ (l ++ [x]) = _
    rw [lastP_snoc m x l (k + 1), List.length_cons, show k + 1 + l.length = k + (l.length + 1) by omega]
    rfl
theorem lastP_lt (m : Nat) : ∀ (l : List W1) (k : Nat) (acc : Int), acc < (k : Int) → lastP m k acc l < ((k + l.length : Nat) : Int)
  | [], k, acc, h => by simpa [lastP] using h
  | y :: l, k, acc, h => by
    have h1 := lastP_lt m l (k + 1) (if stays m k = true ∧ y.kind = 1 then (k : Int) else acc) (by split <;> omega)
    show lastP m (k + 1) _ l < _
    rw [List.length_cons]
    omega
/-- The changes that a fall does, the last Put cut. -/
def rsl (m : Nat) (t last : Int) : Nat → List W1 → List W1
  | _, [] => []
  | k, x :: r => if stays m k = true then (if (k : Int) = last then cutData t x else x) :: rsl m t last (k + 1) r else rsl m t last (k + 1) r
theorem rsl_snoc (m : Nat) (t last : Int) (x : W1) : ∀ (l : List W1) (k : Nat), rsl m t last k (l ++ [x]) = rsl m t last k l ++ (if stays m (k + l.length) = true then [if ((k + l.length : Nat) : Int) = last then cutData t x else x] else [])
  | [], k => by simp [rsl]
  | y :: l, k => by
    have ih := rsl_snoc m t last x l (k + 1)
    rw [show k + 1 + l.length = k + (y :: l).length by simp; omega] at ih
    simp only [List.cons_append, rsl]
    split
    · rw [ih, List.cons_append]
    · rw [ih]
theorem stay_snoc (m : Nat) (x : W1) : ∀ (l : List W1) (k : Nat), staying m k (l ++ [x]) = staying m k l ++ (if stays m (k + l.length) = true then [x] else [])
  | [], k => by simp [staying]
  | y :: l, k => by
    have ih := stay_snoc m x l (k + 1)
    rw [show k + 1 + l.length = k + (y :: l).length by simp; omega] at ih
    simp only [List.cons_append, staying]
    split
    · rw [ih, List.cons_append]
    · rw [ih]
theorem rsl_far (m : Nat) (t last : Int) : ∀ (l : List W1) (k : Nat), ((k + l.length : Nat) : Int) ≤ last → rsl m t last k l = staying m k l
  | [], _, _ => rfl
  | x :: l, k, h => by
    rw [List.length_cons] at h
    have ih := rsl_far m t last l (k + 1) (by omega)
    simp only [rsl, staying]
    rw [ih, if_neg (show ¬ (k : Int) = last by omega)]
theorem rsl_torn (m : Nat) (t : Int) (l : List W1) : ∀ n, n ≤ l.length → rsl m t (lastP m 0 (-1) (l.take n)) 0 (l.take n) = torn t (staying m 0 (l.take n))
  | 0, _ => rfl
  | n + 1, h => by
    have ih := rsl_torn m t l n (by omega)
    have hl : (l.take n).length = n := by rw [List.length_take]; omega
    rw [List.take_succ_eq_append_getElem (by omega : n < l.length)]
    obtain ⟨p, hp⟩ : ∃ p, l.take n = p := ⟨_, rfl⟩
    rw [hp] at ih hl ⊢
    rw [rsl_snoc, stay_snoc, lastP_snoc, Nat.zero_add, hl]
    cases hs : stays m n with
    | false => simpa using ih
    | true =>
      by_cases hk : l[n].kind = 1
      · rw [if_pos ⟨rfl, hk⟩, if_pos rfl, if_pos rfl, if_pos rfl, rsl_far m t _ p 0 (by omega), torn_snoc, if_pos hk]
      · rw [if_neg (fun e => hk e.2), if_pos rfl, if_pos rfl, torn_snoc, if_neg hk, ih]
        have := lastP_lt m p 0 (-1) (by omega)
        rw [if_neg (by omega)]
theorem rsl_all (m : Nat) (t : Int) (l : List W1) : rsl m t (lastP m 0 (-1) l) 0 l = torn t (staying m 0 l) := by
  have := rsl_torn m t l l.length (Nat.le_refl _)
  rwa [List.take_length] at this
theorem rsl_ok {m : Nat} {t last : Int} : ∀ {l : List W1} {k : Nat}, (∀ x ∈ l, OkW x) → ∀ x ∈ rsl m t last k l, OkW x
  | [], _, _, x, hx => by cases hx
  | y :: l, k, h, x, hx => by
    have ih : ∀ x ∈ rsl m t last (k + 1) l, OkW x := rsl_ok (fun z hz => h z (by simp [hz]))
    simp only [rsl] at hx
    split at hx
    · rcases List.mem_cons.1 hx with e | hx
      · have hy := h y (by simp)
        rw [e]
        split
        · unfold cutData
          split
          · refine ⟨hy.1, hy.2.1, ?_, hy.2.2.2⟩
            have := hy.2.2.1
            show y.off + (y.data.take _).length ≤ _
            rw [List.length_take]
            omega
          · exact hy
        · exact hy
      · exact ih x hx
    · exact ih x hx
theorem rsl_len (m : Nat) (t last : Int) : ∀ (l : List W1) (k : Nat), (rsl m t last k l).length ≤ l.length
  | [], _ => Nat.le_refl _
  | x :: l, k => by
    have := rsl_len m t last l (k + 1)
    simp only [rsl]
    split <;> simp <;> omega
theorem lastP_take {m : Nat} {l : List W1} {k : Nat} (h : k < l.length) : lastP m 0 (-1) (l.take (k + 1)) = if stays m k = true ∧ l[k].kind = 1 then (k : Int) else lastP m 0 (-1) (l.take k) := by
  rw [List.take_succ_eq_append_getElem h, lastP_snoc, Nat.zero_add, List.length_take, Nat.min_eq_left (by omega)]
theorem rsl_take {m : Nat} {t last : Int} {l : List W1} {k : Nat} (h : k < l.length) : rsl m t last 0 (l.take (k + 1)) = rsl m t last 0 (l.take k) ++ (if stays m k = true then [if (k : Int) = last then cutData t l[k] else l[k]] else []) := by
  rw [List.take_succ_eq_append_getElem h, rsl_snoc, Nat.zero_add, List.length_take, Nat.min_eq_left (by omega)]
theorem stays_val (m k : Nat) : ((m : Int) / 2 ^ (k % 64)).tmod 2 = if stays m k = true then 1 else 0 := by
  have e1 : ((m : Int) / 2 ^ (k % 64)) = ((m / 2 ^ (k % 64) : Nat) : Int) := by
    rw [Int.natCast_ediv]; simp
  rw [e1]
  unfold stays
  have h : m / 2 ^ (k % 64) % 2 < 2 := Nat.mod_lt _ (by decide)
  rw [show ((m / 2 ^ (k % 64) : Nat) : Int).tmod 2 = ((m / 2 ^ (k % 64) % 2 : Nat) : Int) from rfl]
  generalize m / 2 ^ (k % 64) % 2 = z at h
  have : z = 0 ∨ z = 1 := by omega
  rcases this with rfl | rfl <;> rfl
end Go.Proofs.Ytcfnfphnjkllcaa.Dk
