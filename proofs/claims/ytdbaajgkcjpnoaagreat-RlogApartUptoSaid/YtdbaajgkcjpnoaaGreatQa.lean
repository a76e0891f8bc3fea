/- The log as plain values: a base and entries behind it; what each call of layer 11 comes to; plain facts. Nothing here speaks of one function. | Plain facts of logs: what an append, a shrink and a hint come to; the same entries, the same log; in two parts as at once. -/
import Derived.Test.YtdbaajgkcjpnoaaGreatBy
/-! The log as plain values: a base and entries behind it; what each call of layer 11 comes to; plain facts. Nothing here speaks of one function. -/
namespace Go.Proofs.YtdbaajgkcjpnoaaGreat.Rg

/-- An entry. -/
structure En where
  ix : Nat
  tm : Nat
  kd : Int
  dl : Int
  da : List UInt8
/-- A log. -/
structure Lg where
  ix : Nat
  tm : Nat
  es : List En
def lastL (s : Lg) : Nat × Nat := match s.es.getLast? with | none => (s.ix, s.tm) | some e => (e.ix, e.tm)
/-- A place's term, and an error: 0 OK, 6 old, 8 none (the document's numbers are put in where the code is walked). -/
def termAt (s : Lg) (i : Nat) : Option (Option Nat) := if i < s.ix then none else if i = s.ix then some (some s.tm) else some ((s.es.find? fun e => e.ix == i).map (·.tm))
def fits (s : Lg) (i t : Nat) : Bool := termAt s i == some (some t)
def fresh (s : Lg) (i t : Nat) : Bool := decide ((lastL s).2 < t) || (decide (t = (lastL s).2) && decide ((lastL s).1 ≤ i))
/-- The entries of the places behind i, with terms that do not fall. -/
def chain : Nat → Nat → List En → Prop
  | _, _, [] => True
  | i, t, e :: r => e.ix = i + 1 ∧ t ≤ e.tm ∧ chain e.ix e.tm r
/-- What stays out: the list from the first entry on that the log has not. -/
def newOnes (s : Lg) (l : List En) : List En := l.dropWhile fun e => fits s e.ix e.tm
def appendL (s : Lg) (l : List En) : Lg :=
  match newOnes s l with
  | [] => s
  | e :: r => { s with es := (s.es.filter fun x => decide (x.ix < e.ix)) ++ e :: r }
def fromA (s : Lg) (l : List En) : Nat := match newOnes s l with | [] => 0 | e :: _ => e.ix
def hintL (s : Lg) (i t : Nat) : Nat × Nat := s.es.foldl (fun p e => if e.ix ≤ i ∧ e.tm ≤ t then (e.ix, e.tm) else p) (s.ix, s.tm)
def shrinkL (s : Lg) (i t : Nat) : Lg := ⟨i, t, s.es.filter fun e => decide (i < e.ix)⟩
/-- Its places follow one another, its terms never fall. -/
def Inv (s : Lg) : Prop := chain s.ix s.tm s.es

theorem chain_at : ∀ {l : List En} {i t : Nat}, chain i t l → ∀ {k : Nat} {e : En}, l[k]? = some e → e.ix = i + 1 + k
  | e :: r, i, t, h, 0, x, hx => by
    obtain rfl : e = x := by simpa using hx
    have := h.1; omega
  | e :: r, i, t, h, k + 1, x, hx => by
    have := chain_at h.2.2 (k := k) (e := x) (by simpa using hx)
    have := h.1
    omega
theorem chain_mem {l : List En} {i t : Nat} (h : chain i t l) {e : En} (he : e ∈ l) : i < e.ix ∧ e.ix ≤ i + l.length := by
  obtain ⟨k, hk, rfl⟩ := List.mem_iff_getElem.1 he
  have := chain_at h (List.getElem?_eq_getElem hk)
  omega
theorem chain_term : ∀ {l : List En} {i t : Nat}, chain i t l → ∀ e ∈ l, t ≤ e.tm
  | e :: r, i, t, h, x, hx => by
    rcases List.mem_cons.1 hx with rfl | hx
    · exact h.2.1
    · have h1 := chain_term h.2.2 x hx
      have h2 := h.2.1
      omega
/-- The place behind a list, and its term. -/
def endOf (i t : Nat) (l : List En) : Nat × Nat := match l.getLast? with | none => (i, t) | some e => (e.ix, e.tm)
theorem endOf_cons (i t : Nat) (e : En) (r : List En) : endOf i t (e :: r) = endOf e.ix e.tm r := by
  unfold endOf
  cases r with
  | nil => rfl
  | cons a s => rw [List.getLast?_cons_cons]; cases h : (a :: s).getLast? with
    | none => simp at h
    | some x => rfl
theorem chain_append : ∀ {a b : List En} {i t : Nat}, chain i t (a ++ b) ↔ chain i t a ∧ chain (endOf i t a).1 (endOf i t a).2 b
  | [], b, i, t => by simp [chain, endOf]
  | e :: r, b, i, t => by
    rw [List.cons_append, endOf_cons]
    simp only [chain]
    rw [chain_append (a := r)]
    constructor
    · rintro ⟨h1, h2, h3, h4⟩; exact ⟨⟨h1, h2, h3⟩, h4⟩
    · rintro ⟨⟨h1, h2, h3⟩, h4⟩; exact ⟨h1, h2, h3, h4⟩
theorem endOf_ix {l : List En} {i t : Nat} (h : chain i t l) : (endOf i t l).1 = i + l.length := by
  induction l generalizing i t with
  | nil => rfl
  | cons e r ih =>
    rw [endOf_cons, ih h.2.2, List.length_cons]
    have := h.1
    omega
/-- The part up to a place is the list's first ones. -/
theorem chain_filter_lt : ∀ {l : List En} {i t : Nat}, chain i t l → ∀ m, (l.filter fun e => decide (e.ix < m)) = l.take (m - (i + 1))
  | [], _, _, _, _ => by simp
  | e :: r, i, t, h, m => by
    have h1 := h.1
    by_cases hm : e.ix < m
    · rw [List.filter_cons_of_pos (by simpa using hm), chain_filter_lt h.2.2 m, show m - (i + 1) = (m - (e.ix + 1)) + 1 by omega, List.take_succ_cons]
    · rw [List.filter_cons_of_neg (by simpa using hm), show m - (i + 1) = 0 by omega, List.take_zero]
      rw [List.filter_eq_nil_iff]
      intro x hx
      have := (chain_mem h.2.2 hx).1
      simp
      omega
theorem chain_filter_gt : ∀ {l : List En} {i t : Nat}, chain i t l → ∀ m, (l.filter fun e => decide (m < e.ix)) = l.drop (m - i)
  | [], _, _, _, _ => by simp
  | e :: r, i, t, h, m => by
    have h1 := h.1
    by_cases hm : m < e.ix
    · rw [show m - i = 0 by omega, List.drop_zero, List.filter_eq_self]
      intro x hx
      rcases List.mem_cons.1 hx with rfl | hx
      · simpa using hm
      · have := (chain_mem h.2.2 hx).1
        simp
        omega
    · rw [List.filter_cons_of_neg (by simpa using hm), chain_filter_gt h.2.2 m, show m - i = (m - e.ix) + 1 by omega, List.drop_succ_cons]
theorem chain_take {l : List En} {i t : Nat} (h : chain i t l) (k : Nat) : chain i t (l.take k) := by
  have := List.take_append_drop k l
  rw [← this] at h
  exact (chain_append.1 h).1
/-- Which entry stands at a place. -/
theorem chain_find {l : List En} {i t : Nat} (h : chain i t l) (m : Nat) : (l.find? fun e => e.ix == m) = if i < m then l[m - (i + 1)]? else none := by
  by_cases hm : i < m
  · rw [if_pos hm]
    cases hx : l[m - (i + 1)]? with
    | none =>
      rw [List.find?_eq_none]
      intro e he
      have h1 := chain_mem h he
      have h2 := List.getElem?_eq_none_iff.1 hx
      simp
      omega
    | some e =>
      have h1 := chain_at h hx
      obtain ⟨hk, he⟩ := List.getElem?_eq_some_iff.1 hx
      rw [List.find?_eq_some_iff_getElem]
      refine ⟨by simp; omega, m - (i + 1), hk, he, fun j hj => ?_⟩
      have h3 := chain_at h (List.getElem?_eq_getElem (show j < l.length by omega))
      simp
      omega
  · rw [if_neg hm, List.find?_eq_none]
    intro e he
    have h1 := (chain_mem h he).1
    simp
    omega
theorem termAt_eq {s : Lg} (h : Inv s) (i : Nat) : termAt s i = if i < s.ix then none else if i = s.ix then some (some s.tm) else some ((s.es[i - (s.ix + 1)]?).map (·.tm)) := by
  unfold termAt
  rw [chain_find h]
  by_cases h1 : i < s.ix
  · rw [if_pos h1, if_pos h1]
  · by_cases h2 : i = s.ix
    · rw [if_neg h1, if_neg h1, if_pos h2, if_pos h2]
    · rw [if_neg h1, if_neg h1, if_neg h2, if_neg h2, if_pos (by omega)]
end Go.Proofs.YtdbaajgkcjpnoaaGreat.Rg

/-! Plain facts of logs: what an append, a shrink and a hint come to; the same entries, the same log; in two parts as at once. -/
namespace Go.Proofs.YtdbaajgkcjpnoaaGreat.Rg

theorem fits_iff {s : Lg} (h : Inv s) {i t : Nat} : fits s i t = true ↔ (i = s.ix ∧ t = s.tm) ∨ (s.ix < i ∧ ∃ e, s.es[i - (s.ix + 1)]? = some e ∧ e.tm = t) := by
  unfold fits
  rw [beq_iff_eq, termAt_eq h]
  by_cases h1 : i < s.ix
  · rw [if_pos h1]
    constructor
    · intro h; cases h
    · rintro (⟨h2, _⟩ | ⟨h2, _⟩) <;> omega
  · by_cases h2 : i = s.ix
    · rw [if_neg h1, if_pos h2]
      constructor
      · intro h3
        exact .inl ⟨h2, by simpa using h3.symm⟩
      · rintro (⟨_, h3⟩ | ⟨h3, _⟩)
        · rw [h3]
        · omega
    · rw [if_neg h1, if_neg h2]
      constructor
      · intro h3
        refine .inr ⟨by omega, ?_⟩
        cases hx : s.es[i - (s.ix + 1)]? with
        | none => rw [hx] at h3; simp at h3
        | some e => rw [hx] at h3; exact ⟨e, rfl, by simpa using h3⟩
      · rintro (⟨h3, _⟩ | ⟨_, e, h3, h4⟩)
        · omega
        · rw [h3, ← h4]; rfl
theorem take_end {l : List En} {i t : Nat} (h : chain i t l) : ∀ k, k ≤ l.length → (endOf i t (l.take k)).1 = i + k := fun k hk => by
  rw [endOf_ix (chain_take h k), List.length_take, Nat.min_eq_left hk]
theorem endOf_take {l : List En} {i t k : Nat} {e : En} (h : l[k]? = some e) : endOf i t (l.take (k + 1)) = (e.ix, e.tm) := by
  obtain ⟨hk, he⟩ := List.getElem?_eq_some_iff.1 h
  unfold endOf
  rw [List.take_succ_eq_append_getElem hk, List.getLast?_append, he]
  rfl
/-- Up to a place that fits, the log ends there. -/
theorem end_fits {s : Lg} (h : Inv s) {p t : Nat} (hf : fits s p t = true) : s.ix ≤ p ∧ p - s.ix ≤ s.es.length ∧ endOf s.ix s.tm (s.es.take (p - s.ix)) = (p, t) := by
  rcases (fits_iff h).1 hf with ⟨rfl, rfl⟩ | ⟨h1, e, h2, rfl⟩
  · exact ⟨Nat.le_refl _, by omega, by rw [Nat.sub_self]; rfl⟩
  · have hk := (List.getElem?_eq_some_iff.1 h2).1
    have hx := chain_at h h2
    refine ⟨by omega, by omega, ?_⟩
    rw [show p - s.ix = (p - (s.ix + 1)) + 1 by omega, endOf_take h2]
    rw [show e.ix = p by omega]
theorem new_split (s : Lg) (l : List En) : ∃ pre, l = pre ++ newOnes s l ∧ ∀ e ∈ pre, fits s e.ix e.tm = true := by
  refine ⟨l.takeWhile fun e => fits s e.ix e.tm, (List.takeWhile_append_dropWhile).symm, fun e he => ?_⟩
  have := List.all_takeWhile (l := l) (p := fun e => fits s e.ix e.tm)
  rw [List.all_eq_true] at this
  exact this e he
theorem endOf_fits {s : Lg} {i t : Nat} (hf : fits s i t = true) {l : List En} (h : ∀ e ∈ l, fits s e.ix e.tm = true) : fits s (endOf i t l).1 (endOf i t l).2 = true := by
  unfold endOf
  cases hl : l.getLast? with
  | none => exact hf
  | some e => exact h e (List.mem_of_getLast? hl)
/-- What an append comes to, where something is new. -/
structure App (s : Lg) (i : Nat) (l : List En) (s' : Lg) (p : Nat) (e : En) (r : List En) (pre : List En) : Prop where
  split : l = pre ++ e :: r
  pre : ∀ x ∈ pre, fits s x.ix x.tm = true
  at_ : e.ix = p + 1
  le : i ≤ p
  base : s.ix ≤ p
  len : p - s.ix ≤ s.es.length
  es : s'.es = s.es.take (p - s.ix) ++ e :: r
  ix : s'.ix = s.ix
  tm : s'.tm = s.tm
  inv : Inv s'
theorem app_of {s : Lg} (h : Inv s) {i t : Nat} (hf : fits s i t = true) {l : List En} (hc : chain i t l) {e : En} {r : List En} (hn : newOnes s l = e :: r) : ∃ p pre, App s i l (appendL s l) p e r pre := by
  obtain ⟨pre, hl, hp⟩ := new_split s l
  rw [hn] at hl
  have hc2 := hc
  rw [hl] at hc2
  obtain ⟨c1, c2⟩ := chain_append.1 hc2
  have hfe := endOf_fits hf hp
  obtain ⟨q1, q2, q3⟩ := end_fits h hfe
  have h1 := c2.1
  have h5 := endOf_ix c1
  have he : appendL s l = ⟨s.ix, s.tm, s.es.take ((endOf i t pre).1 - s.ix) ++ e :: r⟩ := by
    unfold appendL
    rw [hn]
    dsimp only
    rw [chain_filter_lt h, show e.ix - (s.ix + 1) = (endOf i t pre).1 - s.ix by omega]
  refine ⟨(endOf i t pre).1, pre, hl, hp, h1, by omega, q1, q2, by rw [he], by rw [he], by rw [he], ?_⟩
  rw [he]
  show chain s.ix s.tm (s.es.take ((endOf i t pre).1 - s.ix) ++ e :: r)
  rw [chain_append]
  refine ⟨chain_take h _, ?_⟩
  rw [q3]
  exact c2
theorem appendL_none {s : Lg} {l : List En} (hn : newOnes s l = []) : appendL s l = s := by unfold appendL; rw [hn]
theorem new_none {s : Lg} {l : List En} (hn : newOnes s l = []) : ∀ e ∈ l, fits s e.ix e.tm = true := by
  obtain ⟨pre, hl, hp⟩ := new_split s l
  rw [hn, List.append_nil] at hl
  rw [hl]
  exact hp
theorem new_of_all {s : Lg} : ∀ {l : List En}, (∀ e ∈ l, fits s e.ix e.tm = true) → newOnes s l = []
  | [], _ => rfl
  | e :: r, h => by
    have ih := new_of_all (s := s) (l := r) (fun x hx => h x (List.mem_cons_of_mem _ hx))
    have he : (fun e : En => fits s e.ix e.tm) e = true := h e (by simp)
    unfold newOnes at ih ⊢
    rw [List.dropWhile_cons_of_pos (p := fun e : En => fits s e.ix e.tm) he]
    exact ih
theorem inv_append {s : Lg} (h : Inv s) {i t : Nat} (hf : fits s i t = true) {l : List En} (hc : chain i t l) : Inv (appendL s l) := by
  cases hn : newOnes s l with
  | nil => rw [appendL_none hn]; exact h
  | cons e r => obtain ⟨p, pre, ha⟩ := app_of h hf hc hn; exact ha.inv
/-- Up to where an append begins all is as it was. -/
theorem append_keeps {s : Lg} (h : Inv s) {i t : Nat} (hf : fits s i t = true) {l : List En} (hc : chain i t l) {m : Nat} (hm : m ≤ i) : termAt (appendL s l) m = termAt s m := by
  cases hn : newOnes s l with
  | nil => rw [appendL_none hn]
  | cons e r =>
    obtain ⟨p, pre, ha⟩ := app_of h hf hc hn
    rw [termAt_eq ha.inv, termAt_eq h, ha.ix, ha.tm, ha.es]
    by_cases h1 : m < s.ix
    · rw [if_pos h1, if_pos h1]
    · by_cases h2 : m = s.ix
      · rw [if_neg h1, if_neg h1, if_pos h2, if_pos h2]
      · have h3 := ha.le
        have h4 := ha.len
        have h5 := ha.base
        rw [if_neg h1, if_neg h1, if_neg h2, if_neg h2, List.getElem?_append_left (by rw [List.length_take]; omega), List.getElem?_take, if_pos (by omega)]
/-- What was appended is there. -/
theorem append_has {s : Lg} (h : Inv s) {i t : Nat} (hf : fits s i t = true) {l : List En} (hc : chain i t l) : ∀ x ∈ l, fits (appendL s l) x.ix x.tm = true := by
  intro x hx
  cases hn : newOnes s l with
  | nil => rw [appendL_none hn]; exact new_none hn x hx
  | cons e r =>
    obtain ⟨p, pre, ha⟩ := app_of h hf hc hn
    have h4 := ha.len
    have h5 := ha.base
    have hxc := hx
    rw [ha.split] at hxc
    rcases List.mem_append.1 hxc with hx1 | hx1
    · -- of those that were there
      have hfx := ha.pre x hx1
      have hcp := hc
      rw [ha.split] at hcp
      obtain ⟨c1, c2⟩ := chain_append.1 hcp
      have hxp : x.ix ≤ p := by
        have h6 := (chain_mem c1 hx1).2
        have h7 := endOf_ix c1
        have h8 := c2.1
        have h9 := ha.at_
        omega
      rcases (fits_iff h).1 hfx with ⟨e1, e2⟩ | ⟨e1, y, e2, e3⟩
      · rw [fits_iff ha.inv]
        exact .inl ⟨by rw [ha.ix]; exact e1, by rw [ha.tm]; exact e2⟩
      · rw [fits_iff ha.inv]
        refine .inr ⟨by rw [ha.ix]; exact e1, y, ?_, e3⟩
        rw [ha.ix, ha.es, List.getElem?_append_left (by rw [List.length_take]; omega), List.getElem?_take, if_pos (by omega)]
        exact e2
    · rw [fits_iff ha.inv]
      obtain ⟨j, hj⟩ := List.mem_iff_getElem?.1 hx1
      have hx2 : (appendL s l).es[p - s.ix + j]? = some x := by
        rw [ha.es, List.getElem?_append_right (by rw [List.length_take]; omega), List.length_take, Nat.min_eq_left h4, show p - s.ix + j - (p - s.ix) = j by omega]
        exact hj
      have h6 := chain_at ha.inv hx2
      rw [ha.ix] at h6
      refine .inr ⟨by rw [ha.ix]; omega, x, ?_, rfl⟩
      rw [ha.ix, show x.ix - (s.ix + 1) = p - s.ix + j by omega]
      exact hx2
/-- The same entries behind the same place: the same terms up to their end, whatever the two logs are; and again, nothing is new. -/
theorem matches_ {a b : Lg} (ha : Inv a) (hb : Inv b) {i t : Nat} (hfa : fits a i t = true) (hfb : fits b i t = true) {l : List En} (hc : chain i t l) :
    (∀ k, i ≤ k → k ≤ i + l.length → termAt (appendL a l) k = termAt (appendL b l) k) ∧ newOnes (appendL a l) l = [] ∧ fits (appendL a l) i t = true := by
  refine ⟨fun k h1 h2 => ?_, new_of_all (append_has ha hfa hc), ?_⟩
  · by_cases e : k = i
    · subst e
      rw [append_keeps ha hfa hc (Nat.le_refl _), append_keeps hb hfb hc (Nat.le_refl _)]
      unfold fits at hfa hfb
      rw [beq_iff_eq] at hfa hfb
      rw [hfa, hfb]
    · have hk : k - (i + 1) < l.length := by omega
      have hx := chain_at hc (List.getElem?_eq_getElem hk)
      have h3 := append_has ha hfa hc _ (List.getElem_mem hk)
      have h4 := append_has hb hfb hc _ (List.getElem_mem hk)
      unfold fits at h3 h4
      rw [beq_iff_eq] at h3 h4
      rw [show l[k - (i + 1)].ix = k by omega] at h3 h4
      rw [h3, h4]
  · unfold fits at hfa ⊢
    rw [beq_iff_eq] at hfa ⊢
    rw [append_keeps ha (by unfold fits; rw [beq_iff_eq]; exact hfa) hc (Nat.le_refl _)]
    exact hfa
/-- In two parts as at once. -/
theorem splits_ {s : Lg} (h : Inv s) {i t : Nat} (hf : fits s i t = true) {a b : List En} (hc : chain i t (a ++ b)) : appendL (appendL s a) b = appendL s (a ++ b) := by
  obtain ⟨c1, c2⟩ := chain_append.1 hc
  cases hn : newOnes s a with
  | nil =>
    have hall := new_none hn
    have e : newOnes s (a ++ b) = newOnes s b := by
      unfold newOnes
      rw [List.dropWhile_append_of_pos hall]
    rw [appendL_none hn]
    unfold appendL
    rw [e]
  | cons e r =>
    obtain ⟨p, pre, ha⟩ := app_of h hf c1 hn
    have hne : newOnes s (a ++ b) = e :: (r ++ b) := by
      unfold newOnes at hn ⊢
      rw [List.dropWhile_append, hn]
      rfl
    cases b with
    | nil => rw [List.append_nil]; unfold appendL; rfl
    | cons y z =>
      have hend := endOf_ix c1
      have hy := c2.1
      -- the first log's end is the list's
      have hlen : (appendL s a).es.length = p - s.ix + 1 + r.length := by
        rw [ha.es, List.length_append, List.length_take, Nat.min_eq_left ha.len, List.length_cons]; omega
      have hal : a.length = pre.length + 1 + r.length := by rw [ha.split, List.length_append, List.length_cons]; omega
      have hpi : p = i + pre.length := by
        have hcp := c1
        rw [ha.split] at hcp
        obtain ⟨d1, d2⟩ := chain_append.1 hcp
        have h6 := endOf_ix d1
        have h7 := d2.1
        have h8 := ha.at_
        omega
      have h5 := ha.base
      have hnf : fits (appendL s a) y.ix y.tm = false := by
        rw [Bool.eq_false_iff]
        intro hfy
        have := (end_fits ha.inv hfy).2.1
        rw [ha.ix] at this
        omega
      have hnb : newOnes (appendL s a) (y :: z) = y :: z := by
        unfold newOnes
        rw [List.dropWhile_cons_of_neg (p := fun e : En => fits (appendL s a) e.ix e.tm) (by show ¬ fits (appendL s a) y.ix y.tm = true; rw [hnf]; decide)]
      have hfull : ((appendL s a).es.filter fun x => decide (x.ix < y.ix)) = (appendL s a).es := by
        rw [List.filter_eq_self]
        intro x hx
        have h6 := (chain_mem ha.inv hx).2
        rw [ha.ix] at h6
        simp
        omega
      have e0 : ∀ s1 : Lg, newOnes s1 (y :: z) = y :: z → (s1.es.filter fun x => decide (x.ix < y.ix)) = s1.es → appendL s1 (y :: z) = ⟨s1.ix, s1.tm, s1.es ++ y :: z⟩ := by
        intro s1 h1 h2
        unfold appendL
        rw [h1]
        dsimp only
        rw [h2]
      have e1 := e0 (appendL s a) hnb hfull
      have e2 : appendL s (a ++ y :: z) = ⟨s.ix, s.tm, (s.es.filter fun x => decide (x.ix < e.ix)) ++ e :: (r ++ y :: z)⟩ := by
        unfold appendL
        rw [hne]
      have e3 : (appendL s a).es = (s.es.filter fun x => decide (x.ix < e.ix)) ++ e :: r := by
        unfold appendL
        rw [hn]
      rw [e1, e2, e3, ha.ix, ha.tm]
      simp
theorem inv_shrink {s : Lg} (h : Inv s) {i t : Nat} (hf : fits s i t = true) : Inv (shrinkL s i t) := by
  obtain ⟨_, _, h3⟩ := end_fits h hf
  unfold shrinkL Inv
  dsimp only
  rw [chain_filter_gt h]
  have h4 : chain s.ix s.tm (s.es.take (i - s.ix) ++ s.es.drop (i - s.ix)) := by rw [List.take_append_drop]; exact h
  have h5 := (chain_append.1 h4).2
  rwa [h3] at h5
/-- What a hint is: behind so many entries. -/
theorem hint_spec (s : Lg) (i t : Nat) : ∀ (l : List En) (p : Nat × Nat), (∃ e ∈ l, (e.ix ≤ i ∧ e.tm ≤ t) ∧ l.foldl (fun p e => if e.ix ≤ i ∧ e.tm ≤ t then (e.ix, e.tm) else p) p = (e.ix, e.tm)) ∨
    ((∀ e ∈ l, ¬ (e.ix ≤ i ∧ e.tm ≤ t)) ∧ l.foldl (fun p e => if e.ix ≤ i ∧ e.tm ≤ t then (e.ix, e.tm) else p) p = p)
  | [], p => .inr ⟨fun e he => absurd he List.not_mem_nil, rfl⟩
  | e :: r, p => by
    rw [List.foldl_cons]
    rcases hint_spec s i t r (if e.ix ≤ i ∧ e.tm ≤ t then (e.ix, e.tm) else p) with ⟨x, hx, h1, h2⟩ | ⟨h1, h2⟩
    · exact .inl ⟨x, List.mem_cons_of_mem _ hx, h1, h2⟩
    · by_cases he : e.ix ≤ i ∧ e.tm ≤ t
      · rw [if_pos he] at h2 ⊢
        exact .inl ⟨e, by simp, he, h2⟩
      · rw [if_neg he] at h2 ⊢
        refine .inr ⟨fun x hx => ?_, h2⟩
        rcases List.mem_cons.1 hx with rfl | hx
        · exact he
        · exact h1 x hx
theorem hint_last (i t : Nat) : ∀ (l : List En) (a b : Nat) (p : Nat × Nat), chain a b l → p.1 ≤ a → ∀ e ∈ l, e.ix ≤ i → e.tm ≤ t → e.ix ≤ (l.foldl (fun p e => if e.ix ≤ i ∧ e.tm ≤ t then (e.ix, e.tm) else p) p).1
  | [], _, _, _, _, _ => fun e he => absurd he List.not_mem_nil
  | x :: r, a, b, p, hc, hp => fun e he h1 h2 => by
    rw [List.foldl_cons]
    have hx := hc.1
    rcases List.mem_cons.1 he with rfl | he
    · rw [if_pos ⟨h1, h2⟩]
      rcases hint_spec ⟨0, 0, []⟩ i t r (e.ix, e.tm) with ⟨y, hy, _, h4⟩ | ⟨_, h4⟩
      · rw [h4]
        exact Nat.le_of_lt (chain_mem hc.2.2 hy).1
      · rw [h4]; exact Nat.le_refl _
    · refine hint_last i t r x.ix x.tm _ hc.2.2 ?_ e he h1 h2
      split
      · exact Nat.le_refl _
      · omega
/-- A hint is a place of the log; not above what was asked, unless it is the base; and no greater one is. -/
theorem hint_ok {s : Lg} (h : Inv s) (i t : Nat) : fits s (hintL s i t).1 (hintL s i t).2 = true ∧ ((hintL s i t).1 = s.ix ∨ ((hintL s i t).1 ≤ i ∧ (hintL s i t).2 ≤ t)) ∧
    ∀ e ∈ s.es, ¬ ((hintL s i t).1 < e.ix ∧ e.ix ≤ i ∧ e.tm ≤ t) := by
  refine ⟨?_, ?_, fun e he hh => ?_⟩
  · unfold hintL
    rcases hint_spec s i t s.es (s.ix, s.tm) with ⟨x, hx, _, h2⟩ | ⟨_, h2⟩
    · rw [h2, fits_iff h]
      obtain ⟨j, hj⟩ := List.mem_iff_getElem?.1 hx
      have h3 := chain_at h hj
      exact .inr ⟨by omega, x, by rw [show x.ix - (s.ix + 1) = j by omega]; exact hj, rfl⟩
    · rw [h2, fits_iff h]
      exact .inl ⟨rfl, rfl⟩
  · unfold hintL
    rcases hint_spec s i t s.es (s.ix, s.tm) with ⟨x, hx, h1, h2⟩ | ⟨_, h2⟩
    · rw [h2]; exact .inr h1
    · rw [h2]; exact .inl rfl
  · have := hint_last i t s.es s.ix s.tm (s.ix, s.tm) h (Nat.le_refl _) e he hh.2.1 hh.2.2
    have h1 := hh.1
    unfold hintL at h1
    omega
/-- Of two ends one is at least as new; and it goes on. -/
def newer (i t k u : Nat) : Bool := decide (u < t) || (decide (t = u) && decide (k ≤ i))
theorem fresh_eq (s : Lg) (i t : Nat) : fresh s i t = newer i t (lastL s).1 (lastL s).2 := rfl
theorem newer_total (i t k u : Nat) : newer k u i t = true ∨ newer i t k u = true := by
  unfold newer
  simp only [Bool.or_eq_true, Bool.and_eq_true, decide_eq_true_eq]
  omega
theorem newer_trans {i t k u j v : Nat} (h1 : newer k u i t = true) (h2 : newer j v k u = true) : newer j v i t = true := by
  unfold newer at h1 h2 ⊢
  simp only [Bool.or_eq_true, Bool.and_eq_true, decide_eq_true_eq] at h1 h2 ⊢
  omega
theorem last_eq {s : Lg} (h : Inv s) : (lastL s).1 = s.ix + s.es.length ∧ fits s (lastL s).1 (lastL s).2 = true := by
  unfold lastL
  cases hl : s.es.getLast? with
  | none =>
    have h0 : s.es = [] := by simpa using hl
    exact ⟨by rw [h0]; rfl, (fits_iff h).2 (.inl ⟨rfl, rfl⟩)⟩
  | some e =>
    have hne : 0 < s.es.length := by
      rcases Nat.eq_zero_or_pos s.es.length with h0 | h0
      · rw [List.length_eq_zero_iff.1 h0] at hl; cases hl
      · exact h0
    have hk : s.es[s.es.length - 1]? = some e := by rw [← List.getLast?_eq_getElem?]; exact hl
    have hx := chain_at h hk
    refine ⟨by show e.ix = _; omega, (fits_iff h).2 (.inr ⟨by show s.ix < e.ix; omega, e, ?_, rfl⟩)⟩
    show s.es[e.ix - (s.ix + 1)]? = some e
    rw [show e.ix - (s.ix + 1) = s.es.length - 1 by omega]
    exact hk
end Go.Proofs.YtdbaajgkcjpnoaaGreat.Rg
