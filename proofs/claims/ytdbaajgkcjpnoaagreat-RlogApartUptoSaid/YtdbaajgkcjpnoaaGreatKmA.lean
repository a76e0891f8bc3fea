/- Configurations: what is asked of one, as plain facts: the package's way and the reference's come to the same. -/
import Derived.Test.YtdbaajgkcjpnoaaGreatGF
import Derived.Test.YtdbaajgkcjpnoaaGreatGC
namespace Go.Proofs.YtdbaajgkcjpnoaaGreat.Kd
open Go.RowKit By CoP Co Mo

/-- Two lists that rise have nothing in common. -/
def apartB : List Int → List Int → Bool
  | [], _ => true
  | _ :: _, [] => true
  | x :: s, y :: t => if x = y then false else if x < y then apartB s (y :: t) else apartB (x :: s) t
termination_by a b => a.length + b.length
theorem apartB_nil (b : List Int) : apartB [] b = true := by rw [apartB]
theorem apartB_nil2 (a : List Int) : apartB a [] = true := by cases a <;> rw [apartB]
theorem apartB_cons (x y : Int) (s t : List Int) : apartB (x :: s) (y :: t) = if x = y then false else if x < y then apartB s (y :: t) else apartB (x :: s) t := by rw [apartB]

def litZ (z : Int) : Data := .lit (.int .i64 z)
def datI : Data → Int
  | .lit (.int _ z) => z
  | _ => 0
def idsK : Kd := listK (intK 1 16) 16
/-- What is asked of a configuration's lists together. -/
def confT : List Data → Bool
  | [.agg vs, .agg ls] => decide (0 < vs.length) && ascB (vs.map datI) && ascB (ls.map datI) && apartB (vs.map datI) (ls.map datI)
  | _ => false
def confF : List Kd := [idsK, idsK]
def confK : Kd := recK confF confT
def confD (vs ls : List Int) : Data := .agg [.agg (vs.map litZ), .agg (ls.map litZ)]
theorem map_datI (l : List Int) : (l.map litZ).map datI = l := by
  rw [List.map_map]
  conv => rhs; rw [← List.map_id l]
  exact List.map_congr_left fun _ _ => rfl
theorem idsK_ok : idsK.Ok := listK_ok (intK_ok 1 16) 16
theorem confF_ok : ∀ k ∈ confF, k.Ok := by
  intro k hk
  simp only [confF, List.mem_cons, List.not_mem_nil, or_false] at hk
  rcases hk with rfl | rfl <;> exact idsK_ok
theorem confK_ok : confK.Ok := recK_ok confF_ok _
theorem idsK_laws : idsK.Laws := listK_laws (intK_ok 1 16) (intK_laws 1 16) 16
theorem confF_laws : ∀ k ∈ confF, k.Ok ∧ k.Laws := by
  intro k hk
  simp only [confF, List.mem_cons, List.not_mem_nil, or_false] at hk
  rcases hk with rfl | rfl <;> exact ⟨idsK_ok, idsK_laws⟩
theorem confK_laws : confK.Laws := recK_laws confF_laws _

theorem ids_shape {w : World} {vs : List Value} {d : Data} {lo hi most : Int} (h : (listK (intK lo hi) most).rep w (Old w) vs d) :
    ∃ A c l, vs = [.slice A l.length c] ∧ d = .agg (l.map litZ) ∧ l.length ≤ c ∧ l.length ≤ 140737488355328 ∧ LiesI w w.heap.size A l := by
  obtain ⟨A, c, ds, rfl, rfl, hc, hm, hl⟩ := h
  have hz : ∀ (j : Nat) (d : Data), ds[j]? = some d → ∃ z : Int, d = litZ z ∧ -9223372036854775808 ≤ z ∧ z ≤ 9223372036854775807 := by
    intro j d hj
    obtain ⟨g, o, _, _, h⟩ := hl (by have := (List.getElem?_eq_some_iff.1 hj).1; omega)
    obtain ⟨vs, ⟨z, h1, h2, _, rfl⟩, _⟩ := h j d hj
    exact ⟨z, rfl, h1, h2⟩
  have he : (ds.map datI).map litZ = ds := by
    rw [List.map_map]
    conv => rhs; rw [← List.map_id ds]
    refine List.map_congr_left ?_
    intro d hd
    obtain ⟨j, hj⟩ := List.mem_iff_getElem?.1 hd
    obtain ⟨z, rfl, _⟩ := hz j d hj
    rfl
  refine ⟨A, c, ds.map datI, by rw [List.length_map], by rw [he], by simpa using hc, by simpa using hm, fun hn => ?_⟩
  obtain ⟨g, o, e, hg, h⟩ := hl (by simpa using hn)
  refine ⟨g, o, e, hg, fun j x hx => ?_⟩
  rw [List.getElem?_map, Option.map_eq_some_iff] at hx
  obtain ⟨d, hd, rfl⟩ := hx
  obtain ⟨vs, ⟨z, h1, h2, rfl, rfl⟩, hr⟩ := h j d hd
  have h3 : w.cell? ⟨g, o + j * 1, none⟩ = some (.int .i64 z) := hr.cell
  rw [Nat.mul_one] at h3
  exact ⟨h3, h1, h2⟩
theorem conf_shape {w : World} {vs : List Value} {ds : List Data} (h : RepAll w (Old w) confF vs ds) :
    ∃ A c l A2 c2 l2, vs = [.slice A l.length c, .slice A2 l2.length c2] ∧ ds = [.agg (l.map litZ), .agg (l2.map litZ)] ∧ l.length ≤ c ∧ l.length ≤ 140737488355328 ∧ LiesI w w.heap.size A l ∧
      l2.length ≤ c2 ∧ l2.length ≤ 140737488355328 ∧ LiesI w w.heap.size A2 l2 := by
  obtain ⟨_, _, _, _, rfl, rfl, h1, _, _, _, _, rfl, rfl, h2, rfl, rfl⟩ := h
  obtain ⟨A, c, l, rfl, rfl, h3, h4, h5⟩ := ids_shape h1
  obtain ⟨A2, c2, l2, rfl, rfl, h6, h7, h8⟩ := ids_shape h2
  exact ⟨A, c, l, A2, c2, l2, rfl, rfl, h3, h4, h5, h6, h7, h8⟩

theorem rising_iff (p : Int) (l : List Int) : risingFrom p l = true ↔ (∀ x ∈ l, 1 ≤ x ∧ x ≤ 16) ∧ ascFrom p l = true := by
  induction l generalizing p with
  | nil => simp [risingFrom, ascFrom]
  | cons x t ih =>
    simp only [risingFrom, ascFrom, Bool.and_eq_true, decide_eq_true_eq, ih x, List.mem_cons]
    constructor
    · rintro ⟨⟨⟨h1, h2⟩, h3⟩, h4, h5⟩
      refine ⟨?_, h3, h5⟩
      rintro y (rfl | hy)
      · exact ⟨h1, h2⟩
      · exact h4 y hy
    · rintro ⟨h1, h2, h3⟩
      exact ⟨⟨⟨(h1 x (.inl rfl)).1, (h1 x (.inl rfl)).2⟩, h2⟩, fun y hy => h1 y (.inr hy), h3⟩
theorem risingB_iff (l : List Int) : risingB l = true ↔ (∀ x ∈ l, 1 ≤ x ∧ x ≤ 16) ∧ ascB l = true := by
  unfold risingB
  cases l with
  | nil => simp [risingFrom, ascB]
  | cons x t =>
    rw [rising_iff]
    simp only [ascFrom, ascB, Bool.and_eq_true, decide_eq_true_eq]
    constructor
    · rintro ⟨h1, _, h3⟩
      exact ⟨h1, h3⟩
    · rintro ⟨h1, h3⟩
      exact ⟨h1, by have := (h1 x List.mem_cons_self).1; omega, h3⟩
theorem rising_len (p : Int) (l : List Int) (h : risingFrom p l = true) : l = [] ∨ (l.length : Int) + p ≤ 16 := by
  induction l generalizing p with
  | nil => exact .inl rfl
  | cons x t ih =>
    simp only [risingFrom, Bool.and_eq_true, decide_eq_true_eq] at h
    obtain ⟨⟨⟨h1, h2⟩, h3⟩, h4⟩ := h
    refine .inr ?_
    rcases ih x h4 with rfl | h5
    · simp; omega
    · simp only [List.length_cons]; omega
theorem risingB_len {l : List Int} (h : risingB l = true) : l.length ≤ 16 := by
  rcases rising_len 0 l h with rfl | h1
  · simp
  · omega
theorem asc_above (p : Int) (l : List Int) (h : ascFrom p l = true) : ∀ x ∈ l, p < x := by
  induction l generalizing p with
  | nil => intro x hx; simp at hx
  | cons y t ih =>
    simp only [ascFrom, Bool.and_eq_true, decide_eq_true_eq] at h
    intro x hx
    rcases List.mem_cons.1 hx with rfl | hx
    · exact h.1
    · have := ih y h.2 x hx
      omega
theorem ascB_tail {x : Int} {t : List Int} (h : ascB (x :: t) = true) : ascB t = true := by
  cases t with
  | nil => rfl
  | cons y u =>
    simp only [ascB, ascFrom, Bool.and_eq_true] at h ⊢
    exact h.2
theorem apartB_iff : ∀ (n : Nat) (a b : List Int), a.length + b.length ≤ n → ascB a = true → ascB b = true → (apartB a b = true ↔ ∀ v ∈ a, v ∉ b) := by
  intro n
  induction n with
  | zero =>
    intro a b h _ _
    have : a = [] := List.length_eq_zero_iff.1 (by omega)
    subst this
    simp [apartB_nil]
  | succ n ih =>
    intro a b h ha hb
    cases a with
    | nil => simp [apartB_nil]
    | cons x s =>
      cases b with
      | nil => simp [apartB_nil2]
      | cons y t =>
        simp only [List.length_cons] at h
        rw [apartB_cons]
        by_cases h1 : x = y
        · rw [if_pos h1]
          constructor
          · intro e; cases e
          · intro e
            exact absurd (by rw [h1]; exact List.mem_cons_self) (e x List.mem_cons_self)
        · rw [if_neg h1]
          by_cases h2 : x < y
          · rw [if_pos h2, ih s (y :: t) (by simp only [List.length_cons]; omega) (ascB_tail ha) hb]
            have hx : x ∉ y :: t := by
              intro e
              rcases List.mem_cons.1 e with e | e
              · exact h1 e
              · have := asc_above y t hb x e
                omega
            constructor
            · intro e v hv
              rcases List.mem_cons.1 hv with rfl | hv
              · exact hx
              · exact e v hv
            · intro e v hv
              exact e v (List.mem_cons_of_mem _ hv)
          · rw [if_neg h2, ih (x :: s) t (by simp only [List.length_cons]; omega) ha (ascB_tail hb)]
            have hy : ∀ v ∈ x :: s, v ≠ y := by
              intro v hv e
              rcases List.mem_cons.1 hv with e2 | e2
              · omega
              · have := asc_above x s ha v e2
                omega
            constructor
            · intro e v hv e2
              rcases List.mem_cons.1 e2 with e3 | e3
              · exact hy v hv e3
              · exact e v hv e3
            · intro e v hv e2
              exact e v hv (List.mem_cons_of_mem _ e2)
theorem ids_sound (l : List Int) : idsK.sound (.agg (l.map litZ)) = true ↔ l.length ≤ 16 ∧ ∀ x ∈ l, 1 ≤ x ∧ x ≤ 16 := by
  have e : idsK.sound (.agg (l.map litZ)) = (decide (((l.map litZ).length : Int) ≤ 16) && (l.map litZ).all (intK 1 16).sound) := rfl
  rw [e, Bool.and_eq_true, decide_eq_true_eq, List.all_eq_true, List.length_map]
  constructor
  · rintro ⟨h1, h2⟩
    refine ⟨by omega, fun x hx => ?_⟩
    have h3 := h2 (litZ x) (List.mem_map_of_mem hx)
    have e2 : (intK 1 16).sound (litZ x) = (decide (1 ≤ x) && decide (x ≤ 16)) := rfl
    rw [e2, Bool.and_eq_true, decide_eq_true_eq, decide_eq_true_eq] at h3
    exact h3
  · rintro ⟨h1, h2⟩
    refine ⟨by omega, fun d hd => ?_⟩
    obtain ⟨x, hx, rfl⟩ := List.mem_map.1 hd
    have e2 : (intK 1 16).sound (litZ x) = (decide (1 ≤ x) && decide (x ≤ 16)) := rfl
    rw [e2, Bool.and_eq_true, decide_eq_true_eq, decide_eq_true_eq]
    exact h2 x hx
theorem conf_sound (vs ls : List Int) : confK.sound (confD vs ls) = confB vs ls := by
  have e : confK.sound (confD vs ls) = ((idsK.sound (.agg (vs.map litZ)) && (idsK.sound (.agg (ls.map litZ)) && true)) && (decide (0 < (vs.map litZ).length) && ascB ((vs.map litZ).map datI) && ascB ((ls.map litZ).map datI) && apartB ((vs.map litZ).map datI) ((ls.map litZ).map datI))) := rfl
  rw [e, map_datI, map_datI, List.length_map, Bool.eq_iff_iff]
  simp only [confB, Bool.and_eq_true, Bool.and_true, decide_eq_true_eq, ids_sound, risingB_iff, List.all_eq_true]
  constructor
  · rintro ⟨⟨⟨h1, h2⟩, h3, h4⟩, ⟨⟨h5, h6⟩, h7⟩, h8⟩
    exact ⟨⟨⟨(apartB_iff _ vs ls (Nat.le_refl _) h6 h7).1 h8, h2, h6⟩, h4, h7⟩, h5⟩
  · rintro ⟨⟨⟨h1, h2, h3⟩, h4, h5⟩, h6⟩
    exact ⟨⟨⟨risingB_len ((risingB_iff vs).2 ⟨h2, h3⟩), h2⟩, risingB_len ((risingB_iff ls).2 ⟨h4, h5⟩), h4⟩, ⟨⟨h6, h3⟩, h5⟩, (apartB_iff _ vs ls (Nat.le_refl _) h3 h5).2 h1⟩

/-! What is read. -/
theorem wrap_small {v : Nat} (h : v ≤ 9223372036854775807) : wrap64 ((v : Nat) : Int) = (v : Int) := by unfold wrap64; omega
theorem wrap_back2 {v : Nat} (h : v < 18446744073709551616) (h1 : 0 ≤ wrap64 ((v : Nat) : Int)) : wrap64 ((v : Nat) : Int) = (v : Int) ∧ v ≤ 9223372036854775807 := by unfold wrap64 at *; omega
theorem pNum_of {r : List UInt8} (h : (numR r).2.2 = 0) : pNum (some r) = ((numR r).1, some (r.drop (numR r).2.1)) := by simp [pNum, h]
theorem pNum_bad {r : List UInt8} (h : (numR r).2.2 ≠ 0) : pNum (some r) = (0, none) := by simp [pNum, h]
theorem numR_lt {r : List UInt8} (h : (numR r).2.2 = 0) : (numR r).1 < 18446744073709551616 := by
  have := pNum_lt (some r)
  rwa [pNum_of h] at this
theorem pInt_some {most : Nat} {r r' : List UInt8} {n : Nat} (h : pInt most (some r) = (n, some r')) : (numR r).2.2 = 0 ∧ n = (numR r).1 ∧ n ≤ most ∧ r' = r.drop (numR r).2.1 := by
  unfold pInt at h
  by_cases hb : (numR r).2.2 = 0
  · rw [pNum_of hb] at h
    simp only at h
    split at h
    · simp at h
    · simp only [Prod.mk.injEq, Option.some.injEq] at h
      exact ⟨hb, h.1.symm, by omega, h.2.symm⟩
  · rw [pNum_bad hb] at h
    simp only at h
    split at h <;> simp at h
theorem pInt_of {most : Nat} {r : List UInt8} (h : (numR r).2.2 = 0) (h2 : (numR r).1 ≤ most) : pInt most (some r) = ((numR r).1, some (r.drop (numR r).2.1)) := by
  unfold pInt
  rw [pNum_of h]
  simp only
  rw [if_neg (by omega)]
theorem intK_of {lo hi : Int} {r : List UInt8} (h : (numR r).2.2 = 0) : (intK lo hi).get r = some (.lit (.int .i64 (wrap64 ((numR r).1 : Nat))), (numR r).2.1) := by
  simp [intK, h]
theorem intK_some {lo hi : Int} {r : List UInt8} {d : Data} {u : Nat} (h : (intK lo hi).get r = some (d, u)) : (numR r).2.2 = 0 ∧ d = .lit (.int .i64 (wrap64 ((numR r).1 : Nat))) ∧ u = (numR r).2.1 := by
  simp only [intK] at h
  split at h
  · cases h
  · rename_i h1
    simp only [Option.some.injEq, Prod.mk.injEq] at h
    exact ⟨by simpa using h1, h.1.symm, h.2.symm⟩
theorem idsL_get (n : Nat) : ∀ (r : List UInt8) {l : List Nat} {r' : List UInt8}, pIdsL n (some r) = (l, some r') → ∃ u, getMany (intK 1 16) n r = some ((asI l).map litZ, u) ∧ r' = r.drop u ∧ u ≤ r.length := by
  induction n with
  | zero =>
    intro r l r' h
    simp only [pIdsL, Prod.mk.injEq, Option.some.injEq] at h
    obtain ⟨rfl, rfl⟩ := h
    exact ⟨0, rfl, by simp, Nat.zero_le _⟩
  | succ n ih =>
    intro r l r' h
    simp only [pIdsL] at h
    rcases hp : pInt 16 (some r) with ⟨x, s⟩
    rw [hp] at h
    cases s with
    | none =>
      simp only [pIdsL_none, Prod.mk.injEq] at h
      exact absurd h.2 (by simp)
    | some r1 =>
      obtain ⟨h1, rfl, h3, rfl⟩ := pInt_some hp
      simp only [Prod.mk.injEq] at h
      obtain ⟨rfl, h5⟩ := h
      obtain ⟨u, h6, rfl, h7⟩ := ih _ (Prod.ext rfl h5)
      have hu := numR_used r h1
      rw [List.length_drop] at h7
      refine ⟨(numR r).2.1 + u, ?_, by rw [List.drop_drop], by omega⟩
      simp only [getMany]
      rw [intK_of h1]
      simp only [h6]
      rw [wrap_small (by omega)]
      rfl
theorem get_idsL (n : Nat) : ∀ (r : List UInt8) {ds : List Data} {u : Nat}, getMany (intK 1 16) n r = some (ds, u) → ds.all (intK 1 16).sound = true → ∃ l, pIdsL n (some r) = (l, some (r.drop u)) ∧ ds = (asI l).map litZ := by
  induction n with
  | zero =>
    intro r ds u h _
    simp only [getMany, Option.some.injEq, Prod.mk.injEq] at h
    obtain ⟨rfl, rfl⟩ := h
    exact ⟨[], by simp [pIdsL], rfl⟩
  | succ n ih =>
    intro r ds u h hs
    simp only [getMany] at h
    split at h
    · cases h
    · rename_i d u1 h1
      obtain ⟨h2, rfl, rfl⟩ := intK_some h1
      split at h
      · cases h
      · rename_i ds2 v h3
        simp only [Option.some.injEq, Prod.mk.injEq] at h
        obtain ⟨rfl, rfl⟩ := h
        rw [List.all_cons, Bool.and_eq_true] at hs
        obtain ⟨h4, h5⟩ := hs
        have e2 : (intK 1 16).sound (.lit (.int .i64 (wrap64 ((numR r).1 : Nat)))) = (decide (1 ≤ wrap64 ((numR r).1 : Nat)) && decide (wrap64 ((numR r).1 : Nat) ≤ 16)) := rfl
        rw [e2, Bool.and_eq_true, decide_eq_true_eq, decide_eq_true_eq] at h4
        obtain ⟨h6, h7⟩ := wrap_back2 (numR_lt h2) (by omega)
        obtain ⟨l, h8, h9⟩ := ih _ h3 h5
        refine ⟨(numR r).1 :: l, ?_, ?_⟩
        · simp only [pIdsL]
          rw [pInt_of h2 (by omega)]
          simp only [h8, List.drop_drop]
        · rw [h9, h6]
          rfl
theorem ids_get {r : List UInt8} {l : List Nat} {r' : List UInt8} (h : pIds (some r) = (l, some r')) : ∃ u, idsK.get r = some (.agg ((asI l).map litZ), u) ∧ r' = r.drop u ∧ u ≤ r.length := by
  unfold pIds at h
  rcases hp : pInt 16 (some r) with ⟨x, s⟩
  rw [hp] at h
  cases s with
  | none =>
    simp only [pIdsL_none, Prod.mk.injEq] at h
    exact absurd h.2 (by simp)
  | some r1 =>
    obtain ⟨h1, rfl, h3, rfl⟩ := pInt_some hp
    obtain ⟨u, h4, rfl, h5⟩ := idsL_get _ _ h
    have hu := numR_used r h1
    rw [List.length_drop] at h5
    refine ⟨(numR r).2.1 + u, ?_, by rw [List.drop_drop], by omega⟩
    simp only [idsK, listK]
    rw [if_neg (by simp only [h1, ne_eq, not_true_eq_false, false_or]; omega), h4]
    rfl
theorem get_ids {r : List UInt8} {d : Data} {u : Nat} (h : idsK.get r = some (d, u)) (hs : idsK.sound d = true) : ∃ l, pIds (some r) = (l, some (r.drop u)) ∧ d = .agg ((asI l).map litZ) := by
  simp only [idsK, listK] at h
  split at h
  · cases h
  · rename_i h0
    simp only [not_or, ne_eq, Decidable.not_not] at h0
    obtain ⟨h1, h2⟩ := h0
    simp only [Option.map_eq_some_iff] at h
    obtain ⟨⟨ds, v⟩, h3, h4⟩ := h
    simp only [Prod.mk.injEq] at h4
    obtain ⟨rfl, rfl⟩ := h4
    have e : idsK.sound (.agg ds) = (decide ((ds.length : Int) ≤ 16) && ds.all (intK 1 16).sound) := rfl
    rw [e, Bool.and_eq_true] at hs
    obtain ⟨l, h5, rfl⟩ := get_idsL _ _ h3 hs.2
    refine ⟨l, ?_, rfl⟩
    unfold pIds
    rw [pInt_of h1 (by omega), h5, List.drop_drop]
theorem conf_get {r : List UInt8} {vs ls : List Nat} {r' : List UInt8} (h : pConf (some r) = ((vs, ls), some r')) : ∃ u, confK.get r = some (confD (asI vs) (asI ls), u) ∧ r' = r.drop u ∧ u ≤ r.length := by
  unfold pConf at h
  rcases h1 : pIds (some r) with ⟨l1, s1⟩
  rw [h1] at h
  simp only at h
  cases s1 with
  | none =>
    have e : pIds none = ([], none) := by unfold pIds; exact pIdsL_none _
    rw [e] at h
    simp at h
  | some r1 =>
    rcases h2 : pIds (some r1) with ⟨l2, s2⟩
    rw [h2] at h
    simp only [Prod.mk.injEq] at h
    obtain ⟨⟨rfl, rfl⟩, rfl⟩ := h
    obtain ⟨u1, h3, rfl, h5⟩ := ids_get h1
    obtain ⟨u2, h4, rfl, h6⟩ := ids_get h2
    rw [List.length_drop] at h6
    refine ⟨u1 + u2, ?_, by rw [List.drop_drop], by omega⟩
    simp only [confK, recK, confF, getAll, h3, h4]
    rfl
theorem get_conf {r : List UInt8} {d : Data} {u : Nat} (h : confK.get r = some (d, u)) (hs : confK.sound d = true) : ∃ vs ls, pConf (some r) = ((vs, ls), some (r.drop u)) ∧ d = confD (asI vs) (asI ls) := by
  simp only [confK, recK, confF, getAll, Option.map_eq_some_iff] at h
  obtain ⟨⟨ds, v⟩, h1, h2⟩ := h
  simp only [Prod.mk.injEq] at h2
  obtain ⟨rfl, rfl⟩ := h2
  split at h1
  · cases h1
  · rename_i d1 u1 h3
    split at h1
    · cases h1
    · rename_i ds2 v2 h4
      simp only [Option.some.injEq, Prod.mk.injEq] at h1
      obtain ⟨rfl, rfl⟩ := h1
      split at h4
      · cases h4
      · rename_i d2 u2 h5
        simp only [Option.some.injEq, Prod.mk.injEq, Nat.add_zero] at h4
        obtain ⟨rfl, rfl⟩ := h4
        have e : confK.sound (.agg [d1, d2]) = ((idsK.sound d1 && (idsK.sound d2 && true)) && confT [d1, d2]) := rfl
        rw [e, Bool.and_true, Bool.and_eq_true, Bool.and_eq_true] at hs
        obtain ⟨l1, h6, rfl⟩ := get_ids h3 hs.1.1
        obtain ⟨l2, h7, rfl⟩ := get_ids h5 hs.1.2
        refine ⟨l1, l2, ?_, rfl⟩
        unfold pConf
        simp only [h6, h7, List.drop_drop]
/-- What bytes are a configuration's. -/
def confReads (b : List UInt8) : Bool := pWhole (pConf (some b)).2 && confB (asI (pConf (some b)).1.1) (asI (pConf (some b)).1.2)
theorem confReads_yes {b : List UInt8} (h : confReads b = true) : confK.get b = some (confD (asI (pConf (some b)).1.1) (asI (pConf (some b)).1.2), b.length) ∧ confK.sound (confD (asI (pConf (some b)).1.1) (asI (pConf (some b)).1.2)) = true := by
  unfold confReads at h
  rw [Bool.and_eq_true] at h
  obtain ⟨h1, h2⟩ := h
  refine ⟨?_, by rw [conf_sound]; exact h2⟩
  rcases hp : pConf (some b) with ⟨⟨vs, ls⟩, s⟩
  rw [hp] at h1
  simp only at h1 ⊢
  cases s with
  | none => simp [pWhole] at h1
  | some r =>
    cases r with
    | cons x t => simp [pWhole] at h1
    | nil =>
      obtain ⟨u, h3, h4, h5⟩ := conf_get hp
      have h6 : b.length ≤ u := by
        have := congrArg List.length h4
        simp only [List.length_nil, List.length_drop] at this
        omega
      rw [h3, show u = b.length by omega]
theorem confReads_no {b : List UInt8} (h : confReads b = false) (d : Data) : ¬ (confK.get b = some (d, b.length) ∧ confK.sound d = true) := by
  rintro ⟨h1, h2⟩
  obtain ⟨vs, ls, h3, rfl⟩ := get_conf h1 h2
  rw [conf_sound] at h2
  unfold confReads at h
  rw [h3, List.drop_length, Bool.and_eq_false_iff] at h
  rcases h with h | h
  · simp [pWhole] at h
  · rw [h2] at h; cases h
end Go.Proofs.YtdbaajgkcjpnoaaGreat.Kd
