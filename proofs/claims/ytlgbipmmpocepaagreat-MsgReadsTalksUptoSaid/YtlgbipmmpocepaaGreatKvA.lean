/- The reference's readers beside the kinds' own: what the one reads the other reads. Plain facts, no walk. -/
import Derived.Test.YtlgbipmmpocepaaGreatKqA
namespace Go.Proofs.YtlgbipmmpocepaaGreat.Kd
open Go.RowKit By CoP Co Mo

/-- A reader: a value, and what is left (nothing: it was bad). -/
abbrev Rdr := St → Data × St
structure Ties (k : Kd) (p : Rdr) (Q : Data → Prop) : Prop where
  bad : (p none).2 = none
  give : ∀ {r d r'}, p (some r) = (d, some r') → ∃ u, k.get r = some (d, u) ∧ r' = r.drop u
  take : ∀ {r d u}, k.get r = some (d, u) → Q d → p (some r) = (d, some (r.drop u))
def pAll : List Rdr → St → List Data × St
  | [], s => ([], s)
  | p :: ps, s => ((p s).1 :: (pAll ps (p s).2).1, (pAll ps (p s).2).2)
def TiesAll : List Kd → List Rdr → List (Data → Prop) → Prop
  | [], [], [] => True
  | k :: ks, p :: ps, q :: qs => Ties k p q ∧ TiesAll ks ps qs
  | _, _, _ => False
def HoldAll : List (Data → Prop) → List Data → Prop
  | [], [] => True
  | q :: qs, d :: ds => q d ∧ HoldAll qs ds
  | _, _ => False
theorem pAll_bad : ∀ {ks : List Kd} {ps : List Rdr} {qs : List (Data → Prop)}, TiesAll ks ps qs → (pAll ps none).2 = none := by
  intro ks
  induction ks with
  | nil => intro ps qs h; cases ps <;> cases qs <;> first | rfl | cases h
  | cons k ks ih =>
    intro ps qs h
    cases ps with
    | nil => cases qs <;> cases h
    | cons p ps =>
      cases qs with
      | nil => cases h
      | cons q qs =>
        obtain ⟨h1, h2⟩ := h
        show (pAll ps (p none).2).2 = none
        rw [h1.bad]
        exact ih h2
theorem pAll_give : ∀ {ks : List Kd} {ps : List Rdr} {qs : List (Data → Prop)}, TiesAll ks ps qs → ∀ {r ds r'}, pAll ps (some r) = (ds, some r') → ∃ u, getAll ks r = some (ds, u) ∧ r' = r.drop u := by
  intro ks
  induction ks with
  | nil =>
    intro ps qs h r ds r' e
    cases ps with
    | nil =>
      have e' : (([] : List Data), some r) = (ds, some r') := e
      injection e' with e1 e2
      injection e2 with e2
      subst e1 e2
      exact ⟨0, rfl, rfl⟩
    | cons p ps => cases qs <;> cases h
  | cons k ks ih =>
    intro ps qs h r ds r' e
    cases ps with
    | nil => cases qs <;> cases h
    | cons p ps =>
      cases qs with
      | nil => cases h
      | cons q qs =>
        obtain ⟨h1, h2⟩ := h
        have e' : ((p (some r)).1 :: (pAll ps (p (some r)).2).1, (pAll ps (p (some r)).2).2) = (ds, some r') := e
        injection e' with e1 e2
        cases hs : (p (some r)).2 with
        | none =>
          rw [hs, pAll_bad h2] at e2
          cases e2
        | some r1 =>
          obtain ⟨u, g1, rfl⟩ := h1.give (r := r) (d := (p (some r)).1) (r' := r1) (by rw [← hs])
          rw [hs] at e1 e2
          obtain ⟨v, g2, rfl⟩ := ih h2 (r := r.drop u) (ds := (pAll ps (some (r.drop u))).1) (r' := r') (by rw [← e2])
          refine ⟨u + v, ?_, by rw [List.drop_drop]⟩
          simp only [getAll, g1, g2]
          rw [← e1]
theorem pAll_take : ∀ {ks : List Kd} {ps : List Rdr} {qs : List (Data → Prop)}, TiesAll ks ps qs → ∀ {r ds u}, getAll ks r = some (ds, u) → HoldAll qs ds → pAll ps (some r) = (ds, some (r.drop u)) := by
  intro ks
  induction ks with
  | nil =>
    intro ps qs h r ds u e _
    cases ps with
    | nil =>
      have e' : some (([] : List Data), 0) = some (ds, u) := e
      injection e' with e'
      injection e' with e1 e2
      subst e1 e2
      rfl
    | cons p ps => cases qs <;> cases h
  | cons k ks ih =>
    intro ps qs h r ds u e hq
    cases ps with
    | nil => cases qs <;> cases h
    | cons p ps =>
      cases qs with
      | nil => cases h
      | cons q qs =>
        obtain ⟨h1, h2⟩ := h
        simp only [getAll] at e
        split at e
        · cases e
        · rename_i d u1 g1
          split at e
          · cases e
          · rename_i ds2 v g2
            injection e with e
            injection e with e1 e2
            subst e1 e2
            obtain ⟨hq1, hq2⟩ := hq
            have p1 := h1.take g1 hq1
            have p2 := ih h2 g2 hq2
            show ((p (some r)).1 :: (pAll ps (p (some r)).2).1, (pAll ps (p (some r)).2).2) = _
            rw [p1]
            simp only
            rw [p2, List.drop_drop]
def pRec (ps : List Rdr) : Rdr := fun s => (.agg (pAll ps s).1, (pAll ps s).2)
theorem ties_rec {ks : List Kd} {ps : List Rdr} {qs : List (Data → Prop)} (h : TiesAll ks ps qs) (t : List Data → Bool) : Ties (recK ks t) (pRec ps) (fun d => ∃ ds, d = .agg ds ∧ HoldAll qs ds) where
  bad := pAll_bad h
  give := by
    intro r d r' e
    have e' : (Data.agg (pAll ps (some r)).1, (pAll ps (some r)).2) = (d, some r') := e
    injection e' with e1 e2
    obtain ⟨u, g, rfl⟩ := pAll_give h (r := r) (ds := (pAll ps (some r)).1) (r' := r') (by rw [← e2])
    refine ⟨u, ?_, rfl⟩
    simp only [recK, g, Option.map_some]
    rw [e1]
  take := by
    rintro r d u e ⟨ds, rfl, hq⟩
    simp only [recK, Option.map_eq_some_iff] at e
    obtain ⟨⟨ds', v⟩, g, e2⟩ := e
    injection e2 with e2 e3
    injection e2 with e2
    simp only at e2 e3
    subst e2 e3
    have := pAll_take h g hq
    show (Data.agg (pAll ps (some r)).1, (pAll ps (some r)).2) = _
    rw [this]
/-- Any number; a number up to a limit; an int64; a truth; bytes. -/
def pNumD : Rdr := fun s => (.lit (.int .u64 ((pNum s).1 : Nat)), (pNum s).2)
def pIntD (most : Nat) : Rdr := fun s => (.lit (.int .i64 ((pInt most s).1 : Nat)), (pInt most s).2)
def pI64D : Rdr := fun s => (.lit (.int .i64 (wrap64 ((pNum s).1 : Nat))), (pNum s).2)
def pFlagD : Rdr := fun s => (.lit (.bool (decide ((pInt 1 s).1 = 1))), (pInt 1 s).2)
def pDataD : Rdr := fun s => (.lit (.string (pData s).1), (pData s).2)
theorem ties_num (lo hi : Int) : Ties (numK lo hi) pNumD (fun _ => True) where
  bad := rfl
  give := by
    intro r d r' e
    by_cases h : (numR r).2.2 = 0
    · have hp := pNum_of h
      simp only [pNumD, hp] at e
      injection e with e1 e2
      injection e2 with e2
      exact ⟨(numR r).2.1, by simp only [numK, h]; simp [← e1], e2.symm⟩
    · simp only [pNumD, pNum_bad h] at e
      injection e with _ e2
      cases e2
  take := by
    intro r d u e _
    simp only [numK] at e
    split at e
    · cases e
    · rename_i h1
      have h : (numR r).2.2 = 0 := by simpa using h1
      injection e with e
      injection e with e1 e2
      subst e1 e2
      simp only [pNumD, pNum_of h]
theorem ties_i64 (lo hi : Int) : Ties (intK lo hi) pI64D (fun _ => True) where
  bad := rfl
  give := by
    intro r d r' e
    by_cases h : (numR r).2.2 = 0
    · have hp := pNum_of h
      simp only [pI64D, hp] at e
      injection e with e1 e2
      injection e2 with e2
      exact ⟨(numR r).2.1, by simp only [intK, h]; simp [← e1], e2.symm⟩
    · simp only [pI64D, pNum_bad h] at e
      injection e with _ e2
      cases e2
  take := by
    intro r d u e _
    simp only [intK] at e
    split at e
    · cases e
    · rename_i h1
      have h : (numR r).2.2 = 0 := by simpa using h1
      injection e with e
      injection e with e1 e2
      subst e1 e2
      simp only [pI64D, pNum_of h]
theorem ties_int {lo hi : Int} {most : Nat} (hlo : 0 ≤ lo) (hhi : hi ≤ (most : Int)) (hm : most ≤ 4294967296) : Ties (intK lo hi) (pIntD most) (fun d => (intK lo hi).sound d = true) where
  bad := by simp [pIntD, pInt, pNum]
  give := by
    intro r d r' e
    simp only [pIntD] at e
    injection e with e1 e2
    obtain ⟨n, hn⟩ : ∃ n, (pInt most (some r)).1 = n := ⟨_, rfl⟩
    obtain ⟨h, hn2, hle, rfl⟩ := pInt_some (most := most) (r := r) (r' := r') (n := n) (by rw [← hn, ← e2])
    refine ⟨(numR r).2.1, ?_, rfl⟩
    rw [intK_of h, ← e1, hn, ← hn2, wrap_small (by omega)]
  take := by
    intro r d u e hs
    obtain ⟨h, rfl, rfl⟩ := intK_some e
    have hs' : (decide (lo ≤ wrap64 ((numR r).1 : Nat)) && decide (wrap64 ((numR r).1 : Nat) ≤ hi)) = true := hs
    rw [Bool.and_eq_true, decide_eq_true_eq, decide_eq_true_eq] at hs'
    have hb := wrap_back2 (numR_lt h) (by omega)
    have hq := pInt_of (most := most) h (by omega)
    simp only [pIntD, hq]
    rw [hb.1]
theorem ties_flag : Ties flagK pFlagD (fun _ => True) where
  bad := by simp [pFlagD, pInt, pNum]
  give := by
    intro r d r' e
    simp only [pFlagD] at e
    injection e with e1 e2
    obtain ⟨n, hn⟩ : ∃ n, (pInt 1 (some r)).1 = n := ⟨_, rfl⟩
    obtain ⟨h, hn2, hle, rfl⟩ := pInt_some (most := 1) (r := r) (r' := r') (n := n) (by rw [← hn, ← e2])
    refine ⟨(numR r).2.1, ?_, rfl⟩
    simp only [flagK]
    rw [if_neg (by omega), ← e1, hn, ← hn2]
  take := by
    intro r d u e _
    simp only [flagK] at e
    split at e
    · cases e
    · rename_i h1
      injection e with e
      injection e with e1 e2
      subst e1 e2
      simp only [pFlagD, pInt_of (most := 1) (r := r) (by omega) (by omega)]
theorem ties_bytes (most : Int) : Ties (bytesK most) pDataD (fun _ => True) where
  bad := rfl
  give := by
    intro r d r' e
    by_cases h : (bytesR r).2.2 = 0
    · have hp : pData (some r) = ((bytesR r).1, some (r.drop (bytesR r).2.1)) := by simp [pData, h]
      simp only [pDataD, hp] at e
      injection e with e1 e2
      injection e2 with e2
      exact ⟨(bytesR r).2.1, by simp only [bytesK, h]; simp [← e1], e2.symm⟩
    · have hp : pData (some r) = ([], none) := by simp [pData, h]
      simp only [pDataD, hp] at e
      injection e with _ e2
      cases e2
  take := by
    intro r d u e _
    simp only [bytesK] at e
    split at e
    · cases e
    · rename_i h1
      have h : (bytesR r).2.2 = 0 := by simpa using h1
      have hp : pData (some r) = ((bytesR r).1, some (r.drop (bytesR r).2.1)) := by simp [pData, h]
      injection e with e
      injection e with e1 e2
      subst e1 e2
      simp only [pDataD, hp]
theorem ties_text (most : Int) : Ties (textK most) pDataD (fun _ => True) := ⟨(ties_bytes most).bad, fun e => (ties_bytes most).give e, fun e h => (ties_bytes most).take e h⟩
/-- Bytes are a sound value's just if the reader ends with them, and what it read is sound. -/
theorem Ties.whole {k : Kd} {p : Rdr} {Q : Data → Prop} (hk : k.Ok) (h : Ties k p Q) (hq : ∀ {b d u}, k.get b = some (d, u) → k.sound d = true → Q d) (b : List UInt8) :
    ((pWhole (p (some b)).2 && k.sound (p (some b)).1) = true → k.get b = some ((p (some b)).1, b.length) ∧ k.sound (p (some b)).1 = true) ∧
    ((pWhole (p (some b)).2 && k.sound (p (some b)).1) = false → ∀ d, ¬ (k.get b = some (d, b.length) ∧ k.sound d = true)) := by
  constructor
  · intro e
    rw [Bool.and_eq_true] at e
    obtain ⟨e1, e2⟩ := e
    cases hs : (p (some b)).2 with
    | none => rw [hs] at e1; cases e1
    | some r =>
      cases r with
      | cons x t => rw [hs] at e1; cases e1
      | nil =>
        obtain ⟨u, g, hd⟩ := h.give (r := b) (d := (p (some b)).1) (r' := []) (by rw [← hs])
        have hu := hk.used g
        have hl := congrArg List.length hd
        rw [List.length_drop, List.length_nil] at hl
        have : u = b.length := by omega
        rw [this] at g
        exact ⟨g, e2⟩
  · rintro e d ⟨g, hs⟩
    have := h.take g (hq g hs)
    rw [this, List.drop_of_length_le (Nat.le_refl _)] at e
    have e' : (true && k.sound d) = false := e
    rw [hs] at e'
    cases e'
/-- What is asked of what was read. -/
def AskAll : List Kd → List (Data → Prop) → Prop
  | [], [] => True
  | k :: ks, q :: qs => (∀ {b d u}, k.get b = some (d, u) → k.sound d = true → q d) ∧ AskAll ks qs
  | _, _ => False
theorem hold_all : ∀ {ks : List Kd} {qs : List (Data → Prop)}, AskAll ks qs → ∀ {b ds u}, getAll ks b = some (ds, u) → soundAll ks ds = true → HoldAll qs ds := by
  intro ks
  induction ks with
  | nil =>
    intro qs h b ds u g _
    cases qs with
    | nil =>
      have g' : some (([] : List Data), 0) = some (ds, u) := g
      injection g' with g'
      injection g' with g1 _
      subst g1
      trivial
    | cons q qs => cases h
  | cons k ks ih =>
    intro qs h b ds u g hs
    cases qs with
    | nil => cases h
    | cons q qs =>
      obtain ⟨h1, h2⟩ := h
      simp only [getAll] at g
      split at g
      · cases g
      · rename_i d u1 g1
        split at g
        · cases g
        · rename_i ds2 v g2
          injection g with g
          injection g with e1 e2
          subst e1 e2
          have hs' : (k.sound d && soundAll ks ds2) = true := hs
          rw [Bool.and_eq_true] at hs'
          exact ⟨h1 g1 hs'.1, ih h2 g2 hs'.2⟩
theorem ask_rec {ks : List Kd} {qs : List (Data → Prop)} (h : AskAll ks qs) (t : List Data → Bool) {b : List UInt8} {d : Data} {u : Nat} (g : (recK ks t).get b = some (d, u)) (hs : (recK ks t).sound d = true) : ∃ ds, d = .agg ds ∧ HoldAll qs ds := by
  simp only [recK, Option.map_eq_some_iff] at g
  obtain ⟨⟨ds, v⟩, g, e⟩ := g
  injection e with e _
  subst e
  have hs' : (soundAll ks ds && t ds) = true := hs
  rw [Bool.and_eq_true] at hs'
  exact ⟨ds, rfl, hold_all h g hs'.1⟩
end Go.Proofs.YtlgbipmmpocepaaGreat.Kd
