/- Package disk's files.clone, as a contract of a call. -/
import Derived.Test.YtnjifhbooikdbaaGreatDoorDkN
import Derived.Test.YtnjifhbooikdbaaGreatDoorDkS
namespace Go.Proofs.YtnjifhbooikdbaaGreatDoor.Dk
open Go.RowKit Go.Maps By Mp

section
variable {P : Program} {ops : Array Oper} {o : Oper} {a : Act} {w : World} {K : Act → World → Prop} {Q : Exit → Act → World → Prop} {E : Prop}
/-- m[k] = v in a region that draws its order. -/
theorem step_put (hg : o.guard = none) (m x v : Operand) (t : TypeId) (hop : o.op = Op.mapUpdate t m x v) (k e : TypeId) (KY : Keyed P k) (ht : P.underlying t = some (.map k e)) (b n : Nat) (get : Lit → Option Value)
    (hm : a.eval m = .map (some b)) (h : MapIs P k w b get n) (hn : n < maxLen) (key val : Value) (kl : Lit) (hx : a.eval x = key) (hv : a.eval v = val) (hkey : keyOf P k key = some kl)
    (hK : ∀ w', MapIs P k w' b (upd get kl (some val)) (if (get kl).isSome then n else n + 1) → w.mapTurned w' b → K (a.put o.dst undef) w') : if Region.wanted o (yielded ops a.tmps) = true then Oper.wp P o a w K Q else E := by
  have hw : Region.wanted o (yielded ops a.tmps) = true := by simp [Region.wanted, hg]
  rw [if_pos hw]
  obtain ⟨w', hrun, r1, r2⟩ := h.put KY ht hn (val := val) hkey
  unfold Oper.wp
  simp [execOp, hop, hm, hx, hv, hrun, Result.andThen]
  exact hK w' r1 r2
end
/-- Those of the files that a range has met. -/
def doneF (left : Lit → Bool) (F : Fs) : Fs := F.filter fun p => !left (.string p.1)
theorem fget_done (left : Lit → Bool) (n : Bs) : ∀ F : Fs, fget (doneF left F) n = if left (.string n) = true then none else fget F n
  | [] => by
    split <;> rfl
  | p :: r => by
    have ih := fget_done left n r
    unfold doneF at ih ⊢
    rw [List.filter_cons, fget_cons]
    by_cases hp : p.1 = n
    · subst hp
      by_cases hl : left (.string p.1) = true
      · simp [hl] at ih ⊢
        exact ih
      · have hl : left (.string p.1) = false := by simpa using hl
        simp [hl, fget_cons]
    · rw [if_neg hp]
      split
      · rw [fget_cons, if_neg hp]; exact ih
      · exact ih
theorem Up.done {F : Fs} (h : Up F) (left : Lit → Bool) : Up (doneF left F) := List.Pairwise.filter _ h
theorem done_len (left : Lit → Bool) (F : Fs) : (doneF left F).length ≤ F.length := List.length_filter_le _ _
theorem done_step {F : Fs} (h : Up F) {left : Lit → Bool} {n b : Bs} (hb : fget F n = some b) : doneF (fun z => left z && !z.sameKey (.string n)) F = fput n b (doneF left F) := by
  refine up_ext (h.done _) ((h.done _).put _ _) fun m => ?_
  rw [fget_done, fget_put, fget_done, sameS]
  by_cases hm : m = n
  · subst hm
    simp [hb]
  · simp [hm]
theorem done_all {F : Fs} {left : Lit → Bool} (h : ∀ l, left l = false) : doneF left F = F := by
  unfold doneF
  rw [List.filter_eq_self]
  intro p _
  rw [h]; rfl
theorem done_none {F : Fs} {left : Lit → Bool} (h : ∀ p ∈ F, left (.string p.1) = true) : doneF left F = [] := by
  unfold doneF
  rw [List.filter_eq_nil_iff]
  intro p hp
  rw [h p hp]; simp
/-- Gives a copy of a file's pieces. -/
def GivesM (b : Bs) (w : World) (e : Ending) (w' : World) : Prop := ∃ mb, e = .returned (.map mb) ∧ FileAt w' mb b ∧ (∀ q, mb = some q → w.heap.size ≤ q) ∧ Below w.heap.size w w'
/-- Gives a copy of files. -/
def GivesFs (F : Fs) (w : World) (e : Ending) (w' : World) : Prop := ∃ bm pb, e = .returned (.agg #[.map bm, .int .i64 (fsize F : Nat)]) ∧ FilesAt w' bm F pb ∧ (∀ q, foot bm F pb q → w.heap.size ≤ q) ∧ Below w.heap.size w w'
end Go.Proofs.YtnjifhbooikdbaaGreatDoor.Dk
