/- What the bound of the second form gives: the room of each slice, the lengths of all inner ones together. -/
import Derived.Test.YtloieecpgndbhaaGreatRows
namespace Go.Proofs.YtloieecpgndbhaaGreat.Bulk

theorem pos {H : Type} (d : DataW H) : 1 ≤ Rows.uptoBulk d := by
  cases d with
  | lit l => cases l <;> simp [Rows.uptoBulk]
  | _ => simp [Rows.uptoBulk]
theorem count {H : Type} (l : List (DataW H)) : l.length ≤ Rows.uptoBulkAll l := by
  induction l with
  | nil => simp [Rows.uptoBulkAll]
  | cons d r ih =>
    have := pos d
    simp only [Rows.uptoBulkAll, List.length_cons]
    omega
theorem mem_le {H : Type} {d : DataW H} {l : List (DataW H)} (h : d ∈ l) : Rows.uptoBulk d ≤ Rows.uptoBulkAll l := by
  induction l with
  | nil => cases h
  | cons e r ih =>
    simp only [Rows.uptoBulkAll]
    rcases List.mem_cons.1 h with rfl | h
    · omega
    · have := ih h
      omega
theorem bound {H : Type} {l : List (DataW H)} (hk : Rows.uptoSmall H l = true) : Rows.uptoBulkAll l ≤ 1048576 := of_decide_eq_true hk
/-- A slice among what is bounded: its places. -/
theorem slice_of {H : Type} {l : List (DataW H)} {M : Nat} (hb : Rows.uptoBulkAll l ≤ M) {elems spare : List (DataW H)} (h : DataW.slice elems spare ∈ l) : elems.length + spare.length ≤ M := by
  have h1 := mem_le h
  have h2 := count elems
  have h3 := count spare
  simp only [Rows.uptoBulk] at h1
  omega
/-- .. and what its elements hold. -/
theorem elems_of {H : Type} {l : List (DataW H)} {M : Nat} (hb : Rows.uptoBulkAll l ≤ M) {elems spare : List (DataW H)} (h : DataW.slice elems spare ∈ l) : Rows.uptoBulkAll elems + Rows.uptoBulkAll spare ≤ M := by
  have h1 := mem_le h
  simp only [Rows.uptoBulk] at h1
  omega
theorem sum_eq {H : Type} (l : List (DataW H)) : (l.map Rows.uptoBulk).sum = Rows.uptoBulkAll l := by
  induction l with
  | nil => rfl
  | cons d r ih => rw [List.map_cons, List.sum_cons, ih]; rfl
theorem len_le {H : Type} (elems spare : List (DataW H)) : elems.length ≤ Rows.uptoBulk (.slice elems spare) := by
  have := count elems
  simp only [Rows.uptoBulk]
  omega
theorem rows_of {H : Type} {l : List (DataW H)} {M : Nat} (hb : Rows.uptoBulkAll l ≤ M) {elems spare : List (DataW H)} (h : DataW.slice elems spare ∈ l) : elems.length + spare.length ≤ M ∧ (elems.map Rows.uptoBulk).sum ≤ M := by
  refine ⟨slice_of hb h, ?_⟩
  rw [sum_eq]
  have := elems_of hb h
  omega
end Go.Proofs.YtloieecpgndbhaaGreat.Bulk
