/- Opening arguments: bytes that come in, as a slice whose cells lie in memory. Nothing here speaks of one law. | What the bound of the second form gives: the room of each slice, the lengths of all inner ones together. -/
import Derived.Test.YthpcmcnkiiebkaaGA
import Derived.Test.YthpcmcnkiiebkaaLaw
import Derived.Test.YthpcmcnkiiebkaaRows
/-! Opening arguments: bytes that come in, as a slice whose cells lie in memory. Nothing here speaks of one law. -/
namespace Go.Proofs.Ythpcmcnkiiebkaa.Opn
open Go.ChangeShapes Go.WideShapes Go.ChangeAt Go.RowKit By

theorem cellsU8 : Try.prog.cellsOf 5 = 1 := by kernel_rfl
theorem bytesU8 : Try.prog.bytesOf 5 = 1 := by kernel_rfl
theorem wf_u8 {n : Int} (h : (Lit.int .u8 n).wf = true) : 0 ≤ n ∧ n ≤ 255 := by simpa [Lit.wf, IntKind.min, IntKind.max, IntKind.signed, IntKind.bits] using h
theorem wf_u16 {n : Int} (h : (Lit.int .u16 n).wf = true) : 0 ≤ n ∧ n ≤ 65535 := by simpa [Lit.wf, IntKind.min, IntKind.max, IntKind.signed, IntKind.bits] using h
theorem wf_u32 {n : Int} (h : (Lit.int .u32 n).wf = true) : 0 ≤ n ∧ n ≤ 4294967295 := by simpa [Lit.wf, IntKind.min, IntKind.max, IntKind.signed, IntKind.bits] using h
theorem wf_u64 {n : Int} (h : (Lit.int .u64 n).wf = true) : 0 ≤ n ∧ n ≤ 18446744073709551615 := by simpa [Lit.wf, IntKind.min, IntKind.max, IntKind.signed, IntKind.bits] using h
theorem wf_i64 {n : Int} (h : (Lit.int .i64 n).wf = true) : -9223372036854775808 ≤ n ∧ n ≤ 9223372036854775807 := by simpa [Lit.wf, IntKind.min, IntKind.max, IntKind.signed, IntKind.bits] using h

end Go.Proofs.Ythpcmcnkiiebkaa.Opn

/-! What the bound of the second form gives: the room of each slice, the lengths of all inner ones together. -/
namespace Go.Proofs.Ythpcmcnkiiebkaa.Bulk

theorem pos {H : Type} (d : DataW H) : 1 ≤ Rows.uptoBulk d := by
  cases d with
  | lit l => cases l <;> simp [Rows.uptoBulk]
  | _ => simp [Rows.uptoBulk]
theorem count {H : Type} (l : List (DataW H)) : l.length ≤ Rows.uptoBulkAll l := by
  induction l with
  | nil => simp [Rows.uptoBulkAll]
  | cons d r ih =>
    have := pos d
    simp only [Rows.uptoBulkAll, List.length_cons]
    omega
theorem mem_le {H : Type} {d : DataW H} {l : List (DataW H)} (h : d ∈ l) : Rows.uptoBulk d ≤ Rows.uptoBulkAll l := by
  induction l with
  | nil => cases h
  | cons e r ih =>
    simp only [Rows.uptoBulkAll]
    rcases List.mem_cons.1 h with rfl | h
    · omega
    · have := ih h
      omega
theorem bound {H : Type} {l : List (DataW H)} (hk : Rows.uptoSmall H l = true) : Rows.uptoBulkAll l ≤ 1048576 := of_decide_eq_true hk
/-- A slice among what is bounded: its places. -/
theorem slice_of {H : Type} {l : List (DataW H)} {M : Nat} (hb : Rows.uptoBulkAll l ≤ M) {elems spare : List (DataW H)} (h : DataW.slice elems spare ∈ l) : elems.length + spare.length ≤ M := by
  have h1 := mem_le h
  have h2 := count elems
  have h3 := count spare
  simp only [Rows.uptoBulk] at h1
  omega
/-- .. and what its elements hold. -/
theorem elems_of {H : Type} {l : List (DataW H)} {M : Nat} (hb : Rows.uptoBulkAll l ≤ M) {elems spare : List (DataW H)} (h : DataW.slice elems spare ∈ l) : Rows.uptoBulkAll elems + Rows.uptoBulkAll spare ≤ M := by
  have h1 := mem_le h
  simp only [Rows.uptoBulk] at h1
  omega
theorem sum_eq {H : Type} (l : List (DataW H)) : (l.map Rows.uptoBulk).sum = Rows.uptoBulkAll l := by
  induction l with
  | nil => rfl
  | cons d r ih => rw [List.map_cons, List.sum_cons, ih]; rfl
theorem len_le {H : Type} (elems spare : List (DataW H)) : elems.length ≤ Rows.uptoBulk (.slice elems spare) := by
  have := count elems
  simp only [Rows.uptoBulk]
  omega
theorem rows_of {H : Type} {l : List (DataW H)} {M : Nat} (hb : Rows.uptoBulkAll l ≤ M) {elems spare : List (DataW H)} (h : DataW.slice elems spare ∈ l) : elems.length + spare.length ≤ M ∧ (elems.map Rows.uptoBulk).sum ≤ M := by
  refine ⟨slice_of hb h, ?_⟩
  rw [sum_eq]
  have := elems_of hb h
  omega
end Go.Proofs.Ythpcmcnkiiebkaa.Bulk
