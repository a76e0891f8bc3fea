/- Opening arguments: bytes that come in, as a slice whose cells lie in memory. Nothing here speaks of one law. | What the bound of the second form gives: the room of each slice, the lengths of all inner ones together. -/
import Derived.Test.YtdbaajgkcjpnoaaGreatGA
import Derived.Test.YtdbaajgkcjpnoaaGreatLaw
import Derived.Test.YtdbaajgkcjpnoaaGreatRows
/-! Opening arguments: bytes that come in, as a slice whose cells lie in memory. Nothing here speaks of one law. -/
namespace Go.Proofs.YtdbaajgkcjpnoaaGreat.Opn
open Go.ChangeShapes Go.WideShapes Go.ChangeAt Go.RowKit By

theorem cellsU8 : Tryz.prog.cellsOf 5 = 1 := by kernel_rfl
theorem bytesU8 : Tryz.prog.bytesOf 5 = 1 := by kernel_rfl
theorem wf_u8 {n : Int} (h : (Lit.int .u8 n).wf = true) : 0 ≤ n ∧ n ≤ 255 := by simpa [Lit.wf, IntKind.min, IntKind.max, IntKind.signed, IntKind.bits] using h
theorem wf_u16 {n : Int} (h : (Lit.int .u16 n).wf = true) : 0 ≤ n ∧ n ≤ 65535 := by simpa [Lit.wf, IntKind.min, IntKind.max, IntKind.signed, IntKind.bits] using h
theorem wf_u32 {n : Int} (h : (Lit.int .u32 n).wf = true) : 0 ≤ n ∧ n ≤ 4294967295 := by simpa [Lit.wf, IntKind.min, IntKind.max, IntKind.signed, IntKind.bits] using h
theorem wf_u64 {n : Int} (h : (Lit.int .u64 n).wf = true) : 0 ≤ n ∧ n ≤ 18446744073709551615 := by simpa [Lit.wf, IntKind.min, IntKind.max, IntKind.signed, IntKind.bits] using h
theorem wf_i64 {n : Int} (h : (Lit.int .i64 n).wf = true) : -9223372036854775808 ≤ n ∧ n ≤ 9223372036854775807 := by simpa [Lit.wf, IntKind.min, IntKind.max, IntKind.signed, IntKind.bits] using h

set_option maxRecDepth 100000 in
/-- A slice of bytes that comes in; M bounds its room. -/
theorem bytes {H : Type} {enc : TypeId × Value → H} {v : Value} {d : DataW H} {p : List MemPlace} {W : World} {base : Nat} (hv : Value.okWide Tryz.prog W .any base 37 v)
    (h : DataW.Trod enc Tryz.prog W 0 (fun _ => true) true 37 v d p) (hlt : ∀ x ∈ p, x.block < W.heap.size) (M : Nat) (hM : ∀ elems spare, d = .slice elems spare → elems.length + spare.length ≤ M) :
    ∃ (A : Option Addr) (n c : Nat) (l : List UInt8), v = .slice A n c ∧ n = l.length ∧ n ≤ c ∧ c ≤ M ∧ Lies W W.heap.size A l := by
  obtain ⟨a0, len, cap, rfl⟩ := okWide_slice Tryz.underlying37 hv
  obtain ⟨fuel, hf⟩ := h
  rcases open_ints Tryz.underlying37 Tryz.underlying5 cellsU8 hf with ⟨hcs, _⟩ | ⟨a, len', cap', zs, hcs, _, hl, _, hz, hx, hcell, hwz⟩
  · simp [Value.cells] at hcs
    obtain ⟨rfl, rfl, rfl⟩ := hcs
    exact ⟨none, 0, 0, [], rfl, rfl, Nat.le_refl _, Nat.zero_le _, Lies.empty _ _ _⟩
  · simp [Value.cells] at hcs
    obtain ⟨rfl, rfl, rfl⟩ := hcs
    simp only [Prod.mk.injEq] at hx
    obtain ⟨rfl, rfl⟩ := hx
    simp only [if_true] at hz
    have hreach := hM _ _ rfl
    simp only [lits, List.length_map, List.length_take, List.length_drop] at hreach
    refine ⟨some a, len, cap, (zs.take len).map fun z => UInt8.ofNat z.toNat, rfl, by rw [List.length_map, List.length_take]; omega, hl, by omega, fun hn => ?_⟩
    simp only [List.length_map, List.length_take] at hn
    have h0 : 0 < zs.length := by omega
    obtain ⟨b, off, spot⟩ := a
    have hspot : spot = none := by simpa [Addr.add] using World.cell?_spot (hcell 0 h0)
    subst hspot
    refine ⟨b, off, rfl, hlt (.cell b off) (MemPlace.mem_row.2 ⟨0, h0, by simp⟩), fun j x hj => ?_⟩
    simp only [List.getElem?_map, Option.map_eq_some_iff] at hj
    obtain ⟨z, hz1, rfl⟩ := hj
    have hjl : j < len := by
      have := (List.getElem?_eq_some_iff.1 hz1).1
      rw [List.length_take] at this
      omega
    rw [List.getElem?_take, if_pos hjl] at hz1
    have hc := hcell j (by omega)
    rw [plainAdd] at hc
    rw [hc]
    have hmem : z ∈ zs := List.mem_of_getElem? hz1
    have hw := wf_u8 (hwz z hmem)
    have e : zs.getD j 0 = z := by simp [List.getD, hz1]
    rw [e, bv]
    simp
    omega
end Go.Proofs.YtdbaajgkcjpnoaaGreat.Opn

/-! What the bound of the second form gives: the room of each slice, the lengths of all inner ones together. -/
namespace Go.Proofs.YtdbaajgkcjpnoaaGreat.Bulk

theorem pos {H : Type} (d : DataW H) : 1 ≤ Rows.uptoBulk d := by
  cases d with
  | lit l => cases l <;> simp [Rows.uptoBulk]
  | _ => simp [Rows.uptoBulk]
theorem count {H : Type} (l : List (DataW H)) : l.length ≤ Rows.uptoBulkAll l := by
  induction l with
  | nil => simp [Rows.uptoBulkAll]
  | cons d r ih =>
    have := pos d
    simp only [Rows.uptoBulkAll, List.length_cons]
    omega
theorem mem_le {H : Type} {d : DataW H} {l : List (DataW H)} (h : d ∈ l) : Rows.uptoBulk d ≤ Rows.uptoBulkAll l := by
  induction l with
  | nil => cases h
  | cons e r ih =>
    simp only [Rows.uptoBulkAll]
    rcases List.mem_cons.1 h with rfl | h
    · omega
    · have := ih h
      omega
theorem bound {H : Type} {l : List (DataW H)} (hk : Rows.uptoSmall H l = true) : Rows.uptoBulkAll l ≤ 1048576 := of_decide_eq_true hk
/-- A slice among what is bounded: its places. -/
theorem slice_of {H : Type} {l : List (DataW H)} {M : Nat} (hb : Rows.uptoBulkAll l ≤ M) {elems spare : List (DataW H)} (h : DataW.slice elems spare ∈ l) : elems.length + spare.length ≤ M := by
  have h1 := mem_le h
  have h2 := count elems
  have h3 := count spare
  simp only [Rows.uptoBulk] at h1
  omega
/-- .. and what its elements hold. -/
theorem elems_of {H : Type} {l : List (DataW H)} {M : Nat} (hb : Rows.uptoBulkAll l ≤ M) {elems spare : List (DataW H)} (h : DataW.slice elems spare ∈ l) : Rows.uptoBulkAll elems + Rows.uptoBulkAll spare ≤ M := by
  have h1 := mem_le h
  simp only [Rows.uptoBulk] at h1
  omega
theorem sum_eq {H : Type} (l : List (DataW H)) : (l.map Rows.uptoBulk).sum = Rows.uptoBulkAll l := by
  induction l with
  | nil => rfl
  | cons d r ih => rw [List.map_cons, List.sum_cons, ih]; rfl
theorem len_le {H : Type} (elems spare : List (DataW H)) : elems.length ≤ Rows.uptoBulk (.slice elems spare) := by
  have := count elems
  simp only [Rows.uptoBulk]
  omega
theorem rows_of {H : Type} {l : List (DataW H)} {M : Nat} (hb : Rows.uptoBulkAll l ≤ M) {elems spare : List (DataW H)} (h : DataW.slice elems spare ∈ l) : elems.length + spare.length ≤ M ∧ (elems.map Rows.uptoBulk).sum ≤ M := by
  refine ⟨slice_of hb h, ?_⟩
  rw [sum_eq]
  have := elems_of hb h
  omega
end Go.Proofs.YtdbaajgkcjpnoaaGreat.Bulk
