/- A list of unsigned numbers that comes in. Nothing here speaks of one function. -/
import Derived.Test.YthocmnfmialcaaaGA
import Derived.Test.YthocmnfmialcaaaGD
namespace Go.Proofs.Ythocmnfmialcaaa.Su
open Go.ChangeShapes Go.WideShapes Go.ChangeAt Go.RowKit By

/-- The cells of a slice of uint64 that begins at A hold the numbers l, and lie below block B. -/
def LiesU (w : World) (B : Nat) (A : Option Addr) (l : List Nat) : Prop :=
  (∀ x ∈ l, x < 18446744073709551616) ∧ (0 < l.length → ∃ g o, A = some ⟨g, o, none⟩ ∧ g < B ∧ ∀ (j x : Nat), l[j]? = some x → w.cell? ⟨g, o + j, none⟩ = some (.int .u64 (x : Int)))
theorem LiesU.keep {w w' : World} {B : Nat} {A : Option Addr} {l : List Nat} (h : LiesU w B A l) (hk : ∀ p : Addr, p.block < B → w'.cell? p = w.cell? p) : LiesU w' B A l := ⟨h.1, fun hn => by
  obtain ⟨g, o, e, hg, hc⟩ := h.2 hn
  exact ⟨g, o, e, hg, fun j x hx => (hk _ hg).trans (hc j x hx)⟩⟩
theorem LiesU.below {w w' : World} {B : Nat} {A : Option Addr} {l : List Nat} (h : LiesU w B A l) (hb : Below B w w') : LiesU w' B A l := h.keep fun _ hp => hb.cell hp
theorem LiesU.at_ {w : World} {B : Nat} {A : Option Addr} {l : List Nat} (h : LiesU w B A l) {k : Nat} (hk : k < l.length) : ∃ g o, A = some ⟨g, o, none⟩ ∧ g < B ∧ w.cell? ⟨g, o + k, none⟩ = some (.int .u64 (l[k] : Int)) ∧ l[k] < 18446744073709551616 := by
  obtain ⟨g, o, e, hg, hc⟩ := h.2 (by omega)
  exact ⟨g, o, e, hg, hc k _ (List.getElem?_eq_getElem hk), h.1 _ (List.getElem_mem hk)⟩
set_option maxRecDepth 100000 in
theorem nums {H : Type} {enc : TypeId × Value → H} {v : Value} {d : DataW H} {p : List MemPlace} {W : World} {base : Nat} (hv : Value.okWide Try.prog W .any base 39 v)
    (h : DataW.Trod enc Try.prog W 0 (fun _ => true) true 39 v d p) (M : Nat) (hM : ∀ elems spare, d = .slice elems spare → elems.length + spare.length ≤ M) :
    ∃ (A : Option Addr) (n c : Nat) (l : List Nat), v = .slice A n c ∧ n = l.length ∧ n ≤ c ∧ c ≤ M ∧ LiesU W W.heap.size A l := by
  obtain ⟨a0, len, cap, rfl⟩ := okWide_slice Try.underlying39 hv
  obtain ⟨fuel, hf⟩ := h
  rcases open_ints Try.underlying39 Try.underlying40 (by kernel_rfl) hf with ⟨hcs, _⟩ | ⟨a, len', cap', zs, hcs, _, hl, _, hz, hx, hcell, hwz⟩
  · simp [Value.cells] at hcs
    obtain ⟨rfl, rfl, rfl⟩ := hcs
    exact ⟨none, 0, 0, [], rfl, rfl, Nat.le_refl _, Nat.zero_le _, ⟨(fun x hx => by cases hx), (fun h => absurd h (by simp))⟩⟩
  · simp [Value.cells] at hcs
    obtain ⟨rfl, rfl, rfl⟩ := hcs
    simp only [Prod.mk.injEq] at hx
    obtain ⟨rfl, _⟩ := hx
    simp only [if_true] at hz
    have hreach := hM _ _ rfl
    simp only [lits, List.length_map, List.length_take, List.length_drop] at hreach
    refine ⟨some a, len, cap, (zs.take len).map Int.toNat, rfl, by rw [List.length_map, List.length_take]; omega, hl, by omega, ⟨fun x hx => ?_, fun hn => ?_⟩⟩
    · obtain ⟨z, hz1, rfl⟩ := List.mem_map.1 hx
      have hw := Opn.wf_u64 (hwz z (List.mem_of_mem_take hz1))
      omega
    · simp only [List.length_map, List.length_take] at hn
      obtain ⟨b, off, spot⟩ := a
      have hspot : spot = none := by simpa [Addr.add] using World.cell?_spot (hcell 0 (by omega))
      subst hspot
      refine ⟨b, off, rfl, ?_, fun j x hj => ?_⟩
      · have h0 := World.block_lt_of_cell? W _ (hcell 0 (by omega))
        rwa [plainAdd] at h0
      · simp only [List.getElem?_map, Option.map_eq_some_iff] at hj
        obtain ⟨z, hz1, rfl⟩ := hj
        have hjl : j < len := by
          have := (List.getElem?_eq_some_iff.1 hz1).1
          rw [List.length_take] at this
          omega
        rw [List.getElem?_take, if_pos hjl] at hz1
        have hc := hcell j (by omega)
        rw [plainAdd] at hc
        rw [hc]
        have hw := Opn.wf_u64 (hwz z (List.mem_of_getElem? hz1))
        have e : zs.getD j 0 = z := by simp [List.getD, hz1]
        rw [e]
        congr 2
        omega
end Go.Proofs.Ythocmnfmialcaaa.Su
