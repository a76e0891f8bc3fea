/- Two integers that come in as an argument. -/
import Derived.Test.YtlkepkagbhibhaaGreatGD
import Derived.OpenShut
namespace Go.Proofs.YtlkepkagbhibhaaGreat.Rg
open Go.RowKit

theorem cellsU64 : Tryz.prog.cellsOf 22 = 1 := by kernel_rfl
theorem cellsPair : Tryz.prog.cellsOf 53 = 2 := by kernel_rfl
set_option maxRecDepth 100000 in
theorem comes_pair {H : Type} {enc : TypeId × Value → H} {v : Value} {d : DataW H} {p : List MemPlace} {W : World} {base : Nat} (hv : Value.okWide Tryz.prog W .any base 53 v)
    (h : DataW.Trod enc Tryz.prog W 0 (fun _ => true) true 53 v d p) : ∃ x y : Nat, v = .agg #[.int .u64 (x : Int), .int .u64 (y : Int)] := by
  simp only [Value.okWide, Tryz.underlying53] at hv
  obtain ⟨cs, rfl, hsize, _⟩ := hv
  obtain ⟨fuel, hf⟩ := h
  have h0 : DataW.trod enc Tryz.prog W 0 (fun _ => true) true fuel 53 cs.toList = some (d, p) := hf
  obtain ⟨xs, m, _, _, _, hl, hel⟩ := DataW.trod_array Tryz.underlying53 h0
  have hz : cs.size = 2 := hsize.trans cellsPair
  obtain ⟨a, b, rfl⟩ : ∃ a b, cs = #[a, b] := by
    obtain ⟨l⟩ := cs
    rcases l with _ | ⟨a, _ | ⟨b, _ | ⟨c, r⟩⟩⟩ <;> simp at hz
    exact ⟨a, b, rfl⟩
  have e0 := hel 0 (by omega)
  have e1 := hel 1 (by omega)
  rw [cellsU64] at e0 e1
  rw [List.getElem?_eq_getElem (show 0 < xs.length by omega)] at e0
  rw [List.getElem?_eq_getElem (show 1 < xs.length by omega)] at e1
  obtain ⟨k0, f0, _, w0⟩ := DataW.trod_int Tryz.underlying22 e0
  obtain ⟨k1, f1, _, w1⟩ := DataW.trod_int Tryz.underlying22 e1
  have g0 : a = .int .u64 k0 := by simpa using f0
  have g1 : b = .int .u64 k1 := by simpa using f1
  obtain ⟨x, rfl⟩ := Int.eq_ofNat_of_zero_le (Opn.wf_u64 w0).1
  obtain ⟨y, rfl⟩ := Int.eq_ofNat_of_zero_le (Opn.wf_u64 w1).1
  exact ⟨x, y, by rw [g0, g1]⟩
end Go.Proofs.YtlkepkagbhibhaaGreat.Rg
