/- One act that comes in as an argument. -/
import Derived.Test.YtcfnfphnjkllcaaLaI
namespace Go.Proofs.Ytcfnfphnjkllcaa.Dk
open Go.ChangeShapes Go.WideShapes Go.ChangeAt Go.RowKit Go.Deep By

set_option maxRecDepth 100000 in
theorem act_arg {H : Type} {enc : TypeId × Value → H} {v : Value} {d : DataW H} {p : List MemPlace} {W : World} {base : Nat} (hv : Value.okWide Try.prog W .any base tAct v)
    (h : DataW.Trod enc Try.prog W 0 (fun _ => true) true tAct v d p) (hlt : ∀ x ∈ p, x.block < W.heap.size) (hbk : Rows.uptoBulk d ≤ 1048576) :
    ∃ (a : A1) (q : AC), v = aV a q ∧ a.data.length ≤ q.2 ∧ Lies W W.heap.size q.1 a.data ∧ ActOk a := by
  obtain ⟨cs, rfl, _⟩ := okWide_struct Try.underlying31 hv
  obtain ⟨fuel, hf⟩ := h
  obtain ⟨a, q, e, h1, h2, h3⟩ := act_open hf hlt hbk
  refine ⟨a, q, ?_, h1, h2, h3⟩
  have e2 : cs = (aCells a q).toArray := by
    have e : cs.toList = aCells a q := e
    rw [← e]
  rw [e2]
  rfl
end Go.Proofs.Ytcfnfphnjkllcaa.Dk
