/- Entries, configurations, snapshots, hard states, as they come in: values of their kinds, of few bytes. -/
import Derived.Test.YtdbaajgkcjpnoaaGreatKdO
import Derived.Test.YtdbaajgkcjpnoaaGreatGO
namespace Go.Proofs.YtdbaajgkcjpnoaaGreat.Kd
open Go.ChangeShapes Go.WideShapes Go.ChangeAt Go.RowKit Go.Deep By CoP Co Mo

section
variable {H : Type} {enc : TypeId × Value → H} {W : World}
theorem opens_entry : Opens H enc W entryK 39 :=
  opens_rec _ Tryz.underlying39 (by kernel_rfl)
    ⟨_, _, rfl, rfl, by kernel_rfl, opens_num Tryz.underlying22 _ _, _, _, rfl, rfl, by kernel_rfl, opens_num Tryz.underlying22 _ _, _, _, rfl, rfl, by kernel_rfl, opens_int Tryz.underlying3 _ _, _, _, rfl, rfl, by kernel_rfl, opens_int Tryz.underlying2 _ _,
      _, _, rfl, rfl, by kernel_rfl, opens_bytes Tryz.underlying37 _, rfl⟩
theorem opens_ids : Opens H enc W idsK 85 :=
  opens_list Tryz.underlying85 (by kernel_rfl) (by decide) (opens_int Tryz.underlying3 _ _) _
theorem opens_conf : Opens H enc W confK 87 :=
  opens_rec _ Tryz.underlying87 (by kernel_rfl)
    ⟨_, _, rfl, rfl, by kernel_rfl, opens_ids, _, _, rfl, rfl, by kernel_rfl, opens_ids, rfl⟩
set_option maxRecDepth 100000 in
/-- A struct that comes in is a value of its kind. -/
theorem comesL {k : Kd} {t : TypeId} {fs : Array Field} (ht : Tryz.prog.underlying t = some (.struct fs)) (ho : Opens H enc W k t) {base : Nat} {v : Value} {d : DataW H} {p : List MemPlace} (hv : Value.okWide Tryz.prog W .any base t v)
    (h : DataW.Trod enc Tryz.prog W 0 (fun _ => true) true t v d p) (hlt : ∀ x ∈ p, x.block < W.heap.size) (hb : Rows.uptoBulk d ≤ 1048576) : ∃ (xs : List Value) (e : Data), v = .agg xs.toArray ∧ k.rep W (Old W) xs e ∧ (k.put e).length ≤ 9437184 := by
  obtain ⟨cs, rfl, _⟩ := okWide_struct ht hv
  obtain ⟨fuel, hf⟩ := h
  obtain ⟨e, h1, h2⟩ := ho fuel _ _ hf hlt hb
  obtain ⟨l⟩ := cs
  exact ⟨l, e, rfl, h1, by dsimp only at h2; omega⟩
end
end Go.Proofs.YtdbaajgkcjpnoaaGreat.Kd
