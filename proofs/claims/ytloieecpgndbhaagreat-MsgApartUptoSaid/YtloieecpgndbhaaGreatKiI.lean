/- Commands, replies, asks, what edges are told, as they come in: values of their kinds, of few bytes. -/
import Derived.Test.YtloieecpgndbhaaGreatKdO
import Derived.Test.YtloieecpgndbhaaGreatGM
namespace Go.Proofs.YtloieecpgndbhaaGreat.Kd
open Go.ChangeShapes Go.WideShapes Go.ChangeAt Go.RowKit Go.Deep By CoP Co Mo

section
variable {H : Type} {enc : TypeId × Value → H} {W : World}
theorem opens_command : Opens H enc W commandK 61 :=
  opens_rec _ Tryz.underlying61 (by kernel_rfl)
    ⟨_, _, rfl, rfl, by kernel_rfl, opens_num Tryz.underlying22 _ _, _, _, rfl, rfl, by kernel_rfl, opens_num Tryz.underlying22 _ _, _, _, rfl, rfl, by kernel_rfl, opens_int Tryz.underlying3 _ _, _, _, rfl, rfl, by kernel_rfl, opens_text Tryz.underlying9 _,
      _, _, rfl, rfl, by kernel_rfl, opens_int Tryz.underlying2 _ _, _, _, rfl, rfl, by kernel_rfl, opens_int Tryz.underlying2 _ _, _, _, rfl, rfl, by kernel_rfl, opens_num Tryz.underlying22 _ _, rfl⟩
theorem opens_reply : Opens H enc W replyK 63 :=
  opens_rec _ Tryz.underlying63 (by kernel_rfl)
    ⟨_, _, rfl, rfl, by kernel_rfl, opens_num Tryz.underlying22 _ _, _, _, rfl, rfl, by kernel_rfl, opens_num Tryz.underlying22 _ _, _, _, rfl, rfl, by kernel_rfl, opens_int Tryz.underlying33 _ _, _, _, rfl, rfl, by kernel_rfl, opens_num Tryz.underlying22 _ _,
      _, _, rfl, rfl, by kernel_rfl, opens_int Tryz.underlying2 _ _, _, _, rfl, rfl, by kernel_rfl, opens_int Tryz.underlying2 _ _, rfl⟩
theorem opens_ask : Opens H enc W askK 65 :=
  opens_rec _ Tryz.underlying65 (by kernel_rfl)
    ⟨_, _, rfl, rfl, by kernel_rfl, opens_flag Tryz.underlying4, _, _, rfl, rfl, by kernel_rfl, opens_flag Tryz.underlying4, _, _, rfl, rfl, by kernel_rfl, opens_num Tryz.underlying22 _ _, _, _, rfl, rfl, by kernel_rfl, opens_loose opens_command,
      _, _, rfl, rfl, by kernel_rfl, opens_text Tryz.underlying9 _, rfl⟩
theorem opens_told : Opens H enc W toldK 67 :=
  opens_rec _ Tryz.underlying67 (by kernel_rfl)
    ⟨_, _, rfl, rfl, by kernel_rfl, opens_num Tryz.underlying22 _ _, _, _, rfl, rfl, by kernel_rfl, opens_flag Tryz.underlying4, _, _, rfl, rfl, by kernel_rfl, opens_int Tryz.underlying3 _ _, _, _, rfl, rfl, by kernel_rfl, opens_reply,
      _, _, rfl, rfl, by kernel_rfl, opens_int Tryz.underlying2 _ _, _, _, rfl, rfl, by kernel_rfl, opens_int Tryz.underlying2 _ _, rfl⟩
set_option maxRecDepth 100000 in
/-- A struct that comes in is a value of its kind. -/
theorem comes {k : Kd} {t : TypeId} {fs : Array Field} (ht : Tryz.prog.underlying t = some (.struct fs)) (ho : Opens H enc W k t) {base : Nat} {v : Value} {d : DataW H} {p : List MemPlace} (hv : Value.okWide Tryz.prog W .any base t v)
    (h : DataW.Trod enc Tryz.prog W 0 (fun _ => true) true t v d p) (hlt : ∀ x ∈ p, x.block < W.heap.size) (hb : Rows.uptoBulk d ≤ 1048576) : ∃ (xs : List Value) (e : Data), v = .agg xs.toArray ∧ k.rep W (Old W) xs e ∧ (k.put e).length ≤ 9437184 := by
  obtain ⟨cs, rfl, _⟩ := okWide_struct ht hv
  obtain ⟨fuel, hf⟩ := h
  obtain ⟨e, h1, h2⟩ := ho fuel _ _ hf hlt hb
  obtain ⟨l⟩ := cs
  exact ⟨l, e, rfl, h1, by dsimp only at h2; omega⟩
end
end Go.Proofs.YtloieecpgndbhaaGreat.Kd
