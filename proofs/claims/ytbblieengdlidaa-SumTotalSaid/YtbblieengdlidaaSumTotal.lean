/- The law SumTotal returns true for every list, and leaves it as it was. No condition beside the given statement's own. -/
import Derived.Test.YtbblieengdlidaaRows
import Derived.Test.YtbblieengdlidaaSumA
import Derived.Test.YtbblieengdlidaaLaw
namespace Go.Proofs.Ytbblieengdlidaa.sumTotal
open Go.ChangeShapes Go.WideShapes Go.ChangeAt Go.RowKit

theorem own : ownKnob Try.prog.godebug = none := by kernel_rfl
theorem laidOut : laidOutB Try.prog = true := by kernel_rfl
theorem cellsE : Try.prog.cellsOf 2 = 1 := by kernel_rfl
theorem bytesE : Try.prog.bytesOf 2 = 8 := by kernel_rfl

theorem walk {H : Type} {enc : TypeId × Value → H} (v : Value) (d : DataW H) (p : List MemPlace) (W : World) (base : Nat) (hv : Value.okWide Try.prog W .any base 27 v)
    (h : DataW.Trod enc Try.prog W 0 (fun _ => true) true 27 v d p) (hlt : ∀ x ∈ p, x.block < W.heap.size) (hsz : ∀ (elems spare : List (DataW H)), d = .slice elems spare → (elems.length + spare.length) * 8 ≤ reachBytes) :
    Calls Try.prog 4 #[v] W (SumW.Kept W) := by
  obtain ⟨a0, len, cap, rfl⟩ := okWide_slice Try.underlying27 hv
  obtain ⟨fuel, hf⟩ := h
  rcases open_ints Try.underlying27 Try.underlying2 cellsE hf with ⟨hcs, hx⟩ | ⟨a, len', cap', zs, hcs, _, hl, hm, hz, hx, hcell, hwz⟩
  · simp [Value.cells] at hcs
    obtain ⟨rfl, rfl, rfl⟩ := hcs
    exact SumW.sumTotal_nil W
  · simp [Value.cells] at hcs
    obtain ⟨rfl, rfl, rfl⟩ := hcs
    simp only [Prod.mk.injEq] at hx
    obtain ⟨rfl, rfl⟩ := hx
    simp only [if_true] at hz
    have hreach := hsz _ _ rfl
    simp only [lits, List.length_map, List.length_take, List.length_drop, reachBytes] at hreach
    have hw : ∀ j, -9223372036854775808 ≤ (zs.take len).getD j 0 ∧ (zs.take len).getD j 0 ≤ 9223372036854775807 := by
      intro j
      have := range_i64 (zs := zs.take len) (fun n hn => hwz n (List.mem_of_mem_take hn)) j
      simpa [List.getD] using this
    by_cases h0 : len = 0
    · subst h0
      exact SumW.sumTotal_row' a cap W
    · have hb : a.block < W.heap.size := by
        have := hlt (.cell a.block a.off) (by
          obtain ⟨b, off, spot⟩ := a
          have hspot : spot = none := by simpa [Addr.add] using World.cell?_spot (hcell 0 (by omega))
          subst hspot
          exact MemPlace.mem_row.2 ⟨0, by omega, by simp⟩)
        exact this
      refine SumW.sumTotal_row a cap (zs.take len) len (by simp; omega) (by omega) hw W hb ?_
      intro j hj
      have e : (zs.take len).getD j 0 = zs.getD j 0 := by simp [List.getD, hj]
      rw [e]
      exact hcell j (by omega)

set_option maxRecDepth 100000 in
theorem lifted (os : Os) (started : os.Started) (H : Type) (enc : TypeId × Value → H) :
    ReturnsInHanded {} Try.checked os 4 .any (Rows.sumTotalSpec.pre6 enc Try.prog Try.f4 Rows.sumTotalRow.domain false) (Rows.sumTotalSpec.post enc Try.prog Try.f4 false true false false) := by
  refine returnsInHanded_of_change_sized (C := Try.checked) own started (by kernel_rfl) Try.func4
    (ChangeSpec.witness6 (enc := enc) (C := Try.checked) false ⟨#[], #[.slice none 0 0], []⟩ 8 (by kernel_rfl) (by kernel_rfl) (by kernel_rfl) (by kernel_rfl)) ?_
  intro W base args ds gs before hval0 hW _ hsz0 _
  have hsz : (DataW.weightsEach Try.prog (Try.f4.params.toList ++ Rows.sumTotalSpec.plain.varTypes Try.prog) (ds ++ gs)).all (· ≤ reachBytes) = true := hsz0
  clear hsz0
  have hval : ∀ (j : Nat) t v, Try.f4.params[j]? = some t → args[j]? = some v → Value.okWide Try.prog W .any base t v := hval0
  have hW' := hW
  obtain ⟨p, q, hA0, hV, rfl, _, _⟩ := hW
  have hA : DataW.TrodAll enc Try.prog W 0 (fun _ => true) true Try.f4.params.toList args.toList ds p := hA0
  rw [Try.params4] at hA hval hsz
  obtain ⟨v0, vs0, d0, ds0, p0, q0, hargs, rfl, rfl, h0, r0⟩ := trodAll_cons hA
  obtain ⟨rfl, rfl, rfl⟩ := trodAll_nil r0
  obtain rfl : args = #[v0] := by cases args; simp_all
  obtain ⟨rfl, rfl⟩ := trodVars_none hV
  refine (walk v0 d0 p0 W base (hval 0 27 v0 rfl rfl) h0 (fun x hx => hW'.lt x (by simpa using hx)) ?_).mono fun e W' ⟨he, hb⟩ => ?_
  · intro elems spare hd
    subst hd
    have := sized_slice hsz (j := 0) (t := 27) (e := 2) rfl rfl Try.underlying27
    rw [bytesE] at this
    exact this
  · subst he
    exact ⟨_, rfl, Law.post_of_below laidOut (by rw [Try.params4]; intro t ht; simp at ht; subst ht; exact ⟨by kernel_rfl, of_decide_eq_true (by kernel_rfl)⟩) rfl Try.underlying4 rfl rfl hW' hb⟩

theorem over : Rows.sumTotalRow.holds Try.pinned (OpenSpec.ofChange Rows.sumTotalSpec) :=
  OpenClaim.holds_of_wide 4 Try.f4 rfl rfl rfl rfl rfl rfl rfl ⟨rfl, rfl, rfl, rfl, rfl⟩ rfl rfl rfl rfl rfl (by kernel_rfl) Try.func4 (by kernel_rfl)
    (of_decide_eq_true (by kernel_rfl)) (by unfold Func.isWrapper; first | (rw [if_pos (by decide +kernel)]; kernel_rfl) | (rw [if_neg (by decide +kernel)]; exact ⟨rfl, rfl⟩))
    (fun os started H enc _ => lifted os started H enc)

theorem proved : Rows.SumTotalSaid :=
  over
#print axioms proved
end Go.Proofs.Ytbblieengdlidaa.sumTotal
