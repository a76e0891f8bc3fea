/- What is asked of an entry; the kinds of entries and snapshots made; package msg's Entry, Conf, Shot. Written by genm.py. -/
import Derived.Test.YthocmnfmialcaaaGO
import Derived.Test.YthocmnfmialcaaaKnD
namespace Go.Proofs.Ythocmnfmialcaaa.Kd
open Go.RowKit By CoP Co Mo

/-- What is read of a configuration's bytes. -/
theorem ReadsK.conf {b : List UInt8} {w w' : World} {e : Ending} (h : ReadsK confK b w e w') : ∃ (vs : Array Value), e = .returned (.tuple #[.agg vs, .int .i64 (if confReads b = true then 0 else 4)]) ∧ vs.size = 2 ∧ vs.all (·.oneCell') = true ∧ Below w.heap.size w w' := by
  obtain ⟨vs, er, rfl, h1, h2, h3⟩ := ReadsK.tell confK_ok h
  obtain ⟨hb, h4⟩ := h3
  refine ⟨vs, ?_, h1, h2, hb⟩
  cases hc : confReads b with
  | true =>
    obtain ⟨g1, g2⟩ := confReads_yes hc
    rcases h4 with ⟨d, vs', _, _, e1, _⟩ | ⟨h5, _⟩
    · simp only [Ending.returned.injEq, Value.tuple.injEq, Array.mk.injEq, List.cons.injEq, Value.int.injEq, true_and, and_true] at e1
      rw [e1.2, if_pos rfl]
    · exact absurd ⟨g1, g2⟩ (h5 _)
  | false =>
    rcases h4 with ⟨d, vs', h5, h6, _, _⟩ | ⟨_, e1⟩
    · exact absurd ⟨h5, h6⟩ (confReads_no hc d)
    · simp only [Ending.returned.injEq, Value.tuple.injEq, Array.mk.injEq, List.cons.injEq, Value.int.injEq, true_and, and_true] at e1
      rw [e1.2, if_neg (by decide)]
theorem msgConf_any {xs : List Value} {d : Data} (w : World) (hxs : xs.length = 2) (hrep : confK.rep w (Old w) xs d) (hlen : confK.sound d = true → (confK.put d).length + 9 ≤ 140737488355328) :
    Calls Try.prog 28 #[.agg xs.toArray] w (Writes confK d w) :=
  topW_any Try.func28 rfl rfl rfl Try.isAgg24 Try.sizeOf24 Try.call43 Try.call44 (fun w => confKind_any w (Nat.le_refl _))
    (fun _ w _ _ _ _ _ hk hrep hlen => write_any Try.func44 rfl rfl rfl kt_Conf (by intro w; go_simp) (by intro w; go_simp) w hk hrep hlen) confK_ok w hxs hrep hlen
end Go.Proofs.Ythocmnfmialcaaa.Kd
