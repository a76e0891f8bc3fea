/- Commands and replies: there and back, and no two alike, as plain facts. No walk. Written by genapart.py. -/
import Derived.Test.YtloieecpgndbhaaGreatKqA
import Derived.Test.YtloieecpgndbhaaGreatKrA
import Derived.Test.YtloieecpgndbhaaGreatGM
namespace Go.Proofs.YtloieecpgndbhaaGreat.Kd
open Go.RowKit By CoP Co Mo

theorem commandF_laws : ∀ k ∈ commandF, k.Ok ∧ k.Laws := by
  intro k hk
  simp only [commandF, List.mem_cons, List.not_mem_nil, or_false] at hk
  rcases hk with rfl | rfl | rfl | rfl | rfl | rfl | rfl
  all_goals first | exact ⟨numK_ok _ _, numK_laws _ _⟩ | exact ⟨intK_ok _ _, intK_laws _ _⟩ | exact ⟨textK_ok _, textK_laws _⟩
theorem commandK_laws : commandK.Laws := recK_laws commandF_laws _
theorem replyF_laws : ∀ k ∈ replyF, k.Ok ∧ k.Laws := by
  intro k hk
  simp only [replyF, List.mem_cons, List.not_mem_nil, or_false] at hk
  rcases hk with rfl | rfl | rfl | rfl | rfl | rfl
  all_goals first | exact ⟨numK_ok _ _, numK_laws _ _⟩ | exact ⟨intK_ok _ _, intK_laws _ _⟩
theorem replyK_laws : replyK.Laws := recK_laws replyF_laws _
theorem str_ne {a b : List UInt8} (h : ¬ a = b) : ¬ (str a).toList = (str b).toList := by
  intro e
  refine h ?_
  rw [ByteArray.toList_eq, ByteArray.toList_eq] at e
  simpa [str] using e
/-- What was written of two values that are not the same is not the same. -/
theorem Kd.Laws.ne {k : Kd} (h : k.Laws) {a b : Data} (ha : k.fits a) (hb : k.fits b) (hne : a ≠ b) : ((str (k.put a)).toList == (str (k.put b)).toList) = false := by
  rw [text_eq]
  exact decide_eq_false (fun e => hne (h.inj ha hb e))
theorem Kd.Laws.eq {k : Kd} (a : Data) : ((str (k.put a)).toList == (str (k.put a)).toList) = true := beq_self_eq_true _
/-- What is written: the bytes, or that there are none. -/
theorem Writes.two {k : Kd} {d : Data} {w0 w1 : World} {v : Value} {er : Int} (hw : Writes k d w0 (.returned (.tuple #[v, .int .i64 er])) w1) : (k.sound d = true ∧ er = 0 ∧ ∃ A c, v = .slice A (k.put d).length c ∧ Lies w1 w1.heap.size A (k.put d)) ∨ (k.sound d = false ∧ er = 2 ∧ v = .slice none 0 0) := by
  rcases hw with ⟨_, ⟨hs, v', he, ho⟩ | ⟨hs, he⟩⟩
  · obtain ⟨A, c, rfl, _, _, _, hr, _⟩ := ho.form
    simp only [Ending.returned.injEq, Value.tuple.injEq, Array.mk.injEq, List.cons.injEq, Value.int.injEq, true_and, and_true] at he
    obtain ⟨rfl, rfl⟩ := he
    exact .inl ⟨hs, rfl, A, c, rfl, hr⟩
  · simp only [Ending.returned.injEq, Value.tuple.injEq, Array.mk.injEq, List.cons.injEq, Value.int.injEq, true_and, and_true] at he
    obtain ⟨rfl, rfl⟩ := he
    exact .inr ⟨hs, rfl, rfl⟩
end Go.Proofs.YtloieecpgndbhaaGreat.Kd
