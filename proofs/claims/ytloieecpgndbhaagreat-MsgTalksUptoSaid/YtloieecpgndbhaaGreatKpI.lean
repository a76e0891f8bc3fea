/- Folder scupperlaw03's fits, over what the package gave and the bytes that the reference gave, of any kind. -/
import Derived.Test.YtloieecpgndbhaaGreatGN
namespace Go.Proofs.YtloieecpgndbhaaGreat.Kd
open Go.RowKit By CoP Co Mo

/-- fits over what the package gave, and the bytes that the reference gave. -/
theorem fitsK_any {k : Kd} {d : Data} {w0 w1 : World} {v : Value} {er : Int} (hw : Writes k d w0 (.returned (.tuple #[v, .int .i64 er])) w1) {w : World} (hb : Below w1.heap.size w1 w) (A2 : Option Addr) (n2 c2 : Nat) (hn2 : n2 = (k.put d).length) (hr2 : Lies w w.heap.size A2 (k.put d)) :
    Calls Tryz.prog 19 #[v, .int .i64 er, .bool (k.sound d), .slice A2 n2 c2] w (fun e w' => e = .returned (.bool true) ∧ w' = w) := by
  rcases hw with ⟨_, ⟨hs, v', he, ho⟩ | ⟨hs, he⟩⟩
  · obtain ⟨A, c, rfl, _, _, _, hr, _⟩ := ho.form
    rw [hs]
    simp only [Ending.returned.injEq, Value.tuple.injEq, Array.mk.injEq, List.cons.injEq, Value.int.injEq, true_and, and_true] at he
    obtain ⟨rfl, rfl⟩ := he
    exact fits_yes A _ c A2 n2 c2 _ rfl hn2 w (lext hr hb) hr2
  · rw [hs]
    simp only [Ending.returned.injEq, Value.tuple.injEq, Array.mk.injEq, List.cons.injEq, Value.int.injEq, true_and, and_true] at he
    obtain ⟨rfl, rfl⟩ := he
    exact fits_no _ w
end Go.Proofs.YtloieecpgndbhaaGreat.Kd
