/- Kinds of truths, of bytes and of texts: what their closures do. | Lists of bytes as a kind: what its closures do. Written by genrun.py. | Texts as a kind: what its closures do. Written by genrun.py. -/
import Derived.Test.YthocmnfmialcaaaGC
import Derived.Test.YthocmnfmialcaaaGE
import Derived.Test.YthocmnfmialcaaaGB
import Derived.Deep.QuietTactic
import Derived.BigQuiet
import Derived.Lib.ConvBytes
/-! Kinds of truths, of bytes and of texts: what their closures do. -/
namespace Go.Proofs.Ythocmnfmialcaaa.Kd
open Go.RowKit By CoP Co Mo

end Go.Proofs.Ythocmnfmialcaaa.Kd

/-! Lists of bytes as a kind: what its closures do. Written by genrun.py. -/
namespace Go.Proofs.Ythocmnfmialcaaa.Kd
open Go.RowKit By CoP Co Mo

theorem bytesR_bad (b : List UInt8) : (bytesR b).2.2 ≠ 0 → (bytesR b).1 = [] := by
  intro h
  by_cases h1 : (numR b).2.2 = 0
  · by_cases h2 : b.length - (numR b).2.1 < (numR b).1
    · simp [bytesR, h1, h2]
    · simp [bytesR, h1, h2] at h
  · simp [bytesR, h1]
theorem bytesR_len (b : List UInt8) : (bytesR b).1.length ≤ b.length := by
  unfold bytesR
  split
  · simp
  · split
    · simp
    · simp only [List.length_take, List.length_drop]; omega
theorem putBytes_len2 (l : List UInt8) : l.length ≤ (putBytes l).length := by
  unfold putBytes
  rw [List.length_append]
  omega
theorem splice_same {cs : List Value} {p : Nat} {v : Value} (h : cs[p]? = some v) : splice cs p [v] = cs := by
  obtain ⟨hp, rfl⟩ := List.getElem?_eq_some_iff.1 h
  unfold splice
  simp
end Go.Proofs.Ythocmnfmialcaaa.Kd

/-! Texts as a kind: what its closures do. Written by genrun.py. -/
namespace Go.Proofs.Ythocmnfmialcaaa.Kd
open Go.RowKit By CoP Co Mo

end Go.Proofs.Ythocmnfmialcaaa.Kd
