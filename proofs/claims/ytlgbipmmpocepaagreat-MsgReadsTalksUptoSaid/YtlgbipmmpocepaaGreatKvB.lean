/- Package scupperref03's ToEntry, as a contract of a call. Written by genref.py. -/
import Derived.Test.YtlgbipmmpocepaaGreatKvA
import Derived.Test.YtlgbipmmpocepaaGreatGR
import Derived.Test.YtlgbipmmpocepaaGreatGF
import Derived.Test.YtlgbipmmpocepaaGreatKfG
import Derived.Test.YtlgbipmmpocepaaGreatKnD
import Derived.Deep.RegionLaw
namespace Go.Proofs.YtlgbipmmpocepaaGreat.Kd
open Go.RowKit By CoP Co Mo

/-- What the reference reads of bytes, and whether they are a sound value's. -/
def RefTo (k : Kd) (p : Rdr) (b : List UInt8) (w : World) (e : Ending) (w' : World) : Prop := ∃ vs : Array Value, e = .returned (.tuple #[.agg vs, .bool (pWhole (p (some b)).2 && k.sound (p (some b)).1)]) ∧ k.rep w' (New w w') vs.toList (p (some b)).1 ∧ Below w.heap.size w w'
theorem pNum_lt (s : St) : (pNum s).1 < 18446744073709551616 := by
  cases s with
  | none => decide
  | some r =>
    by_cases h : (numR r).2.2 = 0
    · rw [pNum_of h]; exact numR_lt h
    · rw [pNum_bad h]; decide
theorem pInt_le' (most : Nat) (s : St) : (pInt most s).1 ≤ most := by
  unfold pInt
  split
  · exact Nat.zero_le _
  · omega
theorem wrap_in (n : Nat) : -9223372036854775808 ≤ wrap64 (n : Int) ∧ wrap64 (n : Int) ≤ 9223372036854775807 := by unfold wrap64; omega
def stLen : St → Nat
  | none => 0
  | some r => r.length
theorem pNum_len (s : St) : stLen (pNum s).2 ≤ stLen s := by
  cases s with
  | none => exact Nat.le_refl _
  | some r =>
    by_cases h : (numR r).2.2 = 0
    · rw [pNum_of h]; show (r.drop _).length ≤ r.length; rw [List.length_drop]; omega
    · rw [pNum_bad h]; exact Nat.zero_le _
theorem pInt_len (most : Nat) (s : St) : stLen (pInt most s).2 ≤ stLen s := by
  unfold pInt
  split
  · exact Nat.zero_le _
  · exact pNum_len s
theorem pData_len (s : St) : (pData s).1.length ≤ stLen s := by
  cases s with
  | none => exact Nat.zero_le _
  | some r =>
    have hb : (bytesR r).1.length ≤ r.length := by
      unfold bytesR
      split
      · exact Nat.zero_le _
      · split
        · exact Nat.zero_le _
        · simp only [List.length_take, List.length_drop]; omega
    by_cases h : (bytesR r).2.2 = 0
    · have e : pData (some r) = ((bytesR r).1, some (r.drop (bytesR r).2.1)) := by simp [pData, h]
      rw [e]
      exact hb
    · have e : pData (some r) = ([], none) := by simp [pData, h]
      rw [e]
      exact Nat.zero_le _
def pEntryD : Rdr := pRec [pNumD, pNumD, pIntD 3, pI64D, pDataD]
def pHardD : Rdr := pRec [pNumD, pIntD 16]
end Go.Proofs.YtlgbipmmpocepaaGreat.Kd
