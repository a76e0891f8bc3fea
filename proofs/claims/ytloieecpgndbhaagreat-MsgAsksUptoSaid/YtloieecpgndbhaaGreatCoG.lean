/- What a call gives, as plain posts; and facts of numbers read. Nothing here speaks of one function. -/
import Derived.Test.YtloieecpgndbhaaGreatBy
import Derived.Test.YtloieecpgndbhaaGreatCoP
import Derived.Laws.BitsAllLaws
import Derived.Lib.BitFns
import Derived.OwnWalk
import Derived.Deep.QuietTactic
import Derived.BigQuiet
namespace Go.Proofs.YtloieecpgndbhaaGreat.Co
open Go.RowKit By CoP

/-- Gives a value, all memory as it was. -/
def Ret (v : Value) (w : World) (e : Ending) (w' : World) : Prop := e = .returned v ∧ w = w'
theorem Ret.int {k : IntKind} {a b : Int} (w : World) (h : a = b) : Ret (.int k a) w (.returned (.int k b)) w := ⟨by rw [h], rfl⟩
/-- Gives bytes of the call's own, from block base on. -/
def Gives (base : Nat) (l : List UInt8) (w : World) (e : Ending) (w' : World) : Prop := ∃ v, e = .returned v ∧ Own base w' v l ∧ Below base w w'

/-- Gives a number, a place and an error; old memory as it was. -/
def GivesN (n : Nat) (next er : Int) (w : World) (e : Ending) (w' : World) : Prop := e = .returned (.tuple #[.int .u64 (n : Int), .int .i64 next, .int .i64 er]) ∧ Below w.heap.size w w'
theorem GivesN.of {n : Nat} {next er N next' er' : Int} {w w' : World} (h1 : N = n) (h2 : next' = next) (h3 : er' = er) (hb : Below w.heap.size w w') : GivesN n next er w (.returned (.tuple #[.int .u64 N, .int .i64 next', .int .i64 er'])) w' := ⟨by rw [h1, h2, h3], hb⟩
/-- The place behind what was read, if there was no error. -/
def nextI (k used er : Nat) : Int := if er = 0 then ((k + used : Nat) : Int) else 0
theorem nextI_ok (k used : Nat) : nextI k used 0 = (k : Int) + (used : Int) := by unfold nextI; rw [if_pos rfl]; omega
theorem below_drewN {B : Nat} {a w : World} (h : Below B a w) (q : Nat) : Below B a (w.drewN q) := ⟨h.os, h.tape, h.output, h.size, h.block⟩

theorem numR_big {x : UInt8} {t : List UInt8} (h : 8 < x.toNat) : numR (x :: t) = (0, 0, 4) := by simp only [numR]; rw [if_pos (.inl h)]
theorem numR_zero {x : UInt8} {t : List UInt8} (h : 0 < x.toNat) (h0 : t[0]? = some 0) : numR (x :: t) = (0, 0, 4) := by simp only [numR]; rw [if_pos (.inr ⟨h, h0⟩)]
theorem numR_short {x : UInt8} {t : List UInt8} (h8 : ¬ 8 < x.toNat) (h0 : ¬ (0 < x.toNat ∧ t[0]? = some 0)) (h : t.length < x.toNat) : numR (x :: t) = (0, 0, 5) := by
  simp only [numR]; rw [if_neg (fun h => h.elim h8 h0), if_pos h]
theorem numR_ok {x : UInt8} {t : List UInt8} (h8 : ¬ 8 < x.toNat) (h0 : ¬ (0 < x.toNat ∧ t[0]? = some 0)) (h : ¬ t.length < x.toNat) : numR (x :: t) = (val (t.take x.toNat), 1 + x.toNat, 0) := by
  simp only [numR]; rw [if_neg (fun h => h.elim h8 h0), if_neg h]
theorem run_from' (w : World) (A : Option Addr) (n c k m d : Nat) (hm : n = k + m) (hd : c = k + d) : (Instr.slice 23 (.slice A n c) (some (.int .i64 (k : Int))) none none).run Tryz.prog w = .ok (.slice (cutA A c k) m d) w := by
  subst hm hd
  have := run_from w A (k + m) (k + d) k (by omega)
  rwa [show k + m - k = m by omega, show k + d - k = d by omega] at this
/-- Gives bytes of the call's own, a place and an error. -/
def Gives3 (base : Nat) (l : List UInt8) (next er : Int) (w : World) (e : Ending) (w' : World) : Prop := ∃ v, e = .returned (.tuple #[v, .int .i64 next, .int .i64 er]) ∧ Own base w' v l ∧ Below base w w'
theorem Gives3.of {base : Nat} {l : List UInt8} {v : Value} {next er next' er' : Int} {w w' : World} (h1 : next' = next) (h2 : er' = er) (h : Own base w' v l) (hb : Below base w w') : Gives3 base l next er w (.returned (.tuple #[v, .int .i64 next', .int .i64 er'])) w' := ⟨v, by rw [h1, h2], h, hb⟩

theorem numR_facts (b : List UInt8) : (numR b).2.2 = 0 → (numR b).2.1 ≤ b.length ∧ (numR b).1 < 18446744073709551616 := by
  cases b with
  | nil => intro h; simp [numR] at h
  | cons x t =>
    simp only [numR]
    split
    · intro h; simp at h
    · rename_i h1
      split
      · intro h; simp at h
      · rename_i h2
        intro _
        refine ⟨by simp only [List.length_cons]; omega, ?_⟩
        have h := val_lt (t.take x.toNat)
        have hl : (t.take x.toNat).length ≤ 8 := by rw [List.length_take]; omega
        have h8 : 256 ^ (t.take x.toNat).length ≤ 256 ^ 8 := Nat.pow_le_pow_right (by omega) hl
        have e8 : (256 : Nat) ^ 8 = 18446744073709551616 := by decide
        rw [e8] at h8
        exact Nat.lt_of_lt_of_le h h8
end Go.Proofs.YtloieecpgndbhaaGreat.Co
