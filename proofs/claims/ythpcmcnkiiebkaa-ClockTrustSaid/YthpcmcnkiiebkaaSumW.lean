/- Package sum's and its reference's functions, as contracts of calls. -/
import Derived.Test.YthpcmcnkiiebkaaChecked
import Derived.Test.YthpcmcnkiiebkaaSumP
import Derived.WalkKit
import Derived.ProofKit
import Derived.OpenShut
import Derived.Deep.QuietTactic
import Derived.BigQuiet
import Derived.Lib.Hide
namespace Go.Proofs.Ythpcmcnkiiebkaa.SumW
open Go.RowKit SumP

def Two (a b : Int) (w : World) (e : Ending) (w' : World) : Prop := e = .returned (.tuple #[.int .i64 a, .int .i64 b]) ∧ w' = w
theorem Two.of {a b a' b' : Int} (w : World) (ha : a = a') (hb : b = b') : Two a b w (.returned (.tuple #[.int .i64 a', .int .i64 b'])) w := ⟨by rw [ha, hb], rfl⟩
def One (k : IntKind) (a : Int) (w : World) (e : Ending) (w' : World) : Prop := e = .returned (.int k a) ∧ w' = w
theorem One.of {k : IntKind} {a a' : Int} (w : World) (ha : a = a') : One k a w (.returned (.int k a')) w := ⟨by rw [ha], rfl⟩
def Yes (b : Bool) (w : World) (e : Ending) (w' : World) : Prop := e = .returned (.bool b) ∧ w' = w
end Go.Proofs.Ythpcmcnkiiebkaa.SumW
