/-
  No cell of these rows narrows 'for every input' (looked for: loops, veiled, ifaces, maps, wideKeys, modest, calm, conditions, laid).
  DERIVED. THE GIVEN ROWS OF THIS SEAT. 7 by the template 'for every input the law returns true; each argument reads behind the call as it read before'; 0 by the template 'total and deterministic' (their statements: YtbblieengdlidaaTotals.lean).
  GIVEN WITH THE SEED: the statements are not yours to turn. If you find one false, say at which input.
  Laid BY PROGRAM, IN A SANDBOX (cutbox-rows.mjs): the forced cells as the released guide's own fill.sh prints them over the translation f49d18798501be14… (all of the seat's roots in one cut). By AI agents, Wed Nov 11 2026. No macro, syntax, notation, axiom, sorry.
-/
import Derived.Test.YtbblieengdlidaaChecked
import GoSem.Claim
import GoSem.ClaimJoined
import GoSem.ClaimMapViews
import Derived.JoinedTies
import Derived.KernelRfl
namespace Go.Proofs.Ytbblieengdlidaa
/- THE CELL 'sum', in the pinned program and in every row, IS THE sha256 OF THE DUMP (.gsa) THAT YtbblieengdlidaaProg.lean LOADS. Nothing in Lean hashes anything: it is a label: what it is worth is what the hold of that sum in a sandbox is worth. -/
noncomputable def Try.pinned : Pinned := { name := "ytbblieengdlidaa", sum := "f49d18798501be149eafae15e622802fea5a409246095d6674c0ac31d03e1731", checked := Try.checked }
namespace Rows
def none {H : Type} : Left H := { results := [], args := [] }

/-- 'scupperlaw01.SumTwo': WHATEVER THE INPUT: true; the input reads as it did. -/
def sumTwoSpec : ChangeSpec := { name := "sumTwo", fn := fun _ => fun
  | [d1, d2] => { results := [.lit (.bool true)], args := [d1, d2] }
  | _ => none }
def sumTwoRow : OpenClaim := { program := "ytbblieengdlidaa", sum := "f49d18798501be149eafae15e622802fea5a409246095d6674c0ac31d03e1731", func := "scupper/scupperlaw01.SumTwo", spec := "sumTwo", apart := false }
def SumTwoSaid : Prop := sumTwoRow.holds Try.pinned (OpenSpec.ofChange sumTwoSpec)

/-- ITS FALSE NEIGHBOUR: 'it returns false'. Refute it at one input. -/
def sumTwoWrong : ChangeSpec := { name := "sumTwo", fn := fun _ => fun
  | [d1, d2] => { results := [.lit (.bool false)], args := [d1, d2] }
  | _ => none }
def SumTwoWrongFalsely : Prop := sumTwoRow.holds Try.pinned (OpenSpec.ofChange sumTwoWrong)

/-- 'scupperlaw01.SumTotal': WHATEVER THE INPUT: true; the input reads as it did. -/
def sumTotalSpec : ChangeSpec := { name := "sumTotal", fn := fun _ => fun
  | [d] => { results := [.lit (.bool true)], args := [d] }
  | _ => none }
def sumTotalRow : OpenClaim := { program := "ytbblieengdlidaa", sum := "f49d18798501be149eafae15e622802fea5a409246095d6674c0ac31d03e1731", func := "scupper/scupperlaw01.SumTotal", spec := "sumTotal", apart := false }
def SumTotalSaid : Prop := sumTotalRow.holds Try.pinned (OpenSpec.ofChange sumTotalSpec)

/-- ITS FALSE NEIGHBOUR: 'it returns false'. Refute it at one input. -/
def sumTotalWrong : ChangeSpec := { name := "sumTotal", fn := fun _ => fun
  | [d] => { results := [.lit (.bool false)], args := [d] }
  | _ => none }
def SumTotalWrongFalsely : Prop := sumTotalRow.holds Try.pinned (OpenSpec.ofChange sumTotalWrong)

/-- 'scupperlaw01.SumRing': WHATEVER THE INPUT: true; the input reads as it did. -/
def sumRingSpec : ChangeSpec := { name := "sumRing", fn := fun _ => fun
  | [d1, d2, d3] => { results := [.lit (.bool true)], args := [d1, d2, d3] }
  | _ => none }
def sumRingRow : OpenClaim := { program := "ytbblieengdlidaa", sum := "f49d18798501be149eafae15e622802fea5a409246095d6674c0ac31d03e1731", func := "scupper/scupperlaw01.SumRing", spec := "sumRing", apart := false }
def SumRingSaid : Prop := sumRingRow.holds Try.pinned (OpenSpec.ofChange sumRingSpec)

/-- ITS FALSE NEIGHBOUR: 'it returns false'. Refute it at one input. -/
def sumRingWrong : ChangeSpec := { name := "sumRing", fn := fun _ => fun
  | [d1, d2, d3] => { results := [.lit (.bool false)], args := [d1, d2, d3] }
  | _ => none }
def SumRingWrongFalsely : Prop := sumRingRow.holds Try.pinned (OpenSpec.ofChange sumRingWrong)

/-- 'scupperlaw01.SumDrift': WHATEVER THE INPUT: true; the input reads as it did. -/
def sumDriftSpec : ChangeSpec := { name := "sumDrift", fn := fun _ => fun
  | [d1, d2] => { results := [.lit (.bool true)], args := [d1, d2] }
  | _ => none }
def sumDriftRow : OpenClaim := { program := "ytbblieengdlidaa", sum := "f49d18798501be149eafae15e622802fea5a409246095d6674c0ac31d03e1731", func := "scupper/scupperlaw01.SumDrift", spec := "sumDrift", apart := false }
def SumDriftSaid : Prop := sumDriftRow.holds Try.pinned (OpenSpec.ofChange sumDriftSpec)

/-- ITS FALSE NEIGHBOUR: 'it returns false'. Refute it at one input. -/
def sumDriftWrong : ChangeSpec := { name := "sumDrift", fn := fun _ => fun
  | [d1, d2] => { results := [.lit (.bool false)], args := [d1, d2] }
  | _ => none }
def SumDriftWrongFalsely : Prop := sumDriftRow.holds Try.pinned (OpenSpec.ofChange sumDriftWrong)

/-- 'scupperlaw01.SumTrust': WHATEVER THE INPUT: true; the input reads as it did. -/
def sumTrustSpec : ChangeSpec := { name := "sumTrust", fn := fun _ => fun
  | [d1, d2] => { results := [.lit (.bool true)], args := [d1, d2] }
  | _ => none }
def sumTrustRow : OpenClaim := { program := "ytbblieengdlidaa", sum := "f49d18798501be149eafae15e622802fea5a409246095d6674c0ac31d03e1731", func := "scupper/scupperlaw01.SumTrust", spec := "sumTrust", apart := false }
def SumTrustSaid : Prop := sumTrustRow.holds Try.pinned (OpenSpec.ofChange sumTrustSpec)

/-- ITS FALSE NEIGHBOUR: 'it returns false'. Refute it at one input. -/
def sumTrustWrong : ChangeSpec := { name := "sumTrust", fn := fun _ => fun
  | [d1, d2] => { results := [.lit (.bool false)], args := [d1, d2] }
  | _ => none }
def SumTrustWrongFalsely : Prop := sumTrustRow.holds Try.pinned (OpenSpec.ofChange sumTrustWrong)

/-- 'scupperlaw01.SumOrder': WHATEVER THE INPUT: true; the input reads as it did. -/
def sumOrderSpec : ChangeSpec := { name := "sumOrder", fn := fun _ => fun
  | [d1, d2, d3, d4] => { results := [.lit (.bool true)], args := [d1, d2, d3, d4] }
  | _ => none }
def sumOrderRow : OpenClaim := { program := "ytbblieengdlidaa", sum := "f49d18798501be149eafae15e622802fea5a409246095d6674c0ac31d03e1731", func := "scupper/scupperlaw01.SumOrder", spec := "sumOrder", apart := false }
def SumOrderSaid : Prop := sumOrderRow.holds Try.pinned (OpenSpec.ofChange sumOrderSpec)

/-- ITS FALSE NEIGHBOUR: 'it returns false'. Refute it at one input. -/
def sumOrderWrong : ChangeSpec := { name := "sumOrder", fn := fun _ => fun
  | [d1, d2, d3, d4] => { results := [.lit (.bool false)], args := [d1, d2, d3, d4] }
  | _ => none }
def SumOrderWrongFalsely : Prop := sumOrderRow.holds Try.pinned (OpenSpec.ofChange sumOrderWrong)

/-- 'scupperlaw01.SumParts': WHATEVER THE INPUT: true; the input reads as it did. -/
def sumPartsSpec : ChangeSpec := { name := "sumParts", fn := fun _ => fun
  | [d1, d2, d3] => { results := [.lit (.bool true)], args := [d1, d2, d3] }
  | _ => none }
def sumPartsRow : OpenClaim := { program := "ytbblieengdlidaa", sum := "f49d18798501be149eafae15e622802fea5a409246095d6674c0ac31d03e1731", func := "scupper/scupperlaw01.SumParts", spec := "sumParts", apart := false }
def SumPartsSaid : Prop := sumPartsRow.holds Try.pinned (OpenSpec.ofChange sumPartsSpec)

/-- ITS FALSE NEIGHBOUR: 'it returns false'. Refute it at one input. -/
def sumPartsWrong : ChangeSpec := { name := "sumParts", fn := fun _ => fun
  | [d1, d2, d3] => { results := [.lit (.bool false)], args := [d1, d2, d3] }
  | _ => none }
def SumPartsWrongFalsely : Prop := sumPartsRow.holds Try.pinned (OpenSpec.ofChange sumPartsWrong)

/- THE SECOND FORM. 'bulk': how many values and letters a reading holds, each counted each time it is reached (what is shared counts as often as it is met; a slice's spare places count too). A statement '..UptoSaid' is the law's where the arguments, and the package variables that the reading takes, are together of bulk at most 1048576: NARROWER than '..Said'. Prove '..Said' where nothing that the law and all that it calls make is longer than what came in: it says more and counts as full. Else prove '..UptoSaid'. A law counts once. -/
mutual
def uptoBulk {H : Type} : DataW H → Nat
  | .lit (.string bytes) => bytes.length + 1
  | .lit _ => 1
  | .nil => 1
  | .ptr d => uptoBulk d + 1
  | .slice elems spare => uptoBulkAll elems + uptoBulkAll spare + 1
  | .agg parts => uptoBulkAll parts + 1
  | .iface _ d => uptoBulk d + 1
  | .map entries => uptoBulkEntries entries + 1
  | .held _ => 1
def uptoBulkAll {H : Type} : List (DataW H) → Nat
  | [] => 0
  | d :: r => uptoBulk d + uptoBulkAll r
def uptoBulkEntries {H : Type} : List (Lit × DataW H) → Nat
  | [] => 0
  | x :: r => uptoBulkEntry x + uptoBulkEntries r
def uptoBulkEntry {H : Type} : Lit × DataW H → Nat
  | (.string bytes, d) => bytes.length + uptoBulk d + 1
  | (_, d) => uptoBulk d + 1
 end
def uptoSmall : (H : Type) → List (DataW H) → Bool := fun _ ds => decide (uptoBulkAll ds ≤ 1048576)
def OpenSpec.upto (s : _root_.Go.ChangeSpec) : _root_.Go.OpenSpec := { _root_.Go.OpenSpec.ofChange s with cond := some uptoSmall }

/-- 'scupperlaw01.SumTwo', WHERE WHAT IT READS IS OF BULK AT MOST 1048576: true; the input reads as it did. -/
def sumTwoUptoRow : OpenClaim := { program := "ytbblieengdlidaa", sum := "f49d18798501be149eafae15e622802fea5a409246095d6674c0ac31d03e1731", func := "scupper/scupperlaw01.SumTwo", spec := "sumTwo", apart := false, narrowed := true }
def SumTwoUptoSaid : Prop := sumTwoUptoRow.holds Try.pinned (OpenSpec.upto sumTwoSpec)

/-- 'scupperlaw01.SumTotal', WHERE WHAT IT READS IS OF BULK AT MOST 1048576: true; the input reads as it did. -/
def sumTotalUptoRow : OpenClaim := { program := "ytbblieengdlidaa", sum := "f49d18798501be149eafae15e622802fea5a409246095d6674c0ac31d03e1731", func := "scupper/scupperlaw01.SumTotal", spec := "sumTotal", apart := false, narrowed := true }
def SumTotalUptoSaid : Prop := sumTotalUptoRow.holds Try.pinned (OpenSpec.upto sumTotalSpec)

/-- 'scupperlaw01.SumRing', WHERE WHAT IT READS IS OF BULK AT MOST 1048576: true; the input reads as it did. -/
def sumRingUptoRow : OpenClaim := { program := "ytbblieengdlidaa", sum := "f49d18798501be149eafae15e622802fea5a409246095d6674c0ac31d03e1731", func := "scupper/scupperlaw01.SumRing", spec := "sumRing", apart := false, narrowed := true }
def SumRingUptoSaid : Prop := sumRingUptoRow.holds Try.pinned (OpenSpec.upto sumRingSpec)

/-- 'scupperlaw01.SumDrift', WHERE WHAT IT READS IS OF BULK AT MOST 1048576: true; the input reads as it did. -/
def sumDriftUptoRow : OpenClaim := { program := "ytbblieengdlidaa", sum := "f49d18798501be149eafae15e622802fea5a409246095d6674c0ac31d03e1731", func := "scupper/scupperlaw01.SumDrift", spec := "sumDrift", apart := false, narrowed := true }
def SumDriftUptoSaid : Prop := sumDriftUptoRow.holds Try.pinned (OpenSpec.upto sumDriftSpec)

/-- 'scupperlaw01.SumTrust', WHERE WHAT IT READS IS OF BULK AT MOST 1048576: true; the input reads as it did. -/
def sumTrustUptoRow : OpenClaim := { program := "ytbblieengdlidaa", sum := "f49d18798501be149eafae15e622802fea5a409246095d6674c0ac31d03e1731", func := "scupper/scupperlaw01.SumTrust", spec := "sumTrust", apart := false, narrowed := true }
def SumTrustUptoSaid : Prop := sumTrustUptoRow.holds Try.pinned (OpenSpec.upto sumTrustSpec)

/-- 'scupperlaw01.SumOrder', WHERE WHAT IT READS IS OF BULK AT MOST 1048576: true; the input reads as it did. -/
def sumOrderUptoRow : OpenClaim := { program := "ytbblieengdlidaa", sum := "f49d18798501be149eafae15e622802fea5a409246095d6674c0ac31d03e1731", func := "scupper/scupperlaw01.SumOrder", spec := "sumOrder", apart := false, narrowed := true }
def SumOrderUptoSaid : Prop := sumOrderUptoRow.holds Try.pinned (OpenSpec.upto sumOrderSpec)

/-- 'scupperlaw01.SumParts', WHERE WHAT IT READS IS OF BULK AT MOST 1048576: true; the input reads as it did. -/
def sumPartsUptoRow : OpenClaim := { program := "ytbblieengdlidaa", sum := "f49d18798501be149eafae15e622802fea5a409246095d6674c0ac31d03e1731", func := "scupper/scupperlaw01.SumParts", spec := "sumParts", apart := false, narrowed := true }
def SumPartsUptoSaid : Prop := sumPartsUptoRow.holds Try.pinned (OpenSpec.upto sumPartsSpec)

end Rows
end Go.Proofs.Ytbblieengdlidaa
