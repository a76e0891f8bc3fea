/-
  No cell of these rows narrows 'for every input' (looked for: loops, veiled, ifaces, maps, wideKeys, modest, calm, conditions, laid).
  DERIVED. THE GIVEN ROWS OF THIS SEAT. 5 by the template 'for every input the law returns true; each argument reads behind the call as it read before'; 0 by the template 'total and deterministic' (their statements: YtjafgkehkigclaaTotals.lean).
  GIVEN WITH THE SEED: the statements are not yours to turn. If you find one false, say at which input.
  Laid BY PROGRAM, IN A SANDBOX (cutbox-rows.mjs): the forced cells as the released guide's own fill.sh prints them over the translation 20f53d7440f03f25… (all of the seat's roots in one cut). By AI agents, Wed Nov 11 2026. No macro, syntax, notation, axiom, sorry.
-/
import Derived.Test.YtjafgkehkigclaaChecked
import GoSem.Claim
import GoSem.ClaimJoined
import GoSem.ClaimMapViews
import Derived.JoinedTies
import Derived.KernelRfl
namespace Go.Proofs.Ytjafgkehkigclaa
/- THE CELL 'sum', in the pinned program and in every row, IS THE sha256 OF THE DUMP (.gsa) THAT YtjafgkehkigclaaProg.lean LOADS. Nothing in Lean hashes anything: it is a label: what it is worth is what the hold of that sum in a sandbox is worth. -/
noncomputable def Try.pinned : Pinned := { name := "ytjafgkehkigclaa", sum := "20f53d7440f03f25e750f36bf46899d5f6960ce51c2097bd9f5a0beea81ec74c", checked := Try.checked }
namespace Rows
def none {H : Type} : Left H := { results := [], args := [] }

/-- 'scupperlaw07.SnapCuts': WHATEVER THE INPUT: true; the input reads as it did. -/
def snapCutsSpec : ChangeSpec := { name := "snapCuts", fn := fun _ => fun
  | [d1, d2, d3, d4] => { results := [.lit (.bool true)], args := [d1, d2, d3, d4] }
  | _ => none }
def snapCutsRow : OpenClaim := { program := "ytjafgkehkigclaa", sum := "20f53d7440f03f25e750f36bf46899d5f6960ce51c2097bd9f5a0beea81ec74c", func := "scupper/scupperlaw07.SnapCuts", spec := "snapCuts", apart := false }
def SnapCutsSaid : Prop := snapCutsRow.holds Try.pinned (OpenSpec.ofChange snapCutsSpec)

/-- ITS FALSE NEIGHBOUR: 'it returns false'. Refute it at one input. -/
def snapCutsWrong : ChangeSpec := { name := "snapCuts", fn := fun _ => fun
  | [d1, d2, d3, d4] => { results := [.lit (.bool false)], args := [d1, d2, d3, d4] }
  | _ => none }
def SnapCutsWrongFalsely : Prop := snapCutsRow.holds Try.pinned (OpenSpec.ofChange snapCutsWrong)

/-- 'scupperlaw07.SnapAdds': WHATEVER THE INPUT: true; the input reads as it did. -/
def snapAddsSpec : ChangeSpec := { name := "snapAdds", fn := fun _ => fun
  | [d] => { results := [.lit (.bool true)], args := [d] }
  | _ => none }
def snapAddsRow : OpenClaim := { program := "ytjafgkehkigclaa", sum := "20f53d7440f03f25e750f36bf46899d5f6960ce51c2097bd9f5a0beea81ec74c", func := "scupper/scupperlaw07.SnapAdds", spec := "snapAdds", apart := false }
def SnapAddsSaid : Prop := snapAddsRow.holds Try.pinned (OpenSpec.ofChange snapAddsSpec)

/-- ITS FALSE NEIGHBOUR: 'it returns false'. Refute it at one input. -/
def snapAddsWrong : ChangeSpec := { name := "snapAdds", fn := fun _ => fun
  | [d] => { results := [.lit (.bool false)], args := [d] }
  | _ => none }
def SnapAddsWrongFalsely : Prop := snapAddsRow.holds Try.pinned (OpenSpec.ofChange snapAddsWrong)

/-- 'scupperlaw07.SnapWhole': WHATEVER THE INPUT: true; the input reads as it did. -/
def snapWholeSpec : ChangeSpec := { name := "snapWhole", fn := fun _ => fun
  | [d1, d2, d3, d4] => { results := [.lit (.bool true)], args := [d1, d2, d3, d4] }
  | _ => none }
def snapWholeRow : OpenClaim := { program := "ytjafgkehkigclaa", sum := "20f53d7440f03f25e750f36bf46899d5f6960ce51c2097bd9f5a0beea81ec74c", func := "scupper/scupperlaw07.SnapWhole", spec := "snapWhole", apart := false }
def SnapWholeSaid : Prop := snapWholeRow.holds Try.pinned (OpenSpec.ofChange snapWholeSpec)

/-- ITS FALSE NEIGHBOUR: 'it returns false'. Refute it at one input. -/
def snapWholeWrong : ChangeSpec := { name := "snapWhole", fn := fun _ => fun
  | [d1, d2, d3, d4] => { results := [.lit (.bool false)], args := [d1, d2, d3, d4] }
  | _ => none }
def SnapWholeWrongFalsely : Prop := snapWholeRow.holds Try.pinned (OpenSpec.ofChange snapWholeWrong)

/-- 'scupperlaw07.SnapNewer': WHATEVER THE INPUT: true; the input reads as it did. -/
def snapNewerSpec : ChangeSpec := { name := "snapNewer", fn := fun _ => fun
  | [d1, d2, d3, d4, d5] => { results := [.lit (.bool true)], args := [d1, d2, d3, d4, d5] }
  | _ => none }
def snapNewerRow : OpenClaim := { program := "ytjafgkehkigclaa", sum := "20f53d7440f03f25e750f36bf46899d5f6960ce51c2097bd9f5a0beea81ec74c", func := "scupper/scupperlaw07.SnapNewer", spec := "snapNewer", apart := false }
def SnapNewerSaid : Prop := snapNewerRow.holds Try.pinned (OpenSpec.ofChange snapNewerSpec)

/-- ITS FALSE NEIGHBOUR: 'it returns false'. Refute it at one input. -/
def snapNewerWrong : ChangeSpec := { name := "snapNewer", fn := fun _ => fun
  | [d1, d2, d3, d4, d5] => { results := [.lit (.bool false)], args := [d1, d2, d3, d4, d5] }
  | _ => none }
def SnapNewerWrongFalsely : Prop := snapNewerRow.holds Try.pinned (OpenSpec.ofChange snapNewerWrong)

/-- 'scupperlaw07.SnapKeeps': WHATEVER THE INPUT: true; the input reads as it did. -/
def snapKeepsSpec : ChangeSpec := { name := "snapKeeps", fn := fun _ => fun
  | [d] => { results := [.lit (.bool true)], args := [d] }
  | _ => none }
def snapKeepsRow : OpenClaim := { program := "ytjafgkehkigclaa", sum := "20f53d7440f03f25e750f36bf46899d5f6960ce51c2097bd9f5a0beea81ec74c", func := "scupper/scupperlaw07.SnapKeeps", spec := "snapKeeps", apart := false }
def SnapKeepsSaid : Prop := snapKeepsRow.holds Try.pinned (OpenSpec.ofChange snapKeepsSpec)

/-- ITS FALSE NEIGHBOUR: 'it returns false'. Refute it at one input. -/
def snapKeepsWrong : ChangeSpec := { name := "snapKeeps", fn := fun _ => fun
  | [d] => { results := [.lit (.bool false)], args := [d] }
  | _ => none }
def SnapKeepsWrongFalsely : Prop := snapKeepsRow.holds Try.pinned (OpenSpec.ofChange snapKeepsWrong)

/- THE SECOND FORM. 'bulk': how many values and letters a reading holds, each counted each time it is reached (what is shared counts as often as it is met; a slice's spare places count too). A statement '..UptoSaid' is the law's where the arguments, and the package variables that the reading takes, are together of bulk at most 1048576: NARROWER than '..Said'. Prove '..Said' where nothing that the law and all that it calls make is longer than what came in: it says more and counts as full. Else prove '..UptoSaid'. A law counts once. -/
mutual
def uptoBulk {H : Type} : DataW H → Nat
  | .lit (.string bytes) => bytes.length + 1
  | .lit _ => 1
  | .nil => 1
  | .ptr d => uptoBulk d + 1
  | .slice elems spare => uptoBulkAll elems + uptoBulkAll spare + 1
  | .agg parts => uptoBulkAll parts + 1
  | .iface _ d => uptoBulk d + 1
  | .map entries => uptoBulkEntries entries + 1
  | .held _ => 1
def uptoBulkAll {H : Type} : List (DataW H) → Nat
  | [] => 0
  | d :: r => uptoBulk d + uptoBulkAll r
def uptoBulkEntries {H : Type} : List (Lit × DataW H) → Nat
  | [] => 0
  | x :: r => uptoBulkEntry x + uptoBulkEntries r
def uptoBulkEntry {H : Type} : Lit × DataW H → Nat
  | (.string bytes, d) => bytes.length + uptoBulk d + 1
  | (_, d) => uptoBulk d + 1
 end
def uptoSmall : (H : Type) → List (DataW H) → Bool := fun _ ds => decide (uptoBulkAll ds ≤ 1048576)
def OpenSpec.upto (s : _root_.Go.ChangeSpec) : _root_.Go.OpenSpec := { _root_.Go.OpenSpec.ofChange s with cond := some uptoSmall }

/-- 'scupperlaw07.SnapCuts', WHERE WHAT IT READS IS OF BULK AT MOST 1048576: true; the input reads as it did. -/
def snapCutsUptoRow : OpenClaim := { program := "ytjafgkehkigclaa", sum := "20f53d7440f03f25e750f36bf46899d5f6960ce51c2097bd9f5a0beea81ec74c", func := "scupper/scupperlaw07.SnapCuts", spec := "snapCuts", apart := false, narrowed := true }
def SnapCutsUptoSaid : Prop := snapCutsUptoRow.holds Try.pinned (OpenSpec.upto snapCutsSpec)

/-- 'scupperlaw07.SnapAdds', WHERE WHAT IT READS IS OF BULK AT MOST 1048576: true; the input reads as it did. -/
def snapAddsUptoRow : OpenClaim := { program := "ytjafgkehkigclaa", sum := "20f53d7440f03f25e750f36bf46899d5f6960ce51c2097bd9f5a0beea81ec74c", func := "scupper/scupperlaw07.SnapAdds", spec := "snapAdds", apart := false, narrowed := true }
def SnapAddsUptoSaid : Prop := snapAddsUptoRow.holds Try.pinned (OpenSpec.upto snapAddsSpec)

/-- 'scupperlaw07.SnapWhole', WHERE WHAT IT READS IS OF BULK AT MOST 1048576: true; the input reads as it did. -/
def snapWholeUptoRow : OpenClaim := { program := "ytjafgkehkigclaa", sum := "20f53d7440f03f25e750f36bf46899d5f6960ce51c2097bd9f5a0beea81ec74c", func := "scupper/scupperlaw07.SnapWhole", spec := "snapWhole", apart := false, narrowed := true }
def SnapWholeUptoSaid : Prop := snapWholeUptoRow.holds Try.pinned (OpenSpec.upto snapWholeSpec)

/-- 'scupperlaw07.SnapNewer', WHERE WHAT IT READS IS OF BULK AT MOST 1048576: true; the input reads as it did. -/
def snapNewerUptoRow : OpenClaim := { program := "ytjafgkehkigclaa", sum := "20f53d7440f03f25e750f36bf46899d5f6960ce51c2097bd9f5a0beea81ec74c", func := "scupper/scupperlaw07.SnapNewer", spec := "snapNewer", apart := false, narrowed := true }
def SnapNewerUptoSaid : Prop := snapNewerUptoRow.holds Try.pinned (OpenSpec.upto snapNewerSpec)

/-- 'scupperlaw07.SnapKeeps', WHERE WHAT IT READS IS OF BULK AT MOST 1048576: true; the input reads as it did. -/
def snapKeepsUptoRow : OpenClaim := { program := "ytjafgkehkigclaa", sum := "20f53d7440f03f25e750f36bf46899d5f6960ce51c2097bd9f5a0beea81ec74c", func := "scupper/scupperlaw07.SnapKeeps", spec := "snapKeeps", apart := false, narrowed := true }
def SnapKeepsUptoSaid : Prop := snapKeepsUptoRow.holds Try.pinned (OpenSpec.upto snapKeepsSpec)

end Rows
end Go.Proofs.Ytjafgkehkigclaa
