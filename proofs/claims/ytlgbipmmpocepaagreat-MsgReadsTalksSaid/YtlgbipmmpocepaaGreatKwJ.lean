/- The closed facts of the row MsgReadsTalks, one by one. -/
import Derived.Test.YtlgbipmmpocepaaGreatRows
import Derived.JoinedCond
namespace Go.Proofs.YtlgbipmmpocepaaGreat.msgReadsTalksOne
open Go.ChangeShapes Go.WideShapes Go.ChangeAt
theorem fact0 : (Rows.msgReadsTalksRow.wf (OpenSpec.ofChange Rows.msgReadsTalksSpec)) = true := by kernel_rfl
theorem fact1 : (laidOutB Tryz.prog) = true := by kernel_rfl
theorem fact2 : (mapsRowed Tryz.prog) = true := by kernel_rfl
theorem fact3 : (Tryz.f3.params.all (Tryz.prog.readableRec ·)) = true := by kernel_rfl
theorem fact4 : (namedTie Tryz.prog Rows.msgReadsTalksRow.named Rows.msgReadsTalksSpec.vars) = true := by kernel_rfl
theorem fact5 : ((Rows.msgReadsTalksRow.stops == [])) = true := by kernel_rfl
theorem fact6 : ((Tryz.prog.stops == [])) = true := by kernel_rfl
theorem fact7 : ((Rows.msgReadsTalksRow.knobs == [])) = true := by kernel_rfl
theorem fact8 : ((Tryz.prog.stopKnobs == [])) = true := by kernel_rfl
theorem fact9 : ((Rows.msgReadsTalksRow.inPlace == Tryz.prog.inPlace 3)) = true := by kernel_rfl
theorem fact10 : ((Rows.msgReadsTalksRow.unfollowed == Tryz.prog.unfollowed 3)) = true := by kernel_rfl
theorem fact11 : ((Rows.msgReadsTalksRow.recurses == Tryz.prog.recurses 3)) = true := by kernel_rfl
theorem fact12 : ((Rows.msgReadsTalksRow.named == Tryz.prog.varsNamed 3)) = true := by kernel_rfl
theorem fact13 : ((Rows.msgReadsTalksRow.maps == (Tryz.f3.params.toList ++ Rows.msgReadsTalksSpec.plain.varTypes Tryz.prog).any (Tryz.prog.mapsRec ·))) = true := by kernel_rfl
theorem fact14 : ((Rows.msgReadsTalksRow.ifaces == (Tryz.f3.params.toList ++ Rows.msgReadsTalksSpec.plain.varTypes Tryz.prog).any (Tryz.prog.ifacesRec ·))) = true := by kernel_rfl
theorem fact15 : ((Rows.msgReadsTalksRow.mapsOut == Tryz.prog.mapsAmong Tryz.f3.resultTypes.toList)) = true := by kernel_rfl
theorem fact16 : ((Rows.msgReadsTalksRow.loops == (Tryz.f3.params.toList ++ Rows.msgReadsTalksSpec.plain.varTypes Tryz.prog).any (Tryz.prog.loopsFrom ·))) = true := by kernel_rfl
theorem fact17 : ((Rows.msgReadsTalksRow.wideKeys == (Tryz.f3.params.toList ++ Rows.msgReadsTalksSpec.plain.varTypes Tryz.prog ++ Tryz.f3.resultTypes.toList).any (Tryz.prog.wideKeysFrom ·))) = true := by kernel_rfl
theorem fact18 : (Rows.msgReadsTalksSpec.vars.all (Tryz.prog.varReadable ·)) = true := by kernel_rfl
theorem fact19 : (Tryz.f3.resultTypes.all (fun t => Tryz.prog.readableRec t && decide (t < Tryz.prog.types.size))) = true := by kernel_rfl
theorem fact20 : ((Rows.msgReadsTalksRow.ifacesOut == Tryz.f3.resultTypes.toList.any (Tryz.prog.ifacesRec ·))) = true := by kernel_rfl
theorem fact21 : ((Rows.msgReadsTalksRow.loopsOut == Tryz.f3.resultTypes.toList.any (Tryz.prog.loopsFrom ·))) = true := by kernel_rfl
theorem fact22 : ((Rows.msgReadsTalksRow.plainKeys == Tryz.prog.plainKeys)) = true := by kernel_rfl
theorem fact23 : (Rows.msgReadsTalksRow.shortTexts.isNone) = true := by kernel_rfl
theorem fact24 : (Tryz.prog.stopsHeard) = true := by kernel_rfl
theorem fact25 : (Tryz.prog.mayEnter) = true := by kernel_rfl
theorem fact26 : ((Rows.msgReadsTalksRow.lifted == Tryz.prog.liftsFinal)) = true := by kernel_rfl
theorem fact27 : ((Tryz.prog.make == some Rows.msgReadsTalksRow.make)) = true := by kernel_rfl
theorem fact29 : ((Rows.msgReadsTalksRow.pinned == Rows.msgReadsTalksRow.pinnedBy)) = true := by kernel_rfl
theorem fact30 : ((Rows.msgReadsTalksRow.veiled == (Tryz.f3.params.toList ++ Rows.msgReadsTalksSpec.plain.varTypes Tryz.prog ++ Tryz.f3.resultTypes.toList).any (Tryz.prog.veiledRec ·))) = true := by kernel_rfl
theorem fact31 : (Rows.msgReadsTalksRow.veiledFits Tryz.prog Tryz.f3.params.toList (Tryz.f3.params.toList ++ Rows.msgReadsTalksSpec.plain.varTypes Tryz.prog ++ Tryz.f3.resultTypes.toList)) = true := by kernel_rfl
end Go.Proofs.YtlgbipmmpocepaaGreat.msgReadsTalksOne
