/- The closed facts of the row MsgReadsLogs, one by one. -/
import Derived.Test.YtloieecpgndbhaaGreatRows
import Derived.JoinedCond
namespace Go.Proofs.YtloieecpgndbhaaGreat.msgReadsLogsOne
open Go.ChangeShapes Go.WideShapes Go.ChangeAt
theorem fact0 : (Rows.msgReadsLogsRow.wf (OpenSpec.ofChange Rows.msgReadsLogsSpec)) = true := by kernel_rfl
theorem fact1 : (laidOutB Tryz.prog) = true := by kernel_rfl
theorem fact2 : (mapsRowed Tryz.prog) = true := by kernel_rfl
theorem fact3 : (Tryz.f6.params.all (Tryz.prog.readableRec ·)) = true := by kernel_rfl
theorem fact4 : (namedTie Tryz.prog Rows.msgReadsLogsRow.named Rows.msgReadsLogsSpec.vars) = true := by kernel_rfl
theorem fact5 : ((Rows.msgReadsLogsRow.stops == [])) = true := by kernel_rfl
theorem fact6 : ((Tryz.prog.stops == [])) = true := by kernel_rfl
theorem fact7 : ((Rows.msgReadsLogsRow.knobs == [])) = true := by kernel_rfl
theorem fact8 : ((Tryz.prog.stopKnobs == [])) = true := by kernel_rfl
theorem fact9 : ((Rows.msgReadsLogsRow.inPlace == Tryz.prog.inPlace 6)) = true := by kernel_rfl
theorem fact10 : ((Rows.msgReadsLogsRow.unfollowed == Tryz.prog.unfollowed 6)) = true := by kernel_rfl
theorem fact11 : ((Rows.msgReadsLogsRow.recurses == Tryz.prog.recurses 6)) = true := by kernel_rfl
theorem fact12 : ((Rows.msgReadsLogsRow.named == Tryz.prog.varsNamed 6)) = true := by kernel_rfl
theorem fact13 : ((Rows.msgReadsLogsRow.maps == (Tryz.f6.params.toList ++ Rows.msgReadsLogsSpec.plain.varTypes Tryz.prog).any (Tryz.prog.mapsRec ·))) = true := by kernel_rfl
theorem fact14 : ((Rows.msgReadsLogsRow.ifaces == (Tryz.f6.params.toList ++ Rows.msgReadsLogsSpec.plain.varTypes Tryz.prog).any (Tryz.prog.ifacesRec ·))) = true := by kernel_rfl
theorem fact15 : ((Rows.msgReadsLogsRow.mapsOut == Tryz.prog.mapsAmong Tryz.f6.resultTypes.toList)) = true := by kernel_rfl
theorem fact16 : ((Rows.msgReadsLogsRow.loops == (Tryz.f6.params.toList ++ Rows.msgReadsLogsSpec.plain.varTypes Tryz.prog).any (Tryz.prog.loopsFrom ·))) = true := by kernel_rfl
theorem fact17 : ((Rows.msgReadsLogsRow.wideKeys == (Tryz.f6.params.toList ++ Rows.msgReadsLogsSpec.plain.varTypes Tryz.prog ++ Tryz.f6.resultTypes.toList).any (Tryz.prog.wideKeysFrom ·))) = true := by kernel_rfl
theorem fact18 : (Rows.msgReadsLogsSpec.vars.all (Tryz.prog.varReadable ·)) = true := by kernel_rfl
theorem fact19 : (Tryz.f6.resultTypes.all (fun t => Tryz.prog.readableRec t && decide (t < Tryz.prog.types.size))) = true := by kernel_rfl
theorem fact20 : ((Rows.msgReadsLogsRow.ifacesOut == Tryz.f6.resultTypes.toList.any (Tryz.prog.ifacesRec ·))) = true := by kernel_rfl
theorem fact21 : ((Rows.msgReadsLogsRow.loopsOut == Tryz.f6.resultTypes.toList.any (Tryz.prog.loopsFrom ·))) = true := by kernel_rfl
theorem fact22 : ((Rows.msgReadsLogsRow.plainKeys == Tryz.prog.plainKeys)) = true := by kernel_rfl
theorem fact23 : (Rows.msgReadsLogsRow.shortTexts.isNone) = true := by kernel_rfl
theorem fact24 : (Tryz.prog.stopsHeard) = true := by kernel_rfl
theorem fact25 : (Tryz.prog.mayEnter) = true := by kernel_rfl
theorem fact26 : ((Rows.msgReadsLogsRow.lifted == Tryz.prog.liftsFinal)) = true := by kernel_rfl
theorem fact27 : ((Tryz.prog.make == some Rows.msgReadsLogsRow.make)) = true := by kernel_rfl
theorem fact29 : ((Rows.msgReadsLogsRow.pinned == Rows.msgReadsLogsRow.pinnedBy)) = true := by kernel_rfl
theorem fact30 : ((Rows.msgReadsLogsRow.veiled == (Tryz.f6.params.toList ++ Rows.msgReadsLogsSpec.plain.varTypes Tryz.prog ++ Tryz.f6.resultTypes.toList).any (Tryz.prog.veiledRec ·))) = true := by kernel_rfl
theorem fact31 : (Rows.msgReadsLogsRow.veiledFits Tryz.prog Tryz.f6.params.toList (Tryz.f6.params.toList ++ Rows.msgReadsLogsSpec.plain.varTypes Tryz.prog ++ Tryz.f6.resultTypes.toList)) = true := by kernel_rfl
end Go.Proofs.YtloieecpgndbhaaGreat.msgReadsLogsOne
