/- Package msg's ToEntry, ToShot, ToHard, as contracts of calls. Written by gento.py. -/
import Derived.Test.YtlgbipmmpocepaaGreatKnE
namespace Go.Proofs.YtlgbipmmpocepaaGreat.Kd
open Go.RowKit By CoP Co Mo

theorem xt_Entry : XT 67 entryK.zero := ⟨Tryz.isAgg67, Tryz.zeroValue67, ⟨_, Tryz.underlying67⟩, by kernel_rfl⟩
theorem xt_Hard : XT 115 hardK.zero := ⟨Tryz.isAgg115, Tryz.zeroValue115, ⟨_, Tryz.underlying115⟩, by kernel_rfl⟩
end Go.Proofs.YtlgbipmmpocepaaGreat.Kd
