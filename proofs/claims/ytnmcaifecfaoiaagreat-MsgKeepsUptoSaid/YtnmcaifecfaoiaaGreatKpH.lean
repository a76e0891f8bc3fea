/- Messages, as they come in: values of their kind, of few bytes. Written by genlaw6.py. -/
import Derived.Test.YtnmcaifecfaoiaaGreatKnL
import Derived.Test.YtnmcaifecfaoiaaGreatKpA
namespace Go.Proofs.YtnmcaifecfaoiaaGreat.Kd
open Go.ChangeShapes Go.WideShapes Go.ChangeAt Go.RowKit Go.Deep By CoP Co Mo

section
variable {H : Type} {enc : TypeId × Value → H} {W : World}
theorem opens_ents : Opens H enc W (listK entryK 8) 23 :=
  opens_list Tryz.underlying23 (by kernel_rfl) (by decide) opens_entry _
theorem opens_msg : Opens H enc W msgK 29 :=
  opens_rec _ Tryz.underlying29 (by kernel_rfl)
    ⟨_, _, rfl, rfl, by kernel_rfl, opens_int Tryz.underlying3 _ _, _, _, rfl, rfl, by kernel_rfl, opens_int Tryz.underlying3 _ _, _, _, rfl, rfl, by kernel_rfl, opens_int Tryz.underlying3 _ _, _, _, rfl, rfl, by kernel_rfl, opens_num Tryz.underlying22 _ _, _, _, rfl, rfl, by kernel_rfl, opens_num Tryz.underlying22 _ _, _, _, rfl, rfl, by kernel_rfl, opens_num Tryz.underlying22 _ _, _, _, rfl, rfl, by kernel_rfl, opens_num Tryz.underlying22 _ _, _, _, rfl, rfl, by kernel_rfl, opens_num Tryz.underlying22 _ _, _, _, rfl, rfl, by kernel_rfl, opens_flag Tryz.underlying4, _, _, rfl, rfl, by kernel_rfl, opens_ents, _, _, rfl, rfl, by kernel_rfl, opens_loose opens_conf, _, _, rfl, rfl, by kernel_rfl, opens_int Tryz.underlying3 _ _, _, _, rfl, rfl, by kernel_rfl, opens_bytes Tryz.underlying27 _, rfl⟩
end
end Go.Proofs.YtnmcaifecfaoiaaGreat.Kd
