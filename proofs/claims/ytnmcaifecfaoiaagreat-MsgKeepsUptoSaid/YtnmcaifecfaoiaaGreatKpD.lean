/- Package scupperref03's MsgOK; at messages: what is sound, its bytes. Written by genmsgok.py. -/
import Derived.Test.YtnmcaifecfaoiaaGreatKpC
import Derived.Test.YtnmcaifecfaoiaaGreatGR
import Derived.Deep.DeepCutAuto
namespace Go.Proofs.YtnmcaifecfaoiaaGreat.Kd
open Go.RowKit By CoP Co Mo

end Go.Proofs.YtnmcaifecfaoiaaGreat.Kd
