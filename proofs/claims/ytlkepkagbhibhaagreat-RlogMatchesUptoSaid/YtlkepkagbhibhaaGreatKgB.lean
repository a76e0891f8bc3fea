/- Fields and records of hard states, commands, replies, what edges ask and are told. Written by geni.py. -/
import Derived.Test.YtlkepkagbhibhaaGreatKgA
namespace Go.Proofs.YtlkepkagbhibhaaGreat.Kd
open Go.RowKit By CoP Co Mo

end Go.Proofs.YtlkepkagbhibhaaGreat.Kd
