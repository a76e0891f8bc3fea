/- The kinds of hard states, commands, replies, what edges are told, made. Written by geni.py. -/
import Derived.Test.YtlkepkagbhibhaaGreatKhA
namespace Go.Proofs.YtlkepkagbhibhaaGreat.Kd
open Go.RowKit By CoP Co Mo

end Go.Proofs.YtlkepkagbhibhaaGreat.Kd
