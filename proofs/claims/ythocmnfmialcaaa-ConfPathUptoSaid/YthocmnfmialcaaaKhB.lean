/- The kinds of hard states, commands, replies, what edges are told, made. Written by geni.py. -/
import Derived.Test.YthocmnfmialcaaaKhA
namespace Go.Proofs.Ythocmnfmialcaaa.Kd
open Go.RowKit By CoP Co Mo

end Go.Proofs.Ythocmnfmialcaaa.Kd
