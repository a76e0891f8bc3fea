/- The kinds of hard states, commands, replies, what edges are told, made. Written by geni.py. -/
import Derived.Test.YtdbaajgkcjpnoaaGreatKhA
namespace Go.Proofs.YtdbaajgkcjpnoaaGreat.Kd
open Go.RowKit By CoP Co Mo

end Go.Proofs.YtdbaajgkcjpnoaaGreat.Kd
