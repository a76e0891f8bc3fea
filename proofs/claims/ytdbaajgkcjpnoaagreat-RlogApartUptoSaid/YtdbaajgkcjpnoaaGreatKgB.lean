/- Fields and records of hard states, commands, replies, what edges ask and are told. Written by geni.py. -/
import Derived.Test.YtdbaajgkcjpnoaaGreatKgA
namespace Go.Proofs.YtdbaajgkcjpnoaaGreat.Kd
open Go.RowKit By CoP Co Mo

end Go.Proofs.YtdbaajgkcjpnoaaGreat.Kd
