/- Package scupperref03's Msg: the bytes of a message. Written by genmsg.py. -/
import Derived.Test.YtnmcaifecfaoiaaGreatKpA
import Derived.Test.YtnmcaifecfaoiaaGreatMoE
namespace Go.Proofs.YtnmcaifecfaoiaaGreat.Kd
open Go.RowKit By CoP Co Mo

theorem flatPut_le (k : Kd) (ds : List Data) (j : Nat) (h : j < ds.length) : ((ds.take j).flatMap k.put).length + (k.put ds[j]).length ≤ (ds.flatMap k.put).length := by
  have e : ds.flatMap k.put = (ds.take j).flatMap k.put ++ (k.put ds[j] ++ (ds.drop (j + 1)).flatMap k.put) := by
    conv => lhs; rw [← List.take_append_drop j ds, List.drop_eq_getElem_cons h]
    rw [List.flatMap_append, List.flatMap_cons]
  rw [e, List.length_append, List.length_append]
  omega
theorem flatPut_take_le (k : Kd) (ds : List Data) (j : Nat) : ((ds.take j).flatMap k.put).length ≤ (ds.flatMap k.put).length := by
  conv => rhs; rw [← List.take_append_drop j ds]
  rw [List.flatMap_append, List.length_append]
  omega
end Go.Proofs.YtnmcaifecfaoiaaGreat.Kd
