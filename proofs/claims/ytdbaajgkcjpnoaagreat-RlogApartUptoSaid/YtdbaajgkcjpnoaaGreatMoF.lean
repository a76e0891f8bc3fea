/- Package scupperref03's bytes of an entry, a configuration, a term and vote, a snapshot, a command, a reply, what edges ask and are told, as contracts of calls. Written by gen3o.py. -/
import Derived.Test.YtdbaajgkcjpnoaaGreatMoE
namespace Go.Proofs.YtdbaajgkcjpnoaaGreat.Mo
open Go.RowKit By CoP Co

/-- Its bytes. -/
def putHard (tm : Nat) (vo : Int) : List UInt8 := putNum tm ++ putNum (u64N vo)
theorem putHard_len (tm : Nat) (vo : Int) (htm : tm < 18446744073709551616)  : (putHard tm vo).length ≤ 18 := by
  unfold putHard
  simp only [List.length_append]
  have := putNum_len tm htm
  have := putNum_len (u64N vo) (u64N_lt vo)
  omega
/-- Its bytes. -/
def putShot (ix : Nat) (tm : Nat) (vs : List Int) (ls : List Int) (da : List UInt8) : List UInt8 := putNum ix ++ putNum tm ++ (putConf vs ls) ++ putBytes da
theorem putShot_len (ix : Nat) (tm : Nat) (vs : List Int) (ls : List Int) (da : List UInt8) (hix : ix < 18446744073709551616) (htm : tm < 18446744073709551616) (hvs : vs.length ≤ 140737488355328) (hls : ls.length ≤ 140737488355328) (hda : da.length ≤ 140737488355328) : (putShot ix tm vs ls da).length ≤ 9 * vs.length + 9 * ls.length + da.length + 45 := by
  unfold putShot putConf
  simp only [List.length_append]
  have := putNum_len ix hix
  have := putNum_len tm htm
  have := putIds_len vs hvs
  have := putIds_len ls hls
  have := putBytes_length da hda
  omega
/-- Its bytes. -/
def putAsk (lk : Bool) (ly : Bool) (aq : Nat) (se : Nat) (sq : Nat) (op : Int) (ke : List UInt8) (am : Int) (sp : Int) (le : Nat) (ak : List UInt8) : List UInt8 := putNum (flagN lk) ++ putNum (flagN ly) ++ putNum aq ++ (putCommand se sq op ke am sp le) ++ putBytes ak
theorem putAsk_len (lk : Bool) (ly : Bool) (aq : Nat) (se : Nat) (sq : Nat) (op : Int) (ke : List UInt8) (am : Int) (sp : Int) (le : Nat) (ak : List UInt8) (haq : aq < 18446744073709551616) (hse : se < 18446744073709551616) (hsq : sq < 18446744073709551616) (hle : le < 18446744073709551616) (hke : ke.length ≤ 140737488355328) (hak : ak.length ≤ 140737488355328) : (putAsk lk ly aq se sq op ke am sp le ak).length ≤ ke.length + ak.length + 99 := by
  unfold putAsk putCommand
  simp only [List.length_append]
  have := putNum_len (flagN lk) (by cases lk <;> decide)
  have := putNum_len (flagN ly) (by cases ly <;> decide)
  have := putNum_len aq haq
  have := putNum_len se hse
  have := putNum_len sq hsq
  have := putNum_len (u64N op) (u64N_lt op)
  have := putBytes_length ke hke
  have := putNum_len (u64N am) (u64N_lt am)
  have := putNum_len (u64N sp) (u64N_lt sp)
  have := putNum_len le hle
  have := putBytes_length ak hak
  omega
/-- Its bytes. -/
def putTold (tq : Nat) (rt : Bool) (ld : Int) (se : Nat) (sq : Nat) (er : Int) (lz : Nat) (am : Int) (un : Int) (cp : Int) (ln : Int) : List UInt8 := putNum tq ++ putNum (flagN rt) ++ putNum (u64N ld) ++ (putReply se sq er lz am un) ++ putNum (u64N cp) ++ putNum (u64N ln)
theorem putTold_len (tq : Nat) (rt : Bool) (ld : Int) (se : Nat) (sq : Nat) (er : Int) (lz : Nat) (am : Int) (un : Int) (cp : Int) (ln : Int) (htq : tq < 18446744073709551616) (hse : se < 18446744073709551616) (hsq : sq < 18446744073709551616) (hlz : lz < 18446744073709551616)  : (putTold tq rt ld se sq er lz am un cp ln).length ≤ 99 := by
  unfold putTold putReply
  simp only [List.length_append]
  have := putNum_len tq htq
  have := putNum_len (flagN rt) (by cases rt <;> decide)
  have := putNum_len (u64N ld) (u64N_lt ld)
  have := putNum_len se hse
  have := putNum_len sq hsq
  have := putNum_len (u64N er) (u64N_lt er)
  have := putNum_len lz hlz
  have := putNum_len (u64N am) (u64N_lt am)
  have := putNum_len (u64N un) (u64N_lt un)
  have := putNum_len (u64N cp) (u64N_lt cp)
  have := putNum_len (u64N ln) (u64N_lt ln)
  omega
end Go.Proofs.YtdbaajgkcjpnoaaGreat.Mo
