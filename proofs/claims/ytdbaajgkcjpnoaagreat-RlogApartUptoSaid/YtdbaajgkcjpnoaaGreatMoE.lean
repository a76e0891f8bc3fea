/- Package scupperref03's writer: configurations, entries, commands, replies, as contracts of calls. Written by gen3o.py. -/
import Derived.Test.YtdbaajgkcjpnoaaGreatGB
namespace Go.Proofs.YtdbaajgkcjpnoaaGreat.Mo
open Go.RowKit By CoP Co

/-- Its bytes. -/
def putConf (vs : List Int) (ls : List Int) : List UInt8 := putIds vs ++ putIds ls
theorem putConf_len (vs : List Int) (ls : List Int)  (hvs : vs.length ≤ 140737488355328) (hls : ls.length ≤ 140737488355328) : (putConf vs ls).length ≤ 9 * vs.length + 9 * ls.length + 18 := by
  unfold putConf
  simp only [List.length_append]
  have := putIds_len vs hvs
  have := putIds_len ls hls
  omega
/-- Its bytes. -/
def putEntry (ix : Nat) (tm : Nat) (kd : Int) (dl : Int) (da : List UInt8) : List UInt8 := putNum ix ++ putNum tm ++ putNum (u64N kd) ++ putNum (u64N dl) ++ putBytes da
theorem putEntry_len (ix : Nat) (tm : Nat) (kd : Int) (dl : Int) (da : List UInt8) (hix : ix < 18446744073709551616) (htm : tm < 18446744073709551616) (hda : da.length ≤ 140737488355328) : (putEntry ix tm kd dl da).length ≤ da.length + 45 := by
  unfold putEntry
  simp only [List.length_append]
  have := putNum_len ix hix
  have := putNum_len tm htm
  have := putNum_len (u64N kd) (u64N_lt kd)
  have := putNum_len (u64N dl) (u64N_lt dl)
  have := putBytes_length da hda
  omega
/-- Its bytes. -/
def putCommand (se : Nat) (sq : Nat) (op : Int) (ke : List UInt8) (am : Int) (sp : Int) (le : Nat) : List UInt8 := putNum se ++ putNum sq ++ putNum (u64N op) ++ putBytes ke ++ putNum (u64N am) ++ putNum (u64N sp) ++ putNum le
theorem putCommand_len (se : Nat) (sq : Nat) (op : Int) (ke : List UInt8) (am : Int) (sp : Int) (le : Nat) (hse : se < 18446744073709551616) (hsq : sq < 18446744073709551616) (hle : le < 18446744073709551616) (hke : ke.length ≤ 140737488355328) : (putCommand se sq op ke am sp le).length ≤ ke.length + 63 := by
  unfold putCommand
  simp only [List.length_append]
  have := putNum_len se hse
  have := putNum_len sq hsq
  have := putNum_len (u64N op) (u64N_lt op)
  have := putBytes_length ke hke
  have := putNum_len (u64N am) (u64N_lt am)
  have := putNum_len (u64N sp) (u64N_lt sp)
  have := putNum_len le hle
  omega
/-- Its bytes. -/
def putReply (se : Nat) (sq : Nat) (er : Int) (lz : Nat) (am : Int) (un : Int) : List UInt8 := putNum se ++ putNum sq ++ putNum (u64N er) ++ putNum lz ++ putNum (u64N am) ++ putNum (u64N un)
theorem putReply_len (se : Nat) (sq : Nat) (er : Int) (lz : Nat) (am : Int) (un : Int) (hse : se < 18446744073709551616) (hsq : sq < 18446744073709551616) (hlz : lz < 18446744073709551616)  : (putReply se sq er lz am un).length ≤ 54 := by
  unfold putReply
  simp only [List.length_append]
  have := putNum_len se hse
  have := putNum_len sq hsq
  have := putNum_len (u64N er) (u64N_lt er)
  have := putNum_len lz hlz
  have := putNum_len (u64N am) (u64N_lt am)
  have := putNum_len (u64N un) (u64N_lt un)
  omega
end Go.Proofs.YtdbaajgkcjpnoaaGreat.Mo
