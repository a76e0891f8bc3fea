/- codec.PutBytes, as a contract of calls. -/
import Derived.Test.YtloieecpgndbhaaGreatCoW
import Derived.Test.YtloieecpgndbhaaGreatRfP
namespace Go.Proofs.YtloieecpgndbhaaGreat.Co
open Go.RowKit By CoP

set_option maxHeartbeats 400000 in
theorem putBytes_any (A A2 : Option Addr) (m c n c2 B : Nat) (l : List UInt8) (ls : List (List UInt8)) (hm : m = l.length) (hn : n = ls.length) (w : World) (hr : Lies w B A l) (hr2 : LiesL w B A2 ls) (hB : B ≤ w.heap.size)
    (hs : l.length + (putLists ls).length + 9 ≤ 140737488355328) (hnn : n ≤ 140737488355328) :
    Calls Tryz.prog 260 #[.slice A m c, .slice A2 n c2] w (Gives w.heap.size (l ++ putLists ls) w) := by
  have HM := Lib.hid hm
  have HN := Lib.hid hn
  have HL := Lib.hid hs
  clear hm hs hn
  go_enter Tryz.func260, Tryz.ntmps260
  go_wp2_with fail
  refine (clone_any A m c B l HM.out w hr hB (by have := HL.out; omega)).mono ?_
  rintro e w1 ⟨v1, rfl, ho1, hb1⟩
  have HO1 := Lib.hid ho1
  have HB1 := Lib.hid hb1
  have HR2 := Lib.hid hr2
  clear ho1 hb1 hr hr2
  go_wp2
  go_loopw [5, 12] (fun v i wr => ∃ (k : Nat), k ≤ n ∧ i = .int .i64 k ∧ Own w.heap.size wr v (l ++ putLists (ls.take k)) ∧ Below w.heap.size w wr) (fun _ i _ => n - (intOf i).toNat)
  case atStart => exact ⟨0, Nat.zero_le _, rfl, by simpa [putLists] using HO1.out, HB1.out⟩
  case round =>
    obtain ⟨k, hk, rfl, ho, hbw⟩ := hrel
    have HO := Lib.hid ho
    have HB := Lib.hid hbw
    by_cases hkn : k < n
    · have hkl : k < ls.length := by have := HN.out; omega
      obtain ⟨g, o, Aj, cj, rfl, hg, hc, hrj⟩ := (HR2.out.below (hbw.mono hB)).at_ hkl
      have HS := Lib.hid (show l ++ putLists (ls.take (k + 1)) = (l ++ putLists (ls.take k)) ++ putNum (ls[k]).length ++ ls[k] by
        rw [List.take_succ_eq_append_getElem hkl]
        simp only [putLists, List.flatMap_append, List.flatMap_cons, List.flatMap_nil, List.append_nil, putBytes, List.append_assoc])
      have HLk := Lib.hid (putLists_take ls k)
      have HLl := Lib.hid (putLists_take ls (k + 1))
      generalize ls[k] = lk at hc hrj HS
      have hlen := congrArg List.length HS.out
      rw [List.length_append, List.length_append, List.length_append, List.length_append, putNum_length] at hlen
      have hz := hbw.size
      have hlk : lk.length ≤ 140737488355328 := by have := HLl.out; have := HL.out; omega
      obtain ⟨q, hq⟩ : ∃ q, lk.length = q := ⟨_, rfl⟩
      rw [hq] at hc hlk
      have HQ := Lib.hid hq
      have HLEN := Lib.hid hlen
      have HRJ := Lib.hid hrj
      clear hq hlen ho hbw hrj hkl
      go_wp2_with fail
      refine (appendNum_any _ _ q _ rfl (by omega) _ HO.out hz (by have h1 := HL.out; have h2 := HLk.out; rw [List.length_append]; omega)).mono ?_
      rintro e w2 ⟨v2, rfl, ho2, hb2⟩
      have hr2 := (HRJ.out.below (hb2.mono hB))
      have hz2 := hb2.size
      have HB2 := Lib.hid (HB.out.trans hb2)
      clear hb2
      go_wp2_with (at_builtin; refine wpList_app rfl (.tmp 20) (.tmp 21) rfl rfl ho2 rfl HQ.out.symm hr2 ?cs ?cb ?_)
      case cs =>
        have h1 := HLEN.out
        have h2 := HL.out
        have h3 := HLl.out
        have h4 := HQ.out
        rw [List.length_append, List.length_append, putNum_length, ← h4]
        omega
      case cb => omega
      intro v3 w3 ho3 hb3 _
      have ho4 : Own w.heap.size w3 v3 (l ++ putLists (ls.take (k + 1))) := by
        rw [HS.out, HQ.out]
        simpa using ho3
      have HO4 := Lib.hid ho4
      have HB4 := Lib.hid (HB2.out.trans hb3)
      clear ho3 ho4 hb3 ho2 hr2 HB2 HRJ HLEN HQ HS
      go_wp2
      go_roundw
      case rel => exact ⟨k + 1, by omega, by go_num, HO4.out, HB4.out⟩
      case measure => simp [intOf]; omega
    · obtain rfl : k = n := by omega
      have hl : ls.take k = ls := List.take_of_length_le (by have := HN.out; omega)
      rw [hl] at ho
      clear hl hbw
      go_wp2
      go_ret
      exact ⟨_, rfl, ho, HB.out⟩
end Go.Proofs.YtloieecpgndbhaaGreat.Co
