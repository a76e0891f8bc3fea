/- Kinds of truths, of bytes and of texts: what their closures do. -/
import Derived.Test.YtloieecpgndbhaaGreatKdB
import Derived.Test.YtloieecpgndbhaaGreatCoB
import Derived.Test.YtloieecpgndbhaaGreatCoR
import Derived.Test.YtloieecpgndbhaaGreatMoS
import Derived.Deep.QuietTactic
import Derived.BigQuiet
import Derived.Lib.ConvBytes
namespace Go.Proofs.YtloieecpgndbhaaGreat.Kd
open Go.RowKit By CoP Co Mo

set_option maxHeartbeats 400000 in
theorem flag_s {L : Nat} {W : World} : SoundAt L W (.func (.func 307) #[] #[]) 0 flagK := by
  refine ⟨_, _, rfl, enters_of Tryz.func307 (by kernel_rfl) rfl, ?_⟩
  rintro w hb g o vs d hr _
  show Calls _ _ _ _ (Says true w)
  clear hb hr
  go_enter Tryz.func307, Tryz.ntmps307
  go_wp2
  go_ret
  exact ⟨rfl, Below.refl _ _⟩
set_option maxHeartbeats 400000 in
theorem flag_p {L : Nat} {W : World} : PutAt L W (.func (.func 308) #[] #[]) 0 flagK := by
  refine ⟨_, _, rfl, enters_of Tryz.func308 (by kernel_rfl) rfl, ?_⟩
  rintro w hb g o vs d hr ⟨b, rfl, rfl⟩ _
  have c3 : w.cell? ⟨g, o, none⟩ = some (.bool b) := hr.cell
  clear hb hr
  cases b with
  | true =>
    go_enter Tryz.func308, Tryz.ntmps308
    go_wp2_with fail
    refine (putNum_any none 0 0 0 [] 1 _ rfl (by decide) rfl w (Lies.empty _ _ _) (Nat.zero_le _) (by simp)).mono ?_
    rintro e w1 ⟨v, rfl, ho, hb1⟩
    have HO := Lib.hid ho
    have HB := Lib.hid hb1
    clear ho hb1
    go_wp2
    go_ret
    exact ⟨_, rfl, HO.out, HB.out⟩
  | false =>
    go_enter Tryz.func308, Tryz.ntmps308
    go_wp2_with fail
    refine (putNum_any none 0 0 0 [] 0 _ rfl (by decide) rfl w (Lies.empty _ _ _) (Nat.zero_le _) (by simp)).mono ?_
    rintro e w1 ⟨v, rfl, ho, hb1⟩
    have HO := Lib.hid ho
    have HB := Lib.hid hb1
    clear ho hb1
    go_wp2
    go_ret
    exact ⟨_, rfl, HO.out, HB.out⟩
set_option maxHeartbeats 1200000 in
theorem flag_g {L : Nat} {W : World} : GetAt L W (.func (.func 309) #[] #[]) 0 flagK := by
  refine ⟨_, _, rfl, enters_of Tryz.func309 (by kernel_rfl) rfl, ?_⟩
  intro w hb g o cs ty B A n c at_ b hg hrow hsz hz hn hnc hm hr hBg hat
  have hnum := num_in A n c at_ B b hn hnc hat hm w hr
  have hgs := row_lt hrow
  have hfac := numR_facts (b.drop at_)
  have hget : flagK.get (b.drop at_) = if (numR (b.drop at_)).2.2 ≠ 0 ∨ 1 < (numR (b.drop at_)).1 then none else some (.lit (.bool (decide ((numR (b.drop at_)).1 = 1))), (numR (b.drop at_)).2.1) := rfl
  have hcs : cs[o + 0]? = some (.bool false) := zero_one hz
  have hol : o < cs.length := (List.getElem?_eq_some_iff.1 hcs).1
  generalize numR (b.drop at_) = N at hnum hget hfac
  obtain ⟨v, used, er⟩ := N
  have hnum2 : Calls Tryz.prog 242 #[.slice A n c, .int .i64 (at_ : Nat)] w (GivesN v (nextI at_ used er) (er : Int) w) := hnum
  simp only at hget hfac
  have HNUM := Lib.hid hnum2
  have HROW := Lib.hid hrow
  have HOL := Lib.hid hol
  clear hnum hnum2 hrow hr hb hz hcs hn hnc hm hat hsz hol
  by_cases he : er = 0
  · subst he
    by_cases hv1 : 1 < v
    · have hg2 : flagK.get (b.drop at_) = none := by rw [hget, if_pos (.inr hv1)]
      have HG2 := Lib.hid hg2
      have hb0 : ((v : Int) == 1) = false := by rw [beq_eq_false_iff_ne]; omega
      have hle : decide ((v : Int) ≤ 1) = false := by simp; omega
      obtain ⟨nx, hnx⟩ : ∃ nx, nextI at_ used 0 = nx := ⟨_, rfl⟩
      have hnum3 := HNUM.out
      rw [hnx] at hnum3
      have HNUM3 := Lib.hid hnum3
      clear hg2 hget hfac hnum3 hnx hv1
      go_enter Tryz.func309, Tryz.ntmps309
      go_wp2_with fail
      refine HNUM3.out.mono ?_
      rintro e w1 ⟨rfl, hb1⟩
      have hrow1 := (hb1.block g hgs).trans HROW.out
      have hf1 : w1.frozen? ⟨g, o, none⟩ = false := frozen_of_row w1 g o _ _ hrow1
      have hc1 : w1.cell? ⟨g, o, none⟩ = some (cs[o]'HOL.out) := cell_row hrow1 (List.getElem?_eq_getElem HOL.out)
      have HB1 := Lib.hid hb1
      clear hrow1 hb1
      go_wp2
      go_ret2
      exact Got.ofNone HG2.out (grown_trans (grown_of_below HB1.out _) (grown_set g o _))
    · have hg2 : flagK.get (b.drop at_) = some (.lit (.bool (decide (v = 1))), used) := by rw [hget, if_neg (by simp; omega)]
      have HG2 := Lib.hid hg2
      have hb0 : ((v : Int) == 1) = decide (v = 1) := by
        by_cases h : v = 1
        · subst h; rfl
        · rw [decide_eq_false h, beq_eq_false_iff_ne]; omega
      have hle : (v : Int) ≤ 1 := by omega
      have hnx : nextI at_ used 0 = ((at_ + used : Nat) : Int) := by rw [nextI_ok]; omega
      have HNX := Lib.hid hnx
      obtain ⟨bb, hbb⟩ : ∃ bb, decide (v = 1) = bb := ⟨_, rfl⟩
      rw [hbb] at hb0
      have HBB := Lib.hid hbb
      clear hg2 hget hfac hnx hv1 hbb
      go_enter Tryz.func309, Tryz.ntmps309
      go_wp2_with fail
      refine HNUM.out.mono ?_
      rintro e w1 ⟨rfl, hb1⟩
      have hrow1 := (hb1.block g hgs).trans HROW.out
      have hf1 : w1.frozen? ⟨g, o, none⟩ = false := frozen_of_row w1 g o _ _ hrow1
      have hc1 : w1.cell? ⟨g, o, none⟩ = some (cs[o]'HOL.out) := cell_row hrow1 (List.getElem?_eq_getElem HOL.out)
      have HROW1 := Lib.hid hrow1
      have HB1 := Lib.hid hb1
      clear hrow1 hb1
      rw [HNX.out]
      go_wp2
      go_ret2
      have h := HG2.out
      rw [HBB.out] at h
      refine Got.ofSome h ⟨grown_trans (grown_of_below HB1.out _) (grown_set g o _), [.bool bb], ?_, bb, rfl, rfl⟩
      rw [heap_setCell_same w1 g o _ _ _ HROW1.out, set_splice _ HOL.out]
      rfl
  · have heb : ((er : Int) == 0) = false := by rw [beq_eq_false_iff_ne]; omega
    have hg2 : flagK.get (b.drop at_) = none := by rw [hget, if_pos (.inl he)]
    have HG2 := Lib.hid hg2
    obtain ⟨nx, hnx⟩ : ∃ nx, nextI at_ used er = nx := ⟨_, rfl⟩
    have hnum3 := HNUM.out
    rw [hnx] at hnum3
    have HNUM3 := Lib.hid hnum3
    clear hg2 hget hfac hnum3 hnx
    go_enter Tryz.func309, Tryz.ntmps309
    go_wp2_with fail
    refine HNUM3.out.mono ?_
    rintro e w1 ⟨rfl, hb1⟩
    have hrow1 := (hb1.block g hgs).trans HROW.out
    have hf1 : w1.frozen? ⟨g, o, none⟩ = false := frozen_of_row w1 g o _ _ hrow1
    have hc1 : w1.cell? ⟨g, o, none⟩ = some (cs[o]'HOL.out) := cell_row hrow1 (List.getElem?_eq_getElem HOL.out)
    have HB1 := Lib.hid hb1
    clear hrow1 hb1
    go_wp2
    go_ret2
    exact Got.ofNone HG2.out (grown_trans (grown_of_below HB1.out _) (grown_set g o _))
end Go.Proofs.YtloieecpgndbhaaGreat.Kd
