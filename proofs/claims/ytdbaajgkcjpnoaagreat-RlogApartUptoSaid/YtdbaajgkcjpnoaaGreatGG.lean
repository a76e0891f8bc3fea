/- Kinds of unsigned numbers: what their closures do. Written by genn.py. | Kinds of signed numbers: what their closures do. Written by genn.py. | Kinds of signed numbers: what their closures do. Written by genn.py. -/
import Derived.Test.YtdbaajgkcjpnoaaGreatGC
import Derived.Test.YtdbaajgkcjpnoaaGreatGE
import Derived.Deep.QuietTactic
import Derived.BigQuiet
/-! Kinds of unsigned numbers: what their closures do. Written by genn.py. -/
namespace Go.Proofs.YtdbaajgkcjpnoaaGreat.Kd
open Go.RowKit By CoP Co Mo

set_option maxHeartbeats 400000 in
theorem wholeU_s {L : Nat} {W : World} {bl bm : Nat} {lo hi : Int} {t1 t2 : TypeId} (hL1 : L ≤ bl) (hL2 : L ≤ bm) (h1 : W.heap[bl]? = some (.cells #[.int .u64 lo] t1 (0, 0))) (h2 : W.heap[bm]? = some (.cells #[.int .u64 hi] t2 (0, 0))) :
    SoundAt L W (.func (.func 79) #[] #[.pointer (some ⟨bl, 0, none⟩), .pointer (some ⟨bm, 0, none⟩)]) 0 (numK lo hi) := by
  refine ⟨_, _, rfl, enters_of Tryz.func79 (by kernel_rfl) rfl, ?_⟩
  rintro w hb g o vs d hr ⟨n, hn, rfl, rfl⟩
  have c1 : w.cell? ⟨bl, 0, none⟩ = some (.int .u64 lo) := by rw [cell_of_row w bl 0 _ _ _ ((hb.block bl hL1 (row_lt h1)).trans h1)]; rfl
  have c2 : w.cell? ⟨bm, 0, none⟩ = some (.int .u64 hi) := by rw [cell_of_row w bm 0 _ _ _ ((hb.block bm hL2 (row_lt h2)).trans h2)]; rfl
  have c3 : w.cell? ⟨g, o, none⟩ = some (.int .u64 (n : Int)) := hr.cell
  have hs : (numK lo hi).sound (.lit (.int .u64 (n : Int))) = (decide (lo ≤ (n : Int)) && decide ((n : Int) ≤ hi)) := rfl
  rw [hs]
  clear hs h1 h2 hr hb hn
  by_cases ha : lo ≤ (n : Int)
  · by_cases hz : (n : Int) ≤ hi
    · have e : (decide (lo ≤ (n : Int)) && decide ((n : Int) ≤ hi)) = true := by simp [ha, hz]
      rw [e]
      clear e
      go_enter Tryz.func79, Tryz.ntmps79
      go_wp2
      go_quiet (fail)
      go_wp2
      go_ret
      exact ⟨rfl, below_drewN (Below.refl _ _) _⟩
    · have e : (decide (lo ≤ (n : Int)) && decide ((n : Int) ≤ hi)) = false := by simp [hz]
      have hz' : decide ((n : Int) ≤ hi) = false := by simp [hz]
      rw [e]
      clear e
      go_enter Tryz.func79, Tryz.ntmps79
      go_wp2
      go_quiet (fail)
      go_wp2
      go_ret
      exact ⟨rfl, below_drewN (Below.refl _ _) _⟩
  · have e : (decide (lo ≤ (n : Int)) && decide ((n : Int) ≤ hi)) = false := by simp [ha]
    have ha' : decide (lo ≤ (n : Int)) = false := by simp [ha]
    rw [e]
    clear e
    go_enter Tryz.func79, Tryz.ntmps79
    go_wp2
    go_quiet (fail)
    go_wp2
    go_ret
    exact ⟨rfl, below_drewN (Below.refl _ _) _⟩
set_option maxHeartbeats 400000 in
theorem wholeU_p {L : Nat} {W : World} {lo hi : Int} : PutAt L W (.func (.func 80) #[] #[]) 0 (numK lo hi) := by
  refine ⟨_, _, rfl, enters_of Tryz.func80 (by kernel_rfl) rfl, ?_⟩
  rintro w hb g o vs d hr ⟨n, hn, rfl, rfl⟩ _
  have c3 : w.cell? ⟨g, o, none⟩ = some (.int .u64 (n : Int)) := hr.cell
  clear hb hr
  go_enter Tryz.func80, Tryz.ntmps80
  go_wp2_with fail
  refine (putNum_any none 0 0 0 [] n _ rfl hn rfl w (Lies.empty _ _ _) (Nat.zero_le _) (by simp)).mono ?_
  rintro e w1 ⟨v, rfl, ho, hb1⟩
  have HO := Lib.hid ho
  have HB := Lib.hid hb1
  clear ho hb1
  go_wp2
  go_ret
  exact ⟨_, rfl, HO.out, HB.out⟩
set_option maxHeartbeats 1200000 in
theorem wholeU_g {L : Nat} {W : World} {lo hi : Int} : GetAt L W (.func (.func 82) #[] #[]) 0 (numK lo hi) := by
  refine ⟨_, _, rfl, enters_of Tryz.func82 (by kernel_rfl) rfl, ?_⟩
  intro w hb g o cs ty B A n c at_ b hg hrow hsz hz hn hnc hm hr hBg hat
  have hnum := num_in A n c at_ B b hn hnc hat hm w hr
  have hgs := row_lt hrow
  have hfac := numR_facts (b.drop at_)
  have hget : (numK lo hi).get (b.drop at_) = if (numR (b.drop at_)).2.2 ≠ 0 then none else some (.lit (.int .u64 (((numR (b.drop at_)).1 : Nat))), (numR (b.drop at_)).2.1) := rfl
  have hcs : cs[o + 0]? = some (.int .u64 0) := zero_one hz
  have hol : o < cs.length := (List.getElem?_eq_some_iff.1 hcs).1
  generalize numR (b.drop at_) = N at hnum hget hfac
  obtain ⟨v, used, er⟩ := N
  have hnum2 : Calls Tryz.prog 83 #[.slice A n c, .int .i64 (at_ : Nat)] w (GivesN v (nextI at_ used er) (er : Int) w) := hnum
  simp only at hget hfac
  have HNUM := Lib.hid hnum2
  have HROW := Lib.hid hrow
  have HOL := Lib.hid hol
  clear hnum hnum2 hrow hr hb hz hcs hn hnc hm hat hsz hol
  by_cases he : er = 0
  · subst he
    have hg2 : (numK lo hi).get (b.drop at_) = some (.lit (.int .u64 ((v : Int))), used) := by rw [hget, if_neg (by simp)]
    have hv : v < 18446744073709551616 := (hfac rfl).2
    have HG2 := Lib.hid hg2
    have HV := Lib.hid hv
    have hnx : nextI at_ used 0 = ((at_ + used : Nat) : Int) := by rw [nextI_ok]; omega
    have HNX := Lib.hid hnx
    clear hg2 hget hfac hnx hv
    go_enter Tryz.func82, Tryz.ntmps82
    go_wp2_with fail
    refine HNUM.out.mono ?_
    rintro e w1 ⟨rfl, hb1⟩
    have hrow1 := (hb1.block g hgs).trans HROW.out
    have hf1 : w1.frozen? ⟨g, o, none⟩ = false := frozen_of_row w1 g o _ _ hrow1
    have hc1 : w1.cell? ⟨g, o, none⟩ = some (cs[o]'HOL.out) := cell_row hrow1 (List.getElem?_eq_getElem HOL.out)
    have HROW1 := Lib.hid hrow1
    have HB1 := Lib.hid hb1
    clear hrow1 hb1
    rw [HNX.out]
    go_wp2
    obtain ⟨w2, hw2⟩ : ∃ x, x = w1.setCell ⟨g, o, none⟩ (.int .u64 ((v : Int))) := ⟨_, rfl⟩
    rw [← hw2]
    have hrow2 : w2.heap[g]? = some (.cells (splice cs o [.int .u64 ((v : Int))]).toArray ty (0, 0)) := by
      rw [hw2, heap_setCell_same w1 g o _ _ _ HROW1.out, set_splice _ HOL.out]
    have hg2 : w.grownBy w2 (some g) := by rw [hw2]; exact grown_trans (grown_of_below HB1.out _) (grown_set g o _)
    have c4 : w2.cell? ⟨g, o, none⟩ = some (.int .u64 ((v : Int))) := by rw [hw2]; exact cell_set HROW1.out HOL.out _
    have hveq : ((v : Int) == (v : Int)) = true := by simp
    have HROW2 := Lib.hid hrow2
    have HGR2 := Lib.hid hg2
    clear hw2 hrow2 hg2 hf1 hc1
    go_quiet (fail)
    go_wp2
    go_ret2
    exact Got.ofSome HG2.out ⟨grown_drewN HGR2.out _, _, HROW2.out, v, HV.out, rfl, rfl⟩
  · have heb : ((er : Int) == 0) = false := by rw [beq_eq_false_iff_ne]; omega
    have hg2 : (numK lo hi).get (b.drop at_) = none := by rw [hget, if_pos he]
    have HG2 := Lib.hid hg2
    obtain ⟨nx, hnx⟩ : ∃ nx, nextI at_ used er = nx := ⟨_, rfl⟩
    have hnum3 := HNUM.out
    rw [hnx] at hnum3
    have HNUM3 := Lib.hid hnum3
    clear hg2 hget hfac hnum3 hnx
    go_enter Tryz.func82, Tryz.ntmps82
    go_wp2_with fail
    refine HNUM3.out.mono ?_
    rintro e w1 ⟨rfl, hb1⟩
    have hrow1 := (hb1.block g hgs).trans HROW.out
    have hf1 : w1.frozen? ⟨g, o, none⟩ = false := frozen_of_row w1 g o _ _ hrow1
    have hc1 : w1.cell? ⟨g, o, none⟩ = some (cs[o]'HOL.out) := cell_row hrow1 (List.getElem?_eq_getElem HOL.out)
    have HB1 := Lib.hid hb1
    clear hrow1 hb1
    go_wp2
    obtain ⟨w2, hw2⟩ : ∃ x, x = w1.setCell ⟨g, o, none⟩ (.int .u64 ((v : Int))) := ⟨_, rfl⟩
    rw [← hw2]
    have hg2 : w.grownBy w2 (some g) := by rw [hw2]; exact grown_trans (grown_of_below HB1.out _) (grown_set g o _)
    have HGR2 := Lib.hid hg2
    clear hw2 hg2 hf1 hc1
    go_quiet (fail)
    go_wp2
    go_ret2
    exact Got.ofNone HG2.out (grown_drewN HGR2.out _)
end Go.Proofs.YtdbaajgkcjpnoaaGreat.Kd

/-! Kinds of signed numbers: what their closures do. Written by genn.py. -/
namespace Go.Proofs.YtdbaajgkcjpnoaaGreat.Kd
open Go.RowKit By CoP Co Mo

set_option maxHeartbeats 400000 in
theorem wholeI_s {L : Nat} {W : World} {bl bm : Nat} {lo hi : Int} {t1 t2 : TypeId} (hL1 : L ≤ bl) (hL2 : L ≤ bm) (h1 : W.heap[bl]? = some (.cells #[.int .i64 lo] t1 (0, 0))) (h2 : W.heap[bm]? = some (.cells #[.int .i64 hi] t2 (0, 0))) :
    SoundAt L W (.func (.func 87) #[] #[.pointer (some ⟨bl, 0, none⟩), .pointer (some ⟨bm, 0, none⟩)]) 0 (intK lo hi) := by
  refine ⟨_, _, rfl, enters_of Tryz.func87 (by kernel_rfl) rfl, ?_⟩
  rintro w hb g o vs d hr ⟨z, hz1, hz2, rfl, rfl⟩
  have c1 : w.cell? ⟨bl, 0, none⟩ = some (.int .i64 lo) := by rw [cell_of_row w bl 0 _ _ _ ((hb.block bl hL1 (row_lt h1)).trans h1)]; rfl
  have c2 : w.cell? ⟨bm, 0, none⟩ = some (.int .i64 hi) := by rw [cell_of_row w bm 0 _ _ _ ((hb.block bm hL2 (row_lt h2)).trans h2)]; rfl
  have c3 : w.cell? ⟨g, o, none⟩ = some (.int .i64 z) := hr.cell
  have hs : (intK lo hi).sound (.lit (.int .i64 z)) = (decide (lo ≤ z) && decide (z ≤ hi)) := rfl
  rw [hs]
  clear hs h1 h2 hr hb hz1 hz2
  by_cases ha : lo ≤ z
  · by_cases hz : z ≤ hi
    · have e : (decide (lo ≤ z) && decide (z ≤ hi)) = true := by simp [ha, hz]
      rw [e]
      clear e
      go_enter Tryz.func87, Tryz.ntmps87
      go_wp2
      go_quiet (fail)
      go_wp2
      go_ret
      exact ⟨rfl, below_drewN (Below.refl _ _) _⟩
    · have e : (decide (lo ≤ z) && decide (z ≤ hi)) = false := by simp [hz]
      have hz' : decide (z ≤ hi) = false := by simp [hz]
      rw [e]
      clear e
      go_enter Tryz.func87, Tryz.ntmps87
      go_wp2
      go_quiet (fail)
      go_wp2
      go_ret
      exact ⟨rfl, below_drewN (Below.refl _ _) _⟩
  · have e : (decide (lo ≤ z) && decide (z ≤ hi)) = false := by simp [ha]
    have ha' : decide (lo ≤ z) = false := by simp [ha]
    rw [e]
    clear e
    go_enter Tryz.func87, Tryz.ntmps87
    go_wp2
    go_quiet (fail)
    go_wp2
    go_ret
    exact ⟨rfl, below_drewN (Below.refl _ _) _⟩
set_option maxHeartbeats 400000 in
theorem wholeI_p {L : Nat} {W : World} {lo hi : Int} : PutAt L W (.func (.func 88) #[] #[]) 0 (intK lo hi) := by
  refine ⟨_, _, rfl, enters_of Tryz.func88 (by kernel_rfl) rfl, ?_⟩
  rintro w hb g o vs d hr ⟨z, hz1, hz2, rfl, rfl⟩ _
  have c3 : w.cell? ⟨g, o, none⟩ = some (.int .i64 z) := hr.cell
  clear hb hr
  go_enter Tryz.func88, Tryz.ntmps88
  go_wp2_with fail
  refine (putNum_any none 0 0 0 [] (u64N z) _ (by rw [u64N_eq]; rfl) (u64N_lt z) rfl w (Lies.empty _ _ _) (Nat.zero_le _) (by simp)).mono ?_
  rintro e w1 ⟨v, rfl, ho, hb1⟩
  have HO := Lib.hid ho
  have HB := Lib.hid hb1
  clear ho hb1
  go_wp2
  go_ret
  exact ⟨_, rfl, HO.out, HB.out⟩
set_option maxHeartbeats 1200000 in
theorem wholeI_g {L : Nat} {W : World} {lo hi : Int} : GetAt L W (.func (.func 89) #[] #[]) 0 (intK lo hi) := by
  refine ⟨_, _, rfl, enters_of Tryz.func89 (by kernel_rfl) rfl, ?_⟩
  intro w hb g o cs ty B A n c at_ b hg hrow hsz hz hn hnc hm hr hBg hat
  have hnum := num_in A n c at_ B b hn hnc hat hm w hr
  have hgs := row_lt hrow
  have hfac := numR_facts (b.drop at_)
  have hget : (intK lo hi).get (b.drop at_) = if (numR (b.drop at_)).2.2 ≠ 0 then none else some (.lit (.int .i64 (wrap64 ((numR (b.drop at_)).1 : Nat))), (numR (b.drop at_)).2.1) := rfl
  have hcs : cs[o + 0]? = some (.int .i64 0) := zero_one hz
  have hol : o < cs.length := (List.getElem?_eq_some_iff.1 hcs).1
  generalize numR (b.drop at_) = N at hnum hget hfac
  obtain ⟨v, used, er⟩ := N
  have hnum2 : Calls Tryz.prog 83 #[.slice A n c, .int .i64 (at_ : Nat)] w (GivesN v (nextI at_ used er) (er : Int) w) := hnum
  simp only at hget hfac
  have HNUM := Lib.hid hnum2
  have HROW := Lib.hid hrow
  have HOL := Lib.hid hol
  clear hnum hnum2 hrow hr hb hz hcs hn hnc hm hat hsz hol
  by_cases he : er = 0
  · subst he
    have hg2 : (intK lo hi).get (b.drop at_) = some (.lit (.int .i64 (wrap64 (v : Nat))), used) := by rw [hget, if_neg (by simp)]
    have hv : v < 18446744073709551616 := (hfac rfl).2
    have HG2 := Lib.hid hg2
    have HV := Lib.hid hv
    have hnx : nextI at_ used 0 = ((at_ + used : Nat) : Int) := by rw [nextI_ok]; omega
    have HNX := Lib.hid hnx
    clear hg2 hget hfac hnx hv
    go_enter Tryz.func89, Tryz.ntmps89
    go_wp2_with fail
    refine HNUM.out.mono ?_
    rintro e w1 ⟨rfl, hb1⟩
    have hrow1 := (hb1.block g hgs).trans HROW.out
    have hf1 : w1.frozen? ⟨g, o, none⟩ = false := frozen_of_row w1 g o _ _ hrow1
    have hc1 : w1.cell? ⟨g, o, none⟩ = some (cs[o]'HOL.out) := cell_row hrow1 (List.getElem?_eq_getElem HOL.out)
    have HROW1 := Lib.hid hrow1
    have HB1 := Lib.hid hb1
    clear hrow1 hb1
    rw [HNX.out]
    go_wp2
    obtain ⟨w2, hw2⟩ : ∃ x, x = w1.setCell ⟨g, o, none⟩ (.int .i64 (wrap64 (v : Nat))) := ⟨_, rfl⟩
    rw [← hw2]
    have hrow2 : w2.heap[g]? = some (.cells (splice cs o [.int .i64 (wrap64 (v : Nat))]).toArray ty (0, 0)) := by
      rw [hw2, heap_setCell_same w1 g o _ _ _ HROW1.out, set_splice _ HOL.out]
    have hg2 : w.grownBy w2 (some g) := by rw [hw2]; exact grown_trans (grown_of_below HB1.out _) (grown_set g o _)
    have c4 : w2.cell? ⟨g, o, none⟩ = some (.int .i64 (wrap64 (v : Nat))) := by rw [hw2]; exact cell_set HROW1.out HOL.out _
    have hveq := wrap_eq HV.out
    have HROW2 := Lib.hid hrow2
    have HGR2 := Lib.hid hg2
    clear hw2 hrow2 hg2 hf1 hc1
    go_quiet (fail)
    go_wp2
    go_ret2
    exact Got.ofSome HG2.out ⟨grown_drewN HGR2.out _, _, HROW2.out, _, wrap_lo v, wrap_hi v, rfl, rfl⟩
  · have heb : ((er : Int) == 0) = false := by rw [beq_eq_false_iff_ne]; omega
    have hg2 : (intK lo hi).get (b.drop at_) = none := by rw [hget, if_pos he]
    have HG2 := Lib.hid hg2
    obtain ⟨nx, hnx⟩ : ∃ nx, nextI at_ used er = nx := ⟨_, rfl⟩
    have hnum3 := HNUM.out
    rw [hnx] at hnum3
    have HNUM3 := Lib.hid hnum3
    clear hg2 hget hfac hnum3 hnx
    go_enter Tryz.func89, Tryz.ntmps89
    go_wp2_with fail
    refine HNUM3.out.mono ?_
    rintro e w1 ⟨rfl, hb1⟩
    have hrow1 := (hb1.block g hgs).trans HROW.out
    have hf1 : w1.frozen? ⟨g, o, none⟩ = false := frozen_of_row w1 g o _ _ hrow1
    have hc1 : w1.cell? ⟨g, o, none⟩ = some (cs[o]'HOL.out) := cell_row hrow1 (List.getElem?_eq_getElem HOL.out)
    have HB1 := Lib.hid hb1
    clear hrow1 hb1
    go_wp2
    obtain ⟨w2, hw2⟩ : ∃ x, x = w1.setCell ⟨g, o, none⟩ (.int .i64 (wrap64 (v : Nat))) := ⟨_, rfl⟩
    rw [← hw2]
    have hg2 : w.grownBy w2 (some g) := by rw [hw2]; exact grown_trans (grown_of_below HB1.out _) (grown_set g o _)
    have HGR2 := Lib.hid hg2
    clear hw2 hg2 hf1 hc1
    go_quiet (fail)
    go_wp2
    go_ret2
    exact Got.ofNone HG2.out (grown_drewN HGR2.out _)
end Go.Proofs.YtdbaajgkcjpnoaaGreat.Kd

/-! Kinds of signed numbers: what their closures do. Written by genn.py. -/
namespace Go.Proofs.YtdbaajgkcjpnoaaGreat.Kd
open Go.RowKit By CoP Co Mo

set_option maxHeartbeats 400000 in
theorem wholeL_s {L : Nat} {W : World} {bl bm : Nat} {lo hi : Int} {t1 t2 : TypeId} (hL1 : L ≤ bl) (hL2 : L ≤ bm) (h1 : W.heap[bl]? = some (.cells #[.int .i64 lo] t1 (0, 0))) (h2 : W.heap[bm]? = some (.cells #[.int .i64 hi] t2 (0, 0))) :
    SoundAt L W (.func (.func 93) #[] #[.pointer (some ⟨bl, 0, none⟩), .pointer (some ⟨bm, 0, none⟩)]) 0 (intK lo hi) := by
  refine ⟨_, _, rfl, enters_of Tryz.func93 (by kernel_rfl) rfl, ?_⟩
  rintro w hb g o vs d hr ⟨z, hz1, hz2, rfl, rfl⟩
  have c1 : w.cell? ⟨bl, 0, none⟩ = some (.int .i64 lo) := by rw [cell_of_row w bl 0 _ _ _ ((hb.block bl hL1 (row_lt h1)).trans h1)]; rfl
  have c2 : w.cell? ⟨bm, 0, none⟩ = some (.int .i64 hi) := by rw [cell_of_row w bm 0 _ _ _ ((hb.block bm hL2 (row_lt h2)).trans h2)]; rfl
  have c3 : w.cell? ⟨g, o, none⟩ = some (.int .i64 z) := hr.cell
  have hs : (intK lo hi).sound (.lit (.int .i64 z)) = (decide (lo ≤ z) && decide (z ≤ hi)) := rfl
  rw [hs]
  clear hs h1 h2 hr hb hz1 hz2
  by_cases ha : lo ≤ z
  · by_cases hz : z ≤ hi
    · have e : (decide (lo ≤ z) && decide (z ≤ hi)) = true := by simp [ha, hz]
      rw [e]
      clear e
      go_enter Tryz.func93, Tryz.ntmps93
      go_wp2
      go_quiet (fail)
      go_wp2
      go_ret
      exact ⟨rfl, below_drewN (Below.refl _ _) _⟩
    · have e : (decide (lo ≤ z) && decide (z ≤ hi)) = false := by simp [hz]
      have hz' : decide (z ≤ hi) = false := by simp [hz]
      rw [e]
      clear e
      go_enter Tryz.func93, Tryz.ntmps93
      go_wp2
      go_quiet (fail)
      go_wp2
      go_ret
      exact ⟨rfl, below_drewN (Below.refl _ _) _⟩
  · have e : (decide (lo ≤ z) && decide (z ≤ hi)) = false := by simp [ha]
    have ha' : decide (lo ≤ z) = false := by simp [ha]
    rw [e]
    clear e
    go_enter Tryz.func93, Tryz.ntmps93
    go_wp2
    go_quiet (fail)
    go_wp2
    go_ret
    exact ⟨rfl, below_drewN (Below.refl _ _) _⟩
set_option maxHeartbeats 400000 in
theorem wholeL_p {L : Nat} {W : World} {lo hi : Int} : PutAt L W (.func (.func 94) #[] #[]) 0 (intK lo hi) := by
  refine ⟨_, _, rfl, enters_of Tryz.func94 (by kernel_rfl) rfl, ?_⟩
  rintro w hb g o vs d hr ⟨z, hz1, hz2, rfl, rfl⟩ _
  have c3 : w.cell? ⟨g, o, none⟩ = some (.int .i64 z) := hr.cell
  clear hb hr
  go_enter Tryz.func94, Tryz.ntmps94
  go_wp2_with fail
  refine (putNum_any none 0 0 0 [] (u64N z) _ (by rw [u64N_eq]; rfl) (u64N_lt z) rfl w (Lies.empty _ _ _) (Nat.zero_le _) (by simp)).mono ?_
  rintro e w1 ⟨v, rfl, ho, hb1⟩
  have HO := Lib.hid ho
  have HB := Lib.hid hb1
  clear ho hb1
  go_wp2
  go_ret
  exact ⟨_, rfl, HO.out, HB.out⟩
set_option maxHeartbeats 1200000 in
theorem wholeL_g {L : Nat} {W : World} {lo hi : Int} : GetAt L W (.func (.func 95) #[] #[]) 0 (intK lo hi) := by
  refine ⟨_, _, rfl, enters_of Tryz.func95 (by kernel_rfl) rfl, ?_⟩
  intro w hb g o cs ty B A n c at_ b hg hrow hsz hz hn hnc hm hr hBg hat
  have hnum := num_in A n c at_ B b hn hnc hat hm w hr
  have hgs := row_lt hrow
  have hfac := numR_facts (b.drop at_)
  have hget : (intK lo hi).get (b.drop at_) = if (numR (b.drop at_)).2.2 ≠ 0 then none else some (.lit (.int .i64 (wrap64 ((numR (b.drop at_)).1 : Nat))), (numR (b.drop at_)).2.1) := rfl
  have hcs : cs[o + 0]? = some (.int .i64 0) := zero_one hz
  have hol : o < cs.length := (List.getElem?_eq_some_iff.1 hcs).1
  generalize numR (b.drop at_) = N at hnum hget hfac
  obtain ⟨v, used, er⟩ := N
  have hnum2 : Calls Tryz.prog 83 #[.slice A n c, .int .i64 (at_ : Nat)] w (GivesN v (nextI at_ used er) (er : Int) w) := hnum
  simp only at hget hfac
  have HNUM := Lib.hid hnum2
  have HROW := Lib.hid hrow
  have HOL := Lib.hid hol
  clear hnum hnum2 hrow hr hb hz hcs hn hnc hm hat hsz hol
  by_cases he : er = 0
  · subst he
    have hg2 : (intK lo hi).get (b.drop at_) = some (.lit (.int .i64 (wrap64 (v : Nat))), used) := by rw [hget, if_neg (by simp)]
    have hv : v < 18446744073709551616 := (hfac rfl).2
    have HG2 := Lib.hid hg2
    have HV := Lib.hid hv
    have hnx : nextI at_ used 0 = ((at_ + used : Nat) : Int) := by rw [nextI_ok]; omega
    have HNX := Lib.hid hnx
    clear hg2 hget hfac hnx hv
    go_enter Tryz.func95, Tryz.ntmps95
    go_wp2_with fail
    refine HNUM.out.mono ?_
    rintro e w1 ⟨rfl, hb1⟩
    have hrow1 := (hb1.block g hgs).trans HROW.out
    have hf1 : w1.frozen? ⟨g, o, none⟩ = false := frozen_of_row w1 g o _ _ hrow1
    have hc1 : w1.cell? ⟨g, o, none⟩ = some (cs[o]'HOL.out) := cell_row hrow1 (List.getElem?_eq_getElem HOL.out)
    have HROW1 := Lib.hid hrow1
    have HB1 := Lib.hid hb1
    clear hrow1 hb1
    rw [HNX.out]
    go_wp2
    obtain ⟨w2, hw2⟩ : ∃ x, x = w1.setCell ⟨g, o, none⟩ (.int .i64 (wrap64 (v : Nat))) := ⟨_, rfl⟩
    rw [← hw2]
    have hrow2 : w2.heap[g]? = some (.cells (splice cs o [.int .i64 (wrap64 (v : Nat))]).toArray ty (0, 0)) := by
      rw [hw2, heap_setCell_same w1 g o _ _ _ HROW1.out, set_splice _ HOL.out]
    have hg2 : w.grownBy w2 (some g) := by rw [hw2]; exact grown_trans (grown_of_below HB1.out _) (grown_set g o _)
    have c4 : w2.cell? ⟨g, o, none⟩ = some (.int .i64 (wrap64 (v : Nat))) := by rw [hw2]; exact cell_set HROW1.out HOL.out _
    have hveq := wrap_eq HV.out
    have HROW2 := Lib.hid hrow2
    have HGR2 := Lib.hid hg2
    clear hw2 hrow2 hg2 hf1 hc1
    go_quiet (fail)
    go_wp2
    go_ret2
    exact Got.ofSome HG2.out ⟨grown_drewN HGR2.out _, _, HROW2.out, _, wrap_lo v, wrap_hi v, rfl, rfl⟩
  · have heb : ((er : Int) == 0) = false := by rw [beq_eq_false_iff_ne]; omega
    have hg2 : (intK lo hi).get (b.drop at_) = none := by rw [hget, if_pos he]
    have HG2 := Lib.hid hg2
    obtain ⟨nx, hnx⟩ : ∃ nx, nextI at_ used er = nx := ⟨_, rfl⟩
    have hnum3 := HNUM.out
    rw [hnx] at hnum3
    have HNUM3 := Lib.hid hnum3
    clear hg2 hget hfac hnum3 hnx
    go_enter Tryz.func95, Tryz.ntmps95
    go_wp2_with fail
    refine HNUM3.out.mono ?_
    rintro e w1 ⟨rfl, hb1⟩
    have hrow1 := (hb1.block g hgs).trans HROW.out
    have hf1 : w1.frozen? ⟨g, o, none⟩ = false := frozen_of_row w1 g o _ _ hrow1
    have hc1 : w1.cell? ⟨g, o, none⟩ = some (cs[o]'HOL.out) := cell_row hrow1 (List.getElem?_eq_getElem HOL.out)
    have HB1 := Lib.hid hb1
    clear hrow1 hb1
    go_wp2
    obtain ⟨w2, hw2⟩ : ∃ x, x = w1.setCell ⟨g, o, none⟩ (.int .i64 (wrap64 (v : Nat))) := ⟨_, rfl⟩
    rw [← hw2]
    have hg2 : w.grownBy w2 (some g) := by rw [hw2]; exact grown_trans (grown_of_below HB1.out _) (grown_set g o _)
    have HGR2 := Lib.hid hg2
    clear hw2 hg2 hf1 hc1
    go_quiet (fail)
    go_wp2
    go_ret2
    exact Got.ofNone HG2.out (grown_drewN HGR2.out _)
end Go.Proofs.YtdbaajgkcjpnoaaGreat.Kd
