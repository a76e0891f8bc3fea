/- Kinds of truths, of bytes and of texts: what their closures do. | Lists of bytes as a kind: what its closures do. Written by genrun.py. | Texts as a kind: what its closures do. Written by genrun.py. -/
import Derived.Test.YtdbaajgkcjpnoaaGreatGC
import Derived.Test.YtdbaajgkcjpnoaaGreatGE
import Derived.Test.YtdbaajgkcjpnoaaGreatGB
import Derived.Deep.QuietTactic
import Derived.BigQuiet
import Derived.Lib.ConvBytes
/-! Kinds of truths, of bytes and of texts: what their closures do. -/
namespace Go.Proofs.YtdbaajgkcjpnoaaGreat.Kd
open Go.RowKit By CoP Co Mo

end Go.Proofs.YtdbaajgkcjpnoaaGreat.Kd

/-! Lists of bytes as a kind: what its closures do. Written by genrun.py. -/
namespace Go.Proofs.YtdbaajgkcjpnoaaGreat.Kd
open Go.RowKit By CoP Co Mo

theorem bytesR_bad (b : List UInt8) : (bytesR b).2.2 ≠ 0 → (bytesR b).1 = [] := by
  intro h
  by_cases h1 : (numR b).2.2 = 0
  · by_cases h2 : b.length - (numR b).2.1 < (numR b).1
    · simp [bytesR, h1, h2]
    · simp [bytesR, h1, h2] at h
  · simp [bytesR, h1]
theorem bytesR_len (b : List UInt8) : (bytesR b).1.length ≤ b.length := by
  unfold bytesR
  split
  · simp
  · split
    · simp
    · simp only [List.length_take, List.length_drop]; omega
theorem putBytes_len2 (l : List UInt8) : l.length ≤ (putBytes l).length := by
  unfold putBytes
  rw [List.length_append]
  omega
theorem splice_same {cs : List Value} {p : Nat} {v : Value} (h : cs[p]? = some v) : splice cs p [v] = cs := by
  obtain ⟨hp, rfl⟩ := List.getElem?_eq_some_iff.1 h
  unfold splice
  simp
set_option maxHeartbeats 400000 in
theorem runB_s {L : Nat} {W : World} {bm : Nat} {most : Int} {t1 : TypeId} (hL1 : L ≤ bm) (h1 : W.heap[bm]? = some (.cells #[.int .i64 most] t1 (0, 0))) :
    SoundAt L W (.func (.func 99) #[] #[.pointer (some ⟨bm, 0, none⟩)]) 0 (bytesK most) := by
  refine ⟨_, _, rfl, enters_of Tryz.func99 (by kernel_rfl) rfl, ?_⟩
  rintro w hb g o vs d hr ⟨A, c, l, rfl, rfl, hlc, hll, hli⟩
  have c1 : w.cell? ⟨bm, 0, none⟩ = some (.int .i64 most) := by rw [cell_of_row w bm 0 _ _ _ ((hb.block bm hL1 (row_lt h1)).trans h1)]; rfl
  have c3 : w.cell? ⟨g, o, none⟩ = some (.slice A l.length c) := hr.cell

  have hs : (bytesK most).sound (.lit (.string l)) = decide ((l.length : Int) ≤ most) := rfl
  rw [hs]
  have hl0 : (l.length : Int) ≤ 140737488355328 := by omega
  clear hs h1 hr hb hli hlc hll
  go_enter Tryz.func99, Tryz.ntmps99
  go_wp2
  go_quiet (fail)
  go_wp2
  go_ret
  exact ⟨rfl, below_drewN (Below.refl _ _) _⟩
set_option maxHeartbeats 800000 in
theorem runB_p {L : Nat} {W : World} {most : Int} : PutAt L W (.func (.func 100) #[] #[]) 0 (bytesK most) := by
  refine ⟨_, _, rfl, enters_of Tryz.func100 (by kernel_rfl) rfl, ?_⟩
  rintro w hb g o vs d hr ⟨A, c, l, rfl, rfl, hlc, hll, hli⟩ hlen
  have c3 : w.cell? ⟨g, o, none⟩ = some (.slice A l.length c) := hr.cell
  have hlen' : (putBytes l).length + 9 ≤ 140737488355328 := hlen
  have HL := Lib.hid hlen'
  have HL1 := Lib.hid (LiesL.one (w := w) c rfl hli.lies (Nat.le_refl _))
  clear hb hr hlen hlen' hli hlc hll
  go_enter Tryz.func100, Tryz.ntmps100
  go_wp2_with fail
  refine (putBytes_any none (some ⟨w.heap.size, 0, none⟩) 0 0 1 1 (w.heap.size + 1) [] [l] rfl rfl _ (Lies.empty _ _ _) HL1.out (by rw [World.size_alloc]; exact Nat.le_refl _) (by have := HL.out; simp only [putLists, List.flatMap_cons, List.flatMap_nil, List.append_nil, List.length_nil]; omega) (by omega)).mono ?_
  rintro e w1 ⟨v, rfl, ho, hb1⟩
  have HO := Lib.hid (ho.more (by rw [World.size_alloc]; exact Nat.le_succ _))
  have HB := Lib.hid (ext ((Below.refl w.heap.size w).alloc (Nat.le_refl _) _) hb1)
  clear ho hb1
  go_wp2
  go_ret
  refine ⟨_, rfl, ?_, HB.out⟩
  have h := HO.out
  simp only [putLists, List.flatMap_cons, List.flatMap_nil, List.append_nil, List.nil_append] at h
  exact h
set_option maxHeartbeats 1200000 in
theorem runB_g {L : Nat} {W : World} {most : Int} : GetAt L W (.func (.func 102) #[] #[]) 0 (bytesK most) := by
  refine ⟨_, _, rfl, enters_of Tryz.func102 (by kernel_rfl) rfl, ?_⟩
  intro w hb g o cs ty B A n c at_ b hg hrow hsz hz hn hnc hm hr hBg hat
  have hgs := row_lt hrow
  have hnum := bytes_in A n c at_ B b hn hnc hat hm w hr (by omega)
  have hfac := bytesR_used (b.drop at_)
  have hemp := bytesR_bad (b.drop at_)
  have hlenb := bytesR_len (b.drop at_)
  rw [List.length_drop] at hlenb
  have hget : (bytesK most).get (b.drop at_) = if (bytesR (b.drop at_)).2.2 ≠ 0 then none else some (.lit (.string (bytesR (b.drop at_)).1), (bytesR (b.drop at_)).2.1) := rfl
  have hcs : cs[o + 0]? = some (.slice none 0 0) := zero_one hz
  have hol : o < cs.length := (List.getElem?_eq_some_iff.1 hcs).1
  generalize bytesR (b.drop at_) = N at hnum hget hfac hemp hlenb
  obtain ⟨dl, used, er⟩ := N
  have hnum2 : Calls Tryz.prog 103 #[.slice A n c, .int .i64 (at_ : Nat)] w (Gives3 w.heap.size dl (nextI at_ used er) (er : Int) w) := hnum
  simp only at hget hfac hemp hlenb
  have hdl : dl.length ≤ 140737488355328 := by omega
  have HNUM := Lib.hid hnum2
  have HROW := Lib.hid hrow
  have HOL := Lib.hid hol
  have HCS := Lib.hid (show cs[o]? = some (.slice none 0 0) from hcs)
  have HDL := Lib.hid hdl
  clear hnum hnum2 hrow hr hb hz hcs hn hnc hm hat hsz hol hlenb hdl
  by_cases he : er = 0
  · subst he
    have hg2 : (bytesK most).get (b.drop at_) = some (.lit (.string dl), used) := by rw [hget, if_neg (by simp)]
    have HG2 := Lib.hid hg2
    have hnx : nextI at_ used 0 = ((at_ + used : Nat) : Int) := by rw [nextI_ok]; omega
    have HNX := Lib.hid hnx
    clear hg2 hget hfac hnx hemp
    by_cases hd0 : dl = []
    · subst hd0
      go_enter Tryz.func102, Tryz.ntmps102
      go_wp2_with fail
      refine HNUM.out.mono ?_
      rintro e w1 ⟨v1, rfl, ho1, hb1⟩
      obtain ⟨A1, c1, rfl, _, _, _, _, _⟩ := ho1.form
      have hrow1 := (hb1.block g hgs).trans HROW.out
      have HROW1 := Lib.hid hrow1
      have HB1 := Lib.hid hb1
      clear hrow1 hb1 ho1
      rw [HNX.out]
      go_wp2
      go_ret2
      refine Got.ofSome HG2.out ⟨grown_of_below HB1.out _, [.slice none 0 0], ?_, none, 0, [], rfl, rfl, Nat.le_refl _, by simp, fun h => absurd h (by simp)⟩
      rw [Nat.add_zero, splice_same HCS.out]
      exact HROW1.out
    · have hpos : 0 < dl.length := List.length_pos_iff.2 hd0
      have hposi : (0 : Int) < (dl.length : Int) := by omega
      clear hd0
      go_enter Tryz.func102, Tryz.ntmps102
      go_wp2_with fail
      refine HNUM.out.mono ?_
      rintro e w1 ⟨v1, rfl, ho1, hb1⟩
      obtain ⟨A1, c1, rfl, hlc1, _, _, hr1, _⟩ := ho1.form
      have hrow1 := (hb1.block g hgs).trans HROW.out
      have hf1 : w1.frozen? ⟨g, o, none⟩ = false := frozen_of_row w1 g o _ _ hrow1
      have hc1 : w1.cell? ⟨g, o, none⟩ = some (cs[o]'HOL.out) := cell_row hrow1 (List.getElem?_eq_getElem HOL.out)

      have HROW1 := Lib.hid hrow1
      have HB1 := Lib.hid hb1
      have HO1 := Lib.hid ho1
      clear hrow1 hb1 ho1 hr1
      rw [HNX.out]
      go_wp2
      go_ret2
      refine Got.ofSome HG2.out ⟨grown_trans (grown_of_below HB1.out _) (grown_set g o _), [.slice A1 dl.length c1], ?_, A1, c1, dl, rfl, rfl, hlc1, HDL.out, LiesS.ownF (ownsRow_setCell_below HO1.out hgs _)⟩
      rw [heap_setCell_same w1 g o _ _ _ HROW1.out, set_splice _ HOL.out]
      rfl
  · have heb : ((er : Int) == 0) = false := by rw [beq_eq_false_iff_ne]; omega
    have hg2 : (bytesK most).get (b.drop at_) = none := by rw [hget, if_pos he]
    have HG2 := Lib.hid hg2
    obtain ⟨nx, hnx⟩ : ∃ nx, nextI at_ used er = nx := ⟨_, rfl⟩
    have hd0 := hemp he
    subst hd0
    have hnum3 := HNUM.out
    rw [hnx] at hnum3
    have HNUM3 := Lib.hid hnum3
    clear hg2 hget hfac hnum3 hnx hemp
    go_enter Tryz.func102, Tryz.ntmps102
    go_wp2_with fail
    refine HNUM3.out.mono ?_
    rintro e w1 ⟨v1, rfl, ho1, hb1⟩
    obtain ⟨A1, c1, rfl, _, _, _, _, _⟩ := ho1.form
    have HB1 := Lib.hid hb1
    clear hb1 ho1
    go_wp2
    go_ret2
    exact Got.ofNone HG2.out (grown_of_below HB1.out _)
end Go.Proofs.YtdbaajgkcjpnoaaGreat.Kd

/-! Texts as a kind: what its closures do. Written by genrun.py. -/
namespace Go.Proofs.YtdbaajgkcjpnoaaGreat.Kd
open Go.RowKit By CoP Co Mo

end Go.Proofs.YtdbaajgkcjpnoaaGreat.Kd
