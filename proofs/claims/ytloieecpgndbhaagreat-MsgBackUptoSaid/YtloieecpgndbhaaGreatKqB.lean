/- The law MsgBack, walked: whatever comes in, not too much. Written by genback.py. -/
import Derived.Test.YtloieecpgndbhaaGreatKqA
import Derived.Test.YtloieecpgndbhaaGreatKrB
import Derived.Test.YtloieecpgndbhaaGreatKpB
import Derived.Test.YtloieecpgndbhaaGreatKpE
import Derived.Test.YtloieecpgndbhaaGreatKpD
import Derived.Test.YtloieecpgndbhaaGreatGN
import Derived.Deep.DeepCutAuto
namespace Go.Proofs.YtloieecpgndbhaaGreat.Kd
open Go.RowKit By CoP Co Mo

theorem list14 {l : List Value} (h : l.length = 14) : ∃ y0 y1 y2 y3 y4 y5 y6 y7 y8 y9 y10 y11 y12 y13 : Value, l = [y0, y1, y2, y3, y4, y5, y6, y7, y8, y9, y10, y11, y12, y13] := by
  match l, h with
  | [y0, y1, y2, y3, y4, y5, y6, y7, y8, y9, y10, y11, y12, y13], _ => exact ⟨_, _, _, _, _, _, _, _, _, _, _, _, _, _, rfl⟩
theorem ReadsK.good {k : Kd} (hok : k.Ok) {b : List UInt8} {d : Data} {w w' : World} {e : Ending} (h : ReadsK k b w e w') (hg : k.get b = some (d, b.length)) (hs : k.sound d = true) : ∃ (vs : Array Value), e = .returned (.tuple #[.agg vs, .int .i64 0]) ∧ vs.size = k.zero.length ∧ vs.all (·.oneCell') = true ∧ k.rep w' (New w w') vs.toList d ∧ Below w.heap.size w w' := by
  obtain ⟨hb, ⟨d', vs, h1, _, rfl, hr⟩ | ⟨hno, _⟩⟩ := h
  · rw [hg] at h1
    injection h1 with h1
    injection h1 with h1 _
    subst h1
    refine ⟨vs, rfl, ?_, ?_, hr, hb⟩
    · have := hok.len hr
      rw [Array.length_toList] at this
      exact this
    · rw [Array.all_eq_true_iff_forall_mem]
      intro v hv
      exact hok.one hr v (by simpa using hv)
  · exact absurd ⟨hg, hs⟩ (hno d)
theorem ReadsK.bad {k : Kd} (hok : k.Ok) {b : List UInt8} {w w' : World} {e : Ending} (h : ReadsK k b w e w') (hn : ∀ d, ¬ (k.get b = some (d, b.length) ∧ k.sound d = true)) : ∃ (vs : Array Value), e = .returned (.tuple #[.agg vs, .int .i64 4]) ∧ vs.size = k.zero.length ∧ vs.all (·.oneCell') = true ∧ Below w.heap.size w w' := by
  obtain ⟨hb, ⟨d', vs, h1, h2, _⟩ | ⟨_, rfl⟩⟩ := h
  · exact absurd ⟨h1, h2⟩ (hn d')
  · refine ⟨k.zero.toArray, rfl, by simp, ?_, hb⟩
    rw [Array.all_eq_true_iff_forall_mem]
    intro v hv
    exact hok.zone v (by simpa using hv)
set_option maxRecDepth 100000 in
set_option maxHeartbeats 8000000 in
theorem msgBack_walk (w : World) (m0 m1 m2 m3 m4 m5 m6 m7 m8 m9 m10 m11 m12 m13 : Value) (d : Data) (r : msgK.rep w (Old w) [m0, m1, m2, m3, m4, m5, m6, m7, m8, m9, m10, m11, m12, m13] d) (s : (msgK.put d).length ≤ 9437184) (cut : Int) (u0 : 0 ≤ cut) (u1 : cut ≤ 65535) (mo : UInt8) :
    Calls Tryz.prog 8 #[.agg #[m0, m1, m2, m3, m4, m5, m6, m7, m8, m9, m10, m11, m12, m13], .int .u16 cut, .int .u8 (mo.toNat : Int)] w (True_ w) := by
  have hb0 : Below w.heap.size w (w.alloc (.cells #[m0, m1, m2, m3, m4, m5, m6, m7, m8, m9, m10, m11, m12, m13] 55)) := (Below.refl _ _).alloc (Nat.le_refl _) _
  have hrow := heap_alloc_new w (.cells #[m0, m1, m2, m3, m4, m5, m6, m7, m8, m9, m10, m11, m12, m13] 55)
  obtain ⟨W, hW⟩ : ∃ W, W = (w.alloc (.cells #[m0, m1, m2, m3, m4, m5, m6, m7, m8, m9, m10, m11, m12, m13] 55)) := ⟨_, rfl⟩
  have hm0 : (w.alloc (.cells #[m0, m1, m2, m3, m4, m5, m6, m7, m8, m9, m10, m11, m12, m13] 55)).cell? ⟨w.heap.size, 0, none⟩ = some m0 := by rw [cell_of_row _ w.heap.size 0 _ _ _ hrow]; rfl
  have hm1 : (w.alloc (.cells #[m0, m1, m2, m3, m4, m5, m6, m7, m8, m9, m10, m11, m12, m13] 55)).cell? ⟨w.heap.size, 1, none⟩ = some m1 := by rw [cell_of_row _ w.heap.size 1 _ _ _ hrow]; rfl
  have hm2 : (w.alloc (.cells #[m0, m1, m2, m3, m4, m5, m6, m7, m8, m9, m10, m11, m12, m13] 55)).cell? ⟨w.heap.size, 2, none⟩ = some m2 := by rw [cell_of_row _ w.heap.size 2 _ _ _ hrow]; rfl
  have hm3 : (w.alloc (.cells #[m0, m1, m2, m3, m4, m5, m6, m7, m8, m9, m10, m11, m12, m13] 55)).cell? ⟨w.heap.size, 3, none⟩ = some m3 := by rw [cell_of_row _ w.heap.size 3 _ _ _ hrow]; rfl
  have hm4 : (w.alloc (.cells #[m0, m1, m2, m3, m4, m5, m6, m7, m8, m9, m10, m11, m12, m13] 55)).cell? ⟨w.heap.size, 4, none⟩ = some m4 := by rw [cell_of_row _ w.heap.size 4 _ _ _ hrow]; rfl
  have hm5 : (w.alloc (.cells #[m0, m1, m2, m3, m4, m5, m6, m7, m8, m9, m10, m11, m12, m13] 55)).cell? ⟨w.heap.size, 5, none⟩ = some m5 := by rw [cell_of_row _ w.heap.size 5 _ _ _ hrow]; rfl
  have hm6 : (w.alloc (.cells #[m0, m1, m2, m3, m4, m5, m6, m7, m8, m9, m10, m11, m12, m13] 55)).cell? ⟨w.heap.size, 6, none⟩ = some m6 := by rw [cell_of_row _ w.heap.size 6 _ _ _ hrow]; rfl
  have hm7 : (w.alloc (.cells #[m0, m1, m2, m3, m4, m5, m6, m7, m8, m9, m10, m11, m12, m13] 55)).cell? ⟨w.heap.size, 7, none⟩ = some m7 := by rw [cell_of_row _ w.heap.size 7 _ _ _ hrow]; rfl
  have hm8 : (w.alloc (.cells #[m0, m1, m2, m3, m4, m5, m6, m7, m8, m9, m10, m11, m12, m13] 55)).cell? ⟨w.heap.size, 8, none⟩ = some m8 := by rw [cell_of_row _ w.heap.size 8 _ _ _ hrow]; rfl
  have hm9 : (w.alloc (.cells #[m0, m1, m2, m3, m4, m5, m6, m7, m8, m9, m10, m11, m12, m13] 55)).cell? ⟨w.heap.size, 9, none⟩ = some m9 := by rw [cell_of_row _ w.heap.size 9 _ _ _ hrow]; rfl
  have hm10 : (w.alloc (.cells #[m0, m1, m2, m3, m4, m5, m6, m7, m8, m9, m10, m11, m12, m13] 55)).cell? ⟨w.heap.size, 10, none⟩ = some m10 := by rw [cell_of_row _ w.heap.size 10 _ _ _ hrow]; rfl
  have hm11 : (w.alloc (.cells #[m0, m1, m2, m3, m4, m5, m6, m7, m8, m9, m10, m11, m12, m13] 55)).cell? ⟨w.heap.size, 11, none⟩ = some m11 := by rw [cell_of_row _ w.heap.size 11 _ _ _ hrow]; rfl
  have hm12 : (w.alloc (.cells #[m0, m1, m2, m3, m4, m5, m6, m7, m8, m9, m10, m11, m12, m13] 55)).cell? ⟨w.heap.size, 12, none⟩ = some m12 := by rw [cell_of_row _ w.heap.size 12 _ _ _ hrow]; rfl
  have hm13 : (w.alloc (.cells #[m0, m1, m2, m3, m4, m5, m6, m7, m8, m9, m10, m11, m12, m13] 55)).cell? ⟨w.heap.size, 13, none⟩ = some m13 := by rw [cell_of_row _ w.heap.size 13 _ _ _ hrow]; rfl
  rw [← hW] at hrow hb0
  have HR := Lib.hid (msgK_ok.below r hb0)
  have HS := Lib.hid s
  have HW := Lib.hid hrow
  have HB := Lib.hid hb0
  clear hb0 hrow r s
  go_enter Tryz.func8, Tryz.ntmps8
  go_wp2_with fail
  rw [← hW]
  clear hW hm0 hm1 hm2 hm3 hm4 hm5 hm6 hm7 hm8 hm9 hm10 hm11 hm12 hm13
  refine (ownMsg_any (d := d) (xs := [m0, m1, m2, m3, m4, m5, m6, m7, m8, m9, m10, m11, m12, m13]) _ HR.out HS.out).mono ?_
  rintro e u1' ⟨vo, rfl, hre, hbu⟩
  have hreo := msgK_ok.keep hre (S' := Old u1') (fun _ _ => rfl) (fun b hb => hb.2)
  have HRE := Lib.hid hreo
  replace HR := Lib.hid (msgK_ok.below HR.out hbu)
  replace HW := Lib.hid ((hbu.block _ (row_lt HW.out)).trans HW.out)
  replace HB := Lib.hid (ext HB.out hbu)
  have hvl := msgK_ok.len hreo
  have HVL := Lib.hid hvl
  clear hbu hre hreo hvl
  go_wp2_with fail
  refine (msgMsg_any (xs := vo.toList) (d := d) _ HVL.out HRE.out (fun _ => by have := HS.out; omega)).mono ?_
  rintro e w1 ⟨hb1, ⟨hs, v, rfl, ho⟩ | ⟨hs, rfl⟩⟩
  case inr =>
    replace HR := Lib.hid (msgK_ok.below HR.out hb1)
    replace HW := Lib.hid ((hb1.block _ (row_lt HW.out)).trans HW.out)
    replace HB := Lib.hid (ext HB.out hb1)
    clear HVL HRE hs hb1
    go_wp2_with fail
    refine (answers3_yes _).mono ?_
    rintro e w2 ⟨rfl, hb⟩
    replace HB := Lib.hid (ext HB.out hb)
    clear hb
    go_wp2_with fail
    refine (answers3_yes _).mono ?_
    rintro e w3 ⟨rfl, hb⟩
    replace HB := Lib.hid (ext HB.out hb)
    clear hb
    go_wp2
    go_ret
    exact ⟨rfl, HB.out⟩
  case inl =>
    replace HR := Lib.hid (msgK_ok.below HR.out hb1)
    replace HW := Lib.hid ((hb1.block _ (row_lt HW.out)).trans HW.out)
    replace HB := Lib.hid (ext HB.out hb1)
    have HFI := Lib.hid (sure_msg HR.out hs)
    have HSD := Lib.hid hs
    obtain ⟨B, bc, rfl, hbc, _, _, hrb, _⟩ := ho.form
    have HRB := Lib.hid hrb
    have hpos := msg_put_pos HFI.out
    obtain ⟨nb, hnb⟩ : ∃ nb, (msgK.put d).length = nb := ⟨_, rfl⟩
    have hsm := HS.out
    rw [hnb] at hpos hbc hsm ⊢
    have HNB := Lib.hid hnb.symm
    have z1 : ((nb : Int) == 0) = false := by rw [beq_eq_false_iff_ne]; omega
    have z2 : (nb == 0) = false := by rw [beq_eq_false_iff_ne]; omega
    clear HVL HRE hs hb1 ho hrb hnb
    go_wp2_with fail
    refine (answers3_yes _).mono ?_
    rintro e w2 ⟨rfl, hb⟩
    replace HR := Lib.hid (msgK_ok.below HR.out hb)
    replace HW := Lib.hid ((hb.block _ (row_lt HW.out)).trans HW.out)
    replace HB := Lib.hid (ext HB.out hb)
    replace HRB := Lib.hid (lext HRB.out hb)
    clear hb
    have hoa := Own.made w2 w2.heap.size #[] 0 (Nat.le_refl _) (by decide) rfl
    go_wp2_with (at_builtin; refine wpList_app rfl (.tmp 38) (.tmp 39) rfl rfl hoa rfl HNB.out (HRB.out.alloc (Nat.le_refl _) (.cells #[] 5)) (by have := HNB.out; rw [List.length_nil]; omega) (by rw [World.size_alloc]; exact Nat.le_succ _) ?_)
    intro va w3 ho hbq _
    try rw [List.nil_append] at ho
    have hb := (((Below.refl w2.heap.size w2).alloc (Nat.le_refl _) (.cells #[] 5)).trans hbq)
    obtain ⟨A3, c3, rfl, hc3, _, _, hr3, _⟩ := ho.form
    rw [← HNB.out] at hc3 ⊢
    have H3 := Lib.hid hr3
    replace HR := Lib.hid (msgK_ok.below HR.out hb)
    replace HW := Lib.hid ((hb.block _ (row_lt HW.out)).trans HW.out)
    replace HB := Lib.hid (ext HB.out hb)
    replace HRB := Lib.hid (lext HRB.out hb)
    clear hb hbq ho hoa hr3
    go_wp2_with fail
    refine (msgToMsg_any _ HNB.out hc3 (by omega) H3.out).mono ?_
    rintro e w4 hrd
    obtain ⟨vs, rfl, hv1, hv2, hrx, hb⟩ := ReadsK.good msgK_ok hrd (msgK_laws.whole HFI.out) HSD.out
    have HX := Lib.hid (msgK_ok.keep hrx (S' := Old w4) (fun _ _ => rfl) (fun b hb => hb.2))
    have HI := Lib.hid (show (Tryz.prog.info? 55).map (·.size) = some vs.size by rw [hv1]; exact xt_Msg.i)
    have HV1 := Lib.hid (show (#[.int .i64 0, .int .i64 0, .int .i64 0, .int .u64 0, .int .u64 0, .int .u64 0, .int .u64 0, .int .u64 0, .bool false, .slice none 0 0, .slice none 0 0, .slice none 0 0, .int .i64 0, .slice none 0 0] : Array Value).size = vs.size by rw [hv1]; rfl)
    have HV2 := Lib.hid hv2
    have HVX := Lib.hid (show vs.toList.length = 14 by rw [Array.length_toList, hv1]; rfl)
    replace HR := Lib.hid (msgK_ok.below HR.out hb)
    replace HW := Lib.hid ((hb.block _ (row_lt HW.out)).trans HW.out)
    replace HB := Lib.hid (ext HB.out hb)
    replace HRB := Lib.hid (lext HRB.out hb)
    clear hrd hv1 hv2 hrx hb H3
    have hb : Below w4.heap.size w4 ((w4.alloc (.cells #[.int .i64 0, .int .i64 0, .int .i64 0, .int .u64 0, .int .u64 0, .int .u64 0, .int .u64 0, .int .u64 0, .bool false, .slice none 0 0, .slice none 0 0, .slice none 0 0, .int .i64 0, .slice none 0 0] 55)).setRow w4.heap.size vs) := below_setRow ((Below.refl _ _).alloc (Nat.le_refl _) _) (Nat.le_refl _) _
    have HRX := Lib.hid (show ((w4.alloc (.cells #[.int .i64 0, .int .i64 0, .int .i64 0, .int .u64 0, .int .u64 0, .int .u64 0, .int .u64 0, .int .u64 0, .bool false, .slice none 0 0, .slice none 0 0, .slice none 0 0, .int .i64 0, .slice none 0 0] 55)).setRow w4.heap.size vs).heap[w4.heap.size]? = some (.cells vs 55 (0, 0)) from setRow_heap _ _ _ _ _ _ (heap_alloc_new w4 _))
    replace HR := Lib.hid (msgK_ok.below HR.out hb)
    replace HW := Lib.hid ((hb.block _ (row_lt HW.out)).trans HW.out)
    replace HB := Lib.hid (ext HB.out hb)
    replace HRB := Lib.hid (lext HRB.out hb)
    replace HX := Lib.hid (msgK_ok.below HX.out hb)
    clear hb
    go_upto_region 5 with (with_reducible refine wpList_store_row rfl 55 (.tmp 9) (.tmp 42) rfl w4.heap.size vs rfl rfl 55 #[.int .i64 0, .int .i64 0, .int .i64 0, .int .u64 0, .int .u64 0, .int .u64 0, .int .u64 0, .int .u64 0, .bool false, .slice none 0 0, .slice none 0 0, .slice none 0 0, .int .i64 0, .slice none 0 0] (heap_alloc_new w4 _) HI.out HV1.out HV2.out ?_)
    generalize (w4.alloc (.cells #[.int .i64 0, .int .i64 0, .int .i64 0, .int .u64 0, .int .u64 0, .int .u64 0, .int .u64 0, .int .u64 0, .bool false, .slice none 0 0, .slice none 0 0, .slice none 0 0, .int .i64 0, .slice none 0 0] 55)).setRow w4.heap.size vs = w5 at *
    generalize w4.heap.size = gx at *
    clear HI HV1 HV2
    obtain ⟨q, hq⟩ : ∃ q : Nat, cut % (nb : Int) = (q : Int) := ⟨(cut % (nb : Int)).toNat, by rw [Int.toNat_of_nonneg (Int.emod_nonneg _ (by omega))]⟩
    have hq1 : q < nb := by
      have : (q : Int) < (nb : Int) := by rw [← hq]; exact Int.emod_lt_of_pos _ (by omega)
      omega
    have hsc := fun w => run_to w B nb bc q (by omega)
    have HTK := Lib.hid (show q = ((msgK.put d).take q).length by rw [List.length_take, ← HNB.out]; omega)
    have HSH := Lib.hid (fun d' => msgK_laws.short HFI.out (q := q) (by rw [← HNB.out]; exact hq1) d')
    have hoa := Own.made w5 w5.heap.size #[] 0 (Nat.le_refl _) (by decide) rfl
    go_wp2_with (at_builtin; refine wpList_app rfl (.tmp 45) (.tmp 52) rfl rfl hoa rfl HTK.out ((lies_take HRB.out q).alloc (Nat.le_refl _) (.cells #[] 5)) (by have := HTK.out; rw [List.length_nil]; omega) (by rw [World.size_alloc]; exact Nat.le_succ _) ?_)
    intro vb w6 ho hbq _
    try rw [List.nil_append] at ho
    have hb := (((Below.refl w5.heap.size w5).alloc (Nat.le_refl _) (.cells #[] 5)).trans hbq)
    obtain ⟨A6, c6, rfl, hc6, _, _, hr6, _⟩ := ho.form
    rw [← HTK.out] at hc6 ⊢
    have H6 := Lib.hid hr6
    replace HR := Lib.hid (msgK_ok.below HR.out hb)
    replace HW := Lib.hid ((hb.block _ (row_lt HW.out)).trans HW.out)
    replace HB := Lib.hid (ext HB.out hb)
    replace HRB := Lib.hid (lext HRB.out hb)
    replace HX := Lib.hid (msgK_ok.below HX.out hb)
    replace HRX := Lib.hid ((hb.block _ (row_lt HRX.out)).trans HRX.out)
    clear hb hbq ho hoa hr6
    go_wp2_with fail
    refine (msgToMsg_any _ HTK.out hc6 (by omega) H6.out).mono ?_
    rintro e w7 hrd
    obtain ⟨us, rfl, hv1, hv2, hb⟩ := ReadsK.bad msgK_ok hrd HSH.out
    have HI := Lib.hid (show (Tryz.prog.info? 55).map (·.size) = some us.size by rw [hv1]; exact xt_Msg.i)
    have HV1 := Lib.hid (show (#[.int .i64 0, .int .i64 0, .int .i64 0, .int .u64 0, .int .u64 0, .int .u64 0, .int .u64 0, .int .u64 0, .bool false, .slice none 0 0, .slice none 0 0, .slice none 0 0, .int .i64 0, .slice none 0 0] : Array Value).size = us.size by rw [hv1]; rfl)
    have HV2 := Lib.hid hv2
    replace HR := Lib.hid (msgK_ok.below HR.out hb)
    replace HW := Lib.hid ((hb.block _ (row_lt HW.out)).trans HW.out)
    replace HB := Lib.hid (ext HB.out hb)
    replace HRB := Lib.hid (lext HRB.out hb)
    replace HX := Lib.hid (msgK_ok.below HX.out hb)
    replace HRX := Lib.hid ((hb.block _ (row_lt HRX.out)).trans HRX.out)
    clear hrd hv1 hv2 hb H6 hq hsc
    have hb : Below w7.heap.size w7 ((w7.alloc (.cells #[.int .i64 0, .int .i64 0, .int .i64 0, .int .u64 0, .int .u64 0, .int .u64 0, .int .u64 0, .int .u64 0, .bool false, .slice none 0 0, .slice none 0 0, .slice none 0 0, .int .i64 0, .slice none 0 0] 55)).setRow w7.heap.size us) := below_setRow ((Below.refl _ _).alloc (Nat.le_refl _) _) (Nat.le_refl _) _
    replace HR := Lib.hid (msgK_ok.below HR.out hb)
    replace HW := Lib.hid ((hb.block _ (row_lt HW.out)).trans HW.out)
    replace HB := Lib.hid (ext HB.out hb)
    replace HRB := Lib.hid (lext HRB.out hb)
    replace HX := Lib.hid (msgK_ok.below HX.out hb)
    replace HRX := Lib.hid ((hb.block _ (row_lt HRX.out)).trans HRX.out)
    clear hb
    go_upto_region 6 with (with_reducible refine wpList_store_row rfl 55 (.tmp 11) (.tmp 55) rfl w7.heap.size us rfl rfl 55 #[.int .i64 0, .int .i64 0, .int .i64 0, .int .u64 0, .int .u64 0, .int .u64 0, .int .u64 0, .int .u64 0, .bool false, .slice none 0 0, .slice none 0 0, .slice none 0 0, .int .i64 0, .slice none 0 0] (heap_alloc_new w7 _) HI.out HV1.out HV2.out ?_)
    generalize (w7.alloc (.cells #[.int .i64 0, .int .i64 0, .int .i64 0, .int .u64 0, .int .u64 0, .int .u64 0, .int .u64 0, .int .u64 0, .bool false, .slice none 0 0, .slice none 0 0, .slice none 0 0, .int .i64 0, .slice none 0 0] 55)).setRow w7.heap.size us = w8 at *
    generalize w7.heap.size = gy at *
    clear HI HV1 HV2
    have hoa := Own.made w8 w8.heap.size #[] 0 (Nat.le_refl _) (by decide) rfl
    go_wp2_with (at_builtin; refine wpList_app rfl (.tmp 58) (.tmp 59) rfl rfl hoa rfl HNB.out (HRB.out.alloc (Nat.le_refl _) (.cells #[] 5)) (by have := HNB.out; rw [List.length_nil]; omega) (by rw [World.size_alloc]; exact Nat.le_succ _) ?_)
    intro vc w9 ho hbq _
    try rw [List.nil_append] at ho
    have hb := (((Below.refl w8.heap.size w8).alloc (Nat.le_refl _) (.cells #[] 5)).trans hbq)
    have HO9 := Lib.hid ho
    have HB89 := Lib.hid hb
    have hbz9 : w8.heap.size ≤ w9.heap.size := hb.size
    clear hb hbq hoa
    have HLO := Lib.hid (Lies.one w9 _ mo rfl)
    have HNC := Lib.hid (show nb + 1 = (msgK.put d ++ [mo]).length by rw [List.length_append, ← HNB.out]; rfl)
    have HMO := Lib.hid (fun d' => msgK_laws.more HFI.out mo d')
    clear ho
    go_wp2_with (at_builtin; refine wpList_app rfl (.tmp 60) (.tmp 62) rfl rfl (HO9.out.alloc _) rfl rfl HLO.out (by have := HNB.out; rw [List.length_singleton]; omega) (by rw [World.size_alloc]; exact Nat.le_succ_of_le hbz9) ?_)
    intro vd w10 ho hbq _
    have hb : Below w8.heap.size w8 w10 := (HB89.out.alloc hbz9 (.cells #[.int .u8 (mo.toNat : Int)] 5)).trans hbq
    obtain ⟨A10, c10, rfl, hc10, _, _, hr10, _⟩ := ho.form
    rw [← HNC.out] at hc10 ⊢
    have H10 := Lib.hid hr10
    replace HR := Lib.hid (msgK_ok.below HR.out hb)
    replace HW := Lib.hid ((hb.block _ (row_lt HW.out)).trans HW.out)
    replace HB := Lib.hid (ext HB.out hb)
    replace HRB := Lib.hid (lext HRB.out hb)
    replace HX := Lib.hid (msgK_ok.below HX.out hb)
    replace HRX := Lib.hid ((hb.block _ (row_lt HRX.out)).trans HRX.out)
    clear hb hbq ho hr10 HLO HO9
    go_wp2_with fail
    refine (msgToMsg_any _ HNC.out hc10 (by omega) H10.out).mono ?_
    rintro e w11 hrd
    obtain ⟨us, rfl, hv1, hv2, hb⟩ := ReadsK.bad msgK_ok hrd HMO.out
    have HI := Lib.hid (show (Tryz.prog.info? 55).map (·.size) = some us.size by rw [hv1]; exact xt_Msg.i)
    have HV1 := Lib.hid (show (#[.int .i64 0, .int .i64 0, .int .i64 0, .int .u64 0, .int .u64 0, .int .u64 0, .int .u64 0, .int .u64 0, .bool false, .slice none 0 0, .slice none 0 0, .slice none 0 0, .int .i64 0, .slice none 0 0] : Array Value).size = us.size by rw [hv1]; rfl)
    have HV2 := Lib.hid hv2
    replace HR := Lib.hid (msgK_ok.below HR.out hb)
    replace HW := Lib.hid ((hb.block _ (row_lt HW.out)).trans HW.out)
    replace HB := Lib.hid (ext HB.out hb)
    replace HRB := Lib.hid (lext HRB.out hb)
    replace HX := Lib.hid (msgK_ok.below HX.out hb)
    replace HRX := Lib.hid ((hb.block _ (row_lt HRX.out)).trans HRX.out)
    clear hrd hv1 hv2 hb H10
    have hb : Below w11.heap.size w11 ((w11.alloc (.cells #[.int .i64 0, .int .i64 0, .int .i64 0, .int .u64 0, .int .u64 0, .int .u64 0, .int .u64 0, .int .u64 0, .bool false, .slice none 0 0, .slice none 0 0, .slice none 0 0, .int .i64 0, .slice none 0 0] 55)).setRow w11.heap.size us) := below_setRow ((Below.refl _ _).alloc (Nat.le_refl _) _) (Nat.le_refl _) _
    replace HR := Lib.hid (msgK_ok.below HR.out hb)
    replace HW := Lib.hid ((hb.block _ (row_lt HW.out)).trans HW.out)
    replace HB := Lib.hid (ext HB.out hb)
    replace HRB := Lib.hid (lext HRB.out hb)
    replace HX := Lib.hid (msgK_ok.below HX.out hb)
    replace HRX := Lib.hid ((hb.block _ (row_lt HRX.out)).trans HRX.out)
    clear hb
    go_upto_region 7 with (with_reducible refine wpList_store_row rfl 55 (.tmp 13) (.tmp 65) rfl w11.heap.size us rfl rfl 55 #[.int .i64 0, .int .i64 0, .int .i64 0, .int .u64 0, .int .u64 0, .int .u64 0, .int .u64 0, .int .u64 0, .bool false, .slice none 0 0, .slice none 0 0, .slice none 0 0, .int .i64 0, .slice none 0 0] (heap_alloc_new w11 _) HI.out HV1.out HV2.out ?_)
    generalize (w11.alloc (.cells #[.int .i64 0, .int .i64 0, .int .i64 0, .int .u64 0, .int .u64 0, .int .u64 0, .int .u64 0, .int .u64 0, .bool false, .slice none 0 0, .slice none 0 0, .slice none 0 0, .int .i64 0, .slice none 0 0] 55)).setRow w11.heap.size us = w12 at *
    generalize w11.heap.size = gz at *
    obtain ⟨vl⟩ := vs
    obtain ⟨y0, y1, y2, y3, y4, y5, y6, y7, y8, y9, y10, y11, y12, y13, hvl⟩ := list14 HVX.out
    have hvl' : vl = [y0, y1, y2, y3, y4, y5, y6, y7, y8, y9, y10, y11, y12, y13] := hvl
    subst hvl'
    clear HI HV1 HV2 hvl HVX
    have hx0 : w12.cell? ⟨gx, 0, none⟩ = some y0 := by rw [cell_of_row _ gx 0 _ _ _ HRX.out]; rfl
    have hm0 : w12.cell? ⟨w.heap.size, 0, none⟩ = some m0 := by rw [cell_of_row _ w.heap.size 0 _ _ _ HW.out]; rfl
    have hx1 : w12.cell? ⟨gx, 1, none⟩ = some y1 := by rw [cell_of_row _ gx 1 _ _ _ HRX.out]; rfl
    have hm1 : w12.cell? ⟨w.heap.size, 1, none⟩ = some m1 := by rw [cell_of_row _ w.heap.size 1 _ _ _ HW.out]; rfl
    have hx2 : w12.cell? ⟨gx, 2, none⟩ = some y2 := by rw [cell_of_row _ gx 2 _ _ _ HRX.out]; rfl
    have hm2 : w12.cell? ⟨w.heap.size, 2, none⟩ = some m2 := by rw [cell_of_row _ w.heap.size 2 _ _ _ HW.out]; rfl
    have hx3 : w12.cell? ⟨gx, 3, none⟩ = some y3 := by rw [cell_of_row _ gx 3 _ _ _ HRX.out]; rfl
    have hm3 : w12.cell? ⟨w.heap.size, 3, none⟩ = some m3 := by rw [cell_of_row _ w.heap.size 3 _ _ _ HW.out]; rfl
    have hx4 : w12.cell? ⟨gx, 4, none⟩ = some y4 := by rw [cell_of_row _ gx 4 _ _ _ HRX.out]; rfl
    have hm4 : w12.cell? ⟨w.heap.size, 4, none⟩ = some m4 := by rw [cell_of_row _ w.heap.size 4 _ _ _ HW.out]; rfl
    have hx5 : w12.cell? ⟨gx, 5, none⟩ = some y5 := by rw [cell_of_row _ gx 5 _ _ _ HRX.out]; rfl
    have hm5 : w12.cell? ⟨w.heap.size, 5, none⟩ = some m5 := by rw [cell_of_row _ w.heap.size 5 _ _ _ HW.out]; rfl
    have hx6 : w12.cell? ⟨gx, 6, none⟩ = some y6 := by rw [cell_of_row _ gx 6 _ _ _ HRX.out]; rfl
    have hm6 : w12.cell? ⟨w.heap.size, 6, none⟩ = some m6 := by rw [cell_of_row _ w.heap.size 6 _ _ _ HW.out]; rfl
    have hx7 : w12.cell? ⟨gx, 7, none⟩ = some y7 := by rw [cell_of_row _ gx 7 _ _ _ HRX.out]; rfl
    have hm7 : w12.cell? ⟨w.heap.size, 7, none⟩ = some m7 := by rw [cell_of_row _ w.heap.size 7 _ _ _ HW.out]; rfl
    have hx8 : w12.cell? ⟨gx, 8, none⟩ = some y8 := by rw [cell_of_row _ gx 8 _ _ _ HRX.out]; rfl
    have hm8 : w12.cell? ⟨w.heap.size, 8, none⟩ = some m8 := by rw [cell_of_row _ w.heap.size 8 _ _ _ HW.out]; rfl
    have hx9 : w12.cell? ⟨gx, 9, none⟩ = some y9 := by rw [cell_of_row _ gx 9 _ _ _ HRX.out]; rfl
    have hm9 : w12.cell? ⟨w.heap.size, 9, none⟩ = some m9 := by rw [cell_of_row _ w.heap.size 9 _ _ _ HW.out]; rfl
    have hx10 : w12.cell? ⟨gx, 10, none⟩ = some y10 := by rw [cell_of_row _ gx 10 _ _ _ HRX.out]; rfl
    have hm10 : w12.cell? ⟨w.heap.size, 10, none⟩ = some m10 := by rw [cell_of_row _ w.heap.size 10 _ _ _ HW.out]; rfl
    have hx11 : w12.cell? ⟨gx, 11, none⟩ = some y11 := by rw [cell_of_row _ gx 11 _ _ _ HRX.out]; rfl
    have hm11 : w12.cell? ⟨w.heap.size, 11, none⟩ = some m11 := by rw [cell_of_row _ w.heap.size 11 _ _ _ HW.out]; rfl
    have hx12 : w12.cell? ⟨gx, 12, none⟩ = some y12 := by rw [cell_of_row _ gx 12 _ _ _ HRX.out]; rfl
    have hm12 : w12.cell? ⟨w.heap.size, 12, none⟩ = some m12 := by rw [cell_of_row _ w.heap.size 12 _ _ _ HW.out]; rfl
    have hx13 : w12.cell? ⟨gx, 13, none⟩ = some y13 := by rw [cell_of_row _ gx 13 _ _ _ HRX.out]; rfl
    have hm13 : w12.cell? ⟨w.heap.size, 13, none⟩ = some m13 := by rw [cell_of_row _ w.heap.size 13 _ _ _ HW.out]; rfl
    have hsr := sameM_refl HR.out
    have hcall := same_msg _ HX.out HR.out
    rw [hsr] at hcall
    have HC := Lib.hid hcall
    clear hsr hcall
    go_wp2_with fail
    refine HC.out.mono ?_
    rintro e w13 ⟨rfl, hb⟩
    replace HB := Lib.hid (ext HB.out hb)
    clear hb
    go_wp2
    go_ret
    exact ⟨rfl, HB.out⟩
end Go.Proofs.YtloieecpgndbhaaGreat.Kd
