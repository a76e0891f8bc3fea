/- What is asked of an entry; the kinds of entries and snapshots made; package msg's Entry, Conf, Shot. Written by genm.py. -/
import Derived.Test.YtdbaajgkcjpnoaaGreatGO
import Derived.Test.YtdbaajgkcjpnoaaGreatKnD
namespace Go.Proofs.YtdbaajgkcjpnoaaGreat.Kd
open Go.RowKit By CoP Co Mo

/-- What is read of a configuration's bytes. -/
theorem ReadsK.conf {b : List UInt8} {w w' : World} {e : Ending} (h : ReadsK confK b w e w') : ∃ (vs : Array Value), e = .returned (.tuple #[.agg vs, .int .i64 (if confReads b = true then 0 else 4)]) ∧ vs.size = 2 ∧ vs.all (·.oneCell') = true ∧ Below w.heap.size w w' := by
  obtain ⟨vs, er, rfl, h1, h2, h3⟩ := ReadsK.tell confK_ok h
  obtain ⟨hb, h4⟩ := h3
  refine ⟨vs, ?_, h1, h2, hb⟩
  cases hc : confReads b with
  | true =>
    obtain ⟨g1, g2⟩ := confReads_yes hc
    rcases h4 with ⟨d, vs', _, _, e1, _⟩ | ⟨h5, _⟩
    · simp only [Ending.returned.injEq, Value.tuple.injEq, Array.mk.injEq, List.cons.injEq, Value.int.injEq, true_and, and_true] at e1
      rw [e1.2, if_pos rfl]
    · exact absurd ⟨g1, g2⟩ (h5 _)
  | false =>
    rcases h4 with ⟨d, vs', h5, h6, _, _⟩ | ⟨_, e1⟩
    · exact absurd ⟨h5, h6⟩ (confReads_no hc d)
    · simp only [Ending.returned.injEq, Value.tuple.injEq, Array.mk.injEq, List.cons.injEq, Value.int.injEq, true_and, and_true] at e1
      rw [e1.2, if_neg (by decide)]
set_option maxHeartbeats 1000000 in
theorem entry_tied {L : Nat} (W : World) : TiedAt L W (.func (.func 55) #[] #[]) entryF entryT := by
  refine ⟨_, _, rfl, enters_of Tryz.func55 (by kernel_rfl) rfl, ?_⟩
  intro w _ g o vs ds hr hrep
  obtain ⟨ix, tm, kd, dl, A, c, da, rfl, rfl, _, _, _, _, hc, hm, hl⟩ := entryF_shape hrep
  have c2 : w.cell? ⟨g, o + 2, none⟩ = some (.int .i64 kd) := hr 2 _ rfl
  have c4 : w.cell? ⟨g, o + 4, none⟩ = some (.slice A da.length c) := hr 4 _ rfl
  have HLD := Lib.hid hl.lies
  clear hr hrep hl
  show Calls _ _ _ _ (Says (if kd = 1 then da.isEmpty else if kd = 3 then confReads da else true) w)
  by_cases h1 : kd = 1
  · subst h1
    rw [if_pos rfl]
    have hem : ((da.length : Int) == 0) = da.isEmpty := by cases da <;> rfl
    have hem2 : (da.length == 0) = da.isEmpty := by cases da <;> rfl
    go_enter Tryz.func55, Tryz.ntmps55
    go_wp2
    go_ret
    refine ⟨?_, Below.refl _ _⟩
    first | rfl | (rw [← hem]) | (rw [← hem]; simp) | (cases da <;> simp)
  · rw [if_neg h1]
    have h1b : (kd == 1) = false := by rw [beq_eq_false_iff_ne]; exact h1
    by_cases h3 : kd = 3
    · subst h3
      rw [if_pos rfl]
      go_enter Tryz.func55, Tryz.ntmps55
      go_wp2_with fail
      refine (msgToConf_any _ rfl hc hm HLD.out).mono ?_
      rintro e w1 hrd
      obtain ⟨vs, rfl, hv1, hv2, hb⟩ := ReadsK.conf hrd
      obtain ⟨er, her⟩ : ∃ er : Int, (if confReads da = true then 0 else 4) = er := ⟨_, rfl⟩
      have hq : (er == 0) = confReads da := by rw [← her]; cases confReads da <;> rfl
      rw [her]
      have HB := Lib.hid (ext hb (Below.refl w1.heap.size w1))
      have HBA := Lib.hid (below_setRow (ext hb ((Below.refl w1.heap.size w1).alloc (Nat.le_refl _) (.cells #[.slice none 0 0, .slice none 0 0] 87))) (g := w1.heap.size) hb.size vs)
      have HV2 := Lib.hid hv2
      have HV1 := Lib.hid (show (#[.slice none 0 0, .slice none 0 0] : Array Value).size = vs.size by rw [hv1]; rfl)
      have HI := Lib.hid (show (Tryz.prog.info? 87).map (·.size) = some vs.size by rw [hv1]; exact xt_Conf.i)
      have HQ := Lib.hid hq
      clear hrd hb hv1 hv2 her hq
      go_wp2_with (with_reducible refine wpList_store_row rfl 87 (.tmp 3) (.tmp 25) rfl w1.heap.size vs rfl rfl 87 #[.slice none 0 0, .slice none 0 0] (heap_alloc_new w1 _) HI.out HV1.out HV2.out ?_)
      go_ret
      rw [HQ.out]
      exact ⟨rfl, HBA.out⟩
    · rw [if_neg h3]
      have h3b : (kd == 3) = false := by rw [beq_eq_false_iff_ne]; exact h3
      go_enter Tryz.func55, Tryz.ntmps55
      go_wp2
      go_ret
      exact ⟨rfl, Below.refl _ _⟩
set_option maxHeartbeats 2000000 in
theorem entryKind_any {L : Nat} (w : World) (hL : L ≤ w.heap.size) : Calls Tryz.prog 49 #[] w (Makes L entryK 0 w) := by
  have hb0 : Below w.heap.size w (w.alloc (.cells #[.nilFunc, .nilFunc, .nilFunc] 94)) := (Below.refl _ _).alloc (Nat.le_refl _) _
  have hr0 := heap_alloc_new w (.cells #[.nilFunc, .nilFunc, .nilFunc] 94)
  have hl0 : w.heap.size + 1 ≤ (w.alloc (.cells #[.nilFunc, .nilFunc, .nilFunc] 94)).heap.size := by rw [World.size_alloc]; exact Nat.le_refl _
  have HB0 := Lib.hid hb0
  have HR0 := Lib.hid hr0
  have HL0 := Lib.hid hl0
  clear hb0 hr0 hl0
  go_enter Tryz.func49, Tryz.ntmps49
  go_wp2_with fail
  refine (wholeU_any _ HL0.out 1 4611686018427387904).mono ?_
  rintro e w1 ⟨a1, b1, d1, rfl, hk1, hb1⟩
  have HK1 := Lib.hid hk1
  have HL1 := Lib.hid (Nat.le_trans HL0.out hb1.size)
  have HR1 := Lib.hid ((hb1.block w.heap.size (row_lt HR0.out)).trans HR0.out)
  have HB1 := Lib.hid (ext HB0.out hb1)
  obtain ⟨_, ⟨p1, x1, rfl, _⟩, ⟨q1, y1, rfl, _⟩, ⟨r1, z1, rfl, _⟩⟩ := hk1
  clear hb1
  go_wp2_with fail
  refine (field_Entry_u64 _ HL1.out HK1.out of_entry1).mono ?_
  rintro e w2 ⟨a2, b2, d2, rfl, hk2, hb2⟩
  have HK2 := Lib.hid hk2
  have HL2 := Lib.hid (Nat.le_trans HL1.out hb2.size)
  have HR2 := Lib.hid ((hb2.block w.heap.size (row_lt HR1.out)).trans HR1.out)
  have HB2 := Lib.hid (ext HB1.out hb2)
  have HK1 := Lib.hid (HK1.out.later hb2)
  obtain ⟨_, ⟨p2, x2, rfl, _⟩, ⟨q2, y2, rfl, _⟩, ⟨r2, z2, rfl, _⟩⟩ := hk2
  clear hb2
  go_wp2_with fail
  refine (wholeU_any _ HL2.out 1 4611686018427387904).mono ?_
  rintro e w3 ⟨a3, b3, d3, rfl, hk3, hb3⟩
  have HK3 := Lib.hid hk3
  have HL3 := Lib.hid (Nat.le_trans HL2.out hb3.size)
  have HR3 := Lib.hid ((hb3.block w.heap.size (row_lt HR2.out)).trans HR2.out)
  have HB3 := Lib.hid (ext HB2.out hb3)
  have HK2 := Lib.hid (HK2.out.later hb3)
  obtain ⟨_, ⟨p3, x3, rfl, _⟩, ⟨q3, y3, rfl, _⟩, ⟨r3, z3, rfl, _⟩⟩ := hk3
  clear hb3
  go_wp2_with fail
  refine (field_Entry_u64 _ HL3.out HK3.out of_entry2).mono ?_
  rintro e w4 ⟨a4, b4, d4, rfl, hk4, hb4⟩
  have HK4 := Lib.hid hk4
  have HL4 := Lib.hid (Nat.le_trans HL3.out hb4.size)
  have HR4 := Lib.hid ((hb4.block w.heap.size (row_lt HR3.out)).trans HR3.out)
  have HB4 := Lib.hid (ext HB3.out hb4)
  have HK2 := Lib.hid (HK2.out.later hb4)
  have HK3 := Lib.hid (HK3.out.later hb4)
  obtain ⟨_, ⟨p4, x4, rfl, _⟩, ⟨q4, y4, rfl, _⟩, ⟨r4, z4, rfl, _⟩⟩ := hk4
  clear hb4
  go_wp2_with fail
  refine (wholeI_any _ HL4.out 1 3).mono ?_
  rintro e w5 ⟨a5, b5, d5, rfl, hk5, hb5⟩
  have HK5 := Lib.hid hk5
  have HL5 := Lib.hid (Nat.le_trans HL4.out hb5.size)
  have HR5 := Lib.hid ((hb5.block w.heap.size (row_lt HR4.out)).trans HR4.out)
  have HB5 := Lib.hid (ext HB4.out hb5)
  have HK2 := Lib.hid (HK2.out.later hb5)
  have HK4 := Lib.hid (HK4.out.later hb5)
  obtain ⟨_, ⟨p5, x5, rfl, _⟩, ⟨q5, y5, rfl, _⟩, ⟨r5, z5, rfl, _⟩⟩ := hk5
  clear hb5
  go_wp2_with fail
  refine (field_Entry_int _ HL5.out HK5.out of_entry3).mono ?_
  rintro e w6 ⟨a6, b6, d6, rfl, hk6, hb6⟩
  have HK6 := Lib.hid hk6
  have HL6 := Lib.hid (Nat.le_trans HL5.out hb6.size)
  have HR6 := Lib.hid ((hb6.block w.heap.size (row_lt HR5.out)).trans HR5.out)
  have HB6 := Lib.hid (ext HB5.out hb6)
  have HK2 := Lib.hid (HK2.out.later hb6)
  have HK4 := Lib.hid (HK4.out.later hb6)
  have HK5 := Lib.hid (HK5.out.later hb6)
  obtain ⟨_, ⟨p6, x6, rfl, _⟩, ⟨q6, y6, rfl, _⟩, ⟨r6, z6, rfl, _⟩⟩ := hk6
  clear hb6
  go_wp2_with fail
  refine (wholeL_any _ HL6.out 0 1099511627776).mono ?_
  rintro e w7 ⟨a7, b7, d7, rfl, hk7, hb7⟩
  have HK7 := Lib.hid hk7
  have HL7 := Lib.hid (Nat.le_trans HL6.out hb7.size)
  have HR7 := Lib.hid ((hb7.block w.heap.size (row_lt HR6.out)).trans HR6.out)
  have HB7 := Lib.hid (ext HB6.out hb7)
  have HK2 := Lib.hid (HK2.out.later hb7)
  have HK4 := Lib.hid (HK4.out.later hb7)
  have HK6 := Lib.hid (HK6.out.later hb7)
  obtain ⟨_, ⟨p7, x7, rfl, _⟩, ⟨q7, y7, rfl, _⟩, ⟨r7, z7, rfl, _⟩⟩ := hk7
  clear hb7
  go_wp2_with fail
  refine (field_Entry_i64 _ HL7.out HK7.out of_entry4).mono ?_
  rintro e w8 ⟨a8, b8, d8, rfl, hk8, hb8⟩
  have HK8 := Lib.hid hk8
  have HL8 := Lib.hid (Nat.le_trans HL7.out hb8.size)
  have HR8 := Lib.hid ((hb8.block w.heap.size (row_lt HR7.out)).trans HR7.out)
  have HB8 := Lib.hid (ext HB7.out hb8)
  have HK2 := Lib.hid (HK2.out.later hb8)
  have HK4 := Lib.hid (HK4.out.later hb8)
  have HK6 := Lib.hid (HK6.out.later hb8)
  have HK7 := Lib.hid (HK7.out.later hb8)
  obtain ⟨_, ⟨p8, x8, rfl, _⟩, ⟨q8, y8, rfl, _⟩, ⟨r8, z8, rfl, _⟩⟩ := hk8
  clear hb8
  go_wp2_with fail
  refine (runB_any _ HL8.out 4096).mono ?_
  rintro e w9 ⟨a9, b9, d9, rfl, hk9, hb9⟩
  have HK9 := Lib.hid hk9
  have HL9 := Lib.hid (Nat.le_trans HL8.out hb9.size)
  have HR9 := Lib.hid ((hb9.block w.heap.size (row_lt HR8.out)).trans HR8.out)
  have HB9 := Lib.hid (ext HB8.out hb9)
  have HK2 := Lib.hid (HK2.out.later hb9)
  have HK4 := Lib.hid (HK4.out.later hb9)
  have HK6 := Lib.hid (HK6.out.later hb9)
  have HK8 := Lib.hid (HK8.out.later hb9)
  obtain ⟨_, ⟨p9, x9, rfl, _⟩, ⟨q9, y9, rfl, _⟩, ⟨r9, z9, rfl, _⟩⟩ := hk9
  clear hb9
  go_wp2_with fail
  refine (field_Entry_bytes _ HL9.out HK9.out of_entry5).mono ?_
  rintro e w10 ⟨a10, b10, d10, rfl, hk10, hb10⟩
  have HK10 := Lib.hid hk10
  have HL10 := Lib.hid (Nat.le_trans HL9.out hb10.size)
  have HR10 := Lib.hid ((hb10.block w.heap.size (row_lt HR9.out)).trans HR9.out)
  have HB10 := Lib.hid (ext HB9.out hb10)
  have HK2 := Lib.hid (HK2.out.later hb10)
  have HK4 := Lib.hid (HK4.out.later hb10)
  have HK6 := Lib.hid (HK6.out.later hb10)
  have HK8 := Lib.hid (HK8.out.later hb10)
  have HK9 := Lib.hid (HK9.out.later hb10)
  obtain ⟨_, ⟨p10, x10, rfl, _⟩, ⟨q10, y10, rfl, _⟩, ⟨r10, z10, rfl, _⟩⟩ := hk10
  clear hb10
  go_wp2_with fail
  have hbA := (Below.refl w10.heap.size w10).alloc (Nat.le_refl _) (.cells #[.func (.func p2) #[] x2, .func (.func q2) #[] y2, .func (.func r2) #[] z2, .func (.func p4) #[] x4, .func (.func q4) #[] y4, .func (.func r4) #[] z4, .func (.func p6) #[] x6, .func (.func q6) #[] y6, .func (.func r6) #[] z6, .func (.func p8) #[] x8, .func (.func q8) #[] y8, .func (.func r8) #[] z8, .func (.func p10) #[] x10, .func (.func q10) #[] y10, .func (.func r10) #[] z10] 94)
  have hF : FieldsAt (w.heap.size + 1) (w10.alloc (.cells #[.func (.func p2) #[] x2, .func (.func q2) #[] y2, .func (.func r2) #[] z2, .func (.func p4) #[] x4, .func (.func q4) #[] y4, .func (.func r4) #[] z4, .func (.func p6) #[] x6, .func (.func q6) #[] y6, .func (.func r6) #[] z6, .func (.func p8) #[] x8, .func (.func q8) #[] y8, .func (.func r8) #[] z8, .func (.func p10) #[] x10, .func (.func q10) #[] y10, .func (.func r10) #[] z10] 94)) entryF 0 [.func (.func p2) #[] x2, .func (.func q2) #[] y2, .func (.func r2) #[] z2, .func (.func p4) #[] x4, .func (.func q4) #[] y4, .func (.func r4) #[] z4, .func (.func p6) #[] x6, .func (.func q6) #[] y6, .func (.func r6) #[] z6, .func (.func p8) #[] x8, .func (.func q8) #[] y8, .func (.func r8) #[] z8, .func (.func p10) #[] x10, .func (.func q10) #[] y10, .func (.func r10) #[] z10] :=
    ⟨_, _, _, _, rfl, HK2.out.later hbA, ⟨_, _, _, _, rfl, HK4.out.later hbA, ⟨_, _, _, _, rfl, HK6.out.later hbA, ⟨_, _, _, _, rfl, HK8.out.later hbA, ⟨_, _, _, _, rfl, HK10.out.later hbA, rfl⟩⟩⟩⟩⟩
  have HF := Lib.hid hF
  have HBA := Lib.hid (ext HB10.out hbA)
  have HLA := Lib.hid (Nat.le_trans HL10.out hbA.size)
  clear hbA hF
  refine (rec_Entry (m := 5) (fs := [.func (.func p2) #[] x2, .func (.func q2) #[] y2, .func (.func r2) #[] z2, .func (.func p4) #[] x4, .func (.func q4) #[] y4, .func (.func r4) #[] z4, .func (.func p6) #[] x6, .func (.func q6) #[] y6, .func (.func r6) #[] z6, .func (.func p8) #[] x8, .func (.func q8) #[] y8, .func (.func r8) #[] z8, .func (.func p10) #[] x10, .func (.func q10) #[] y10, .func (.func r10) #[] z10]) (t := entryT) _ HLA.out HL10.out rfl (heap_alloc_new w10 _) HF.out (by decide) (entry_tied _)).mono ?_
  rintro e w11 ⟨f1, f2, f3, rfl, hk, hb⟩
  have HK := Lib.hid hk
  have HB := Lib.hid (ext HBA.out hb)
  have hrA := (hb.block w.heap.size (by rw [World.size_alloc]; exact Nat.lt_succ_of_lt (row_lt HR10.out))).trans ((heap_alloc_old w10 _ (row_lt HR10.out)).trans HR10.out)
  have HR := Lib.hid hrA
  obtain ⟨_, ⟨q1, c1, rfl, _⟩, ⟨q2, c2, rfl, _⟩, ⟨q3, c3, rfl, _⟩⟩ := hk
  clear hb hrA
  have H1 : (#[.func (.func q1) #[] c1, .func (.func q2) #[] c2, .func (.func q3) #[] c3] : Array Value).all (·.oneCell') = true := all3
  have H2 : (#[.nilFunc, .nilFunc, .nilFunc] : Array Value).size = (#[.func (.func q1) #[] c1, .func (.func q2) #[] c2, .func (.func q3) #[] c3] : Array Value).size := rfl
  have H5 : (Tryz.prog.info? 94).map (·.size) = some (#[.func (.func q1) #[] c1, .func (.func q2) #[] c2, .func (.func q3) #[] c3] : Array Value).size := kt_Entry.i
  have H6 := Lib.hid H5
  have H3 := Lib.hid H1
  have H4 := Lib.hid H2
  clear H1 H2 H5
  go_wp2_with (with_reducible refine wpList_store_row rfl 94 (.tmp 0) (.tmp 12) rfl w.heap.size #[.func (.func q1) #[] c1, .func (.func q2) #[] c2, .func (.func q3) #[] c3] rfl rfl 94 #[.nilFunc, .nilFunc, .nilFunc] HR.out H6.out H4.out H3.out ?_)
  go_wp2
  exact bodyPost_ret (v := .agg #[.func (.func q1) #[] c1, .func (.func q2) #[] c2, .func (.func q3) #[] c3]) (results_cell_row rfl _ _ w.heap.size 94 #[.func (.func q1) #[] c1, .func (.func q2) #[] c2, .func (.func q3) #[] c3] (0, 0) _ rfl (setRow_heap _ _ _ _ _ _ HR.out) Tryz.underlying94 rfl (by kernel_rfl)) rfl ⟨_, _, _, rfl, (HK.out.unset (Nat.lt_succ_self _)).less (Nat.le_succ_of_le hL), below_setRow HB.out (Nat.le_refl _) _⟩
theorem msgEntry_any {xs : List Value} {d : Data} (w : World) (hxs : xs.length = 5) (hrep : entryK.rep w (Old w) xs d) (hlen : entryK.sound d = true → (entryK.put d).length + 9 ≤ 140737488355328) :
    Calls Tryz.prog 47 #[.agg xs.toArray] w (Writes entryK d w) :=
  topW_any Tryz.func47 rfl rfl rfl Tryz.isAgg39 Tryz.sizeOf39 Tryz.call49 Tryz.call50 (fun w => entryKind_any w (Nat.le_refl _))
    (fun _ w _ _ _ _ _ hk hrep hlen => write_any Tryz.func50 rfl rfl rfl kt_Entry (by intro w; go_simp) (by intro w; go_simp) w hk hrep hlen) entryK_ok w hxs hrep hlen
end Go.Proofs.YtdbaajgkcjpnoaaGreat.Kd
