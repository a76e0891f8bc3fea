/- The kind of asks, made; package msg's bytes of asks. Written by geni.py. -/
import Derived.Test.YtlgbipmmpocepaaGreatGL
import Derived.Test.YtlgbipmmpocepaaGreatKhE
namespace Go.Proofs.YtlgbipmmpocepaaGreat.Kd
open Go.RowKit By CoP Co Mo

set_option maxHeartbeats 2000000 in
theorem askKind_any {L : Nat} (w : World) (hL : L ≤ w.heap.size) : Calls Tryz.prog 37 #[] w (Makes L askK 0 w) := by
  have hb0 : Below w.heap.size w (w.alloc (.cells #[.nilFunc, .nilFunc, .nilFunc] 103)) := (Below.refl _ _).alloc (Nat.le_refl _) _
  have hr0 := heap_alloc_new w (.cells #[.nilFunc, .nilFunc, .nilFunc] 103)
  have hl0 : w.heap.size + 1 ≤ (w.alloc (.cells #[.nilFunc, .nilFunc, .nilFunc] 103)).heap.size := by rw [World.size_alloc]; exact Nat.le_refl _
  have HB0 := Lib.hid hb0
  have HR0 := Lib.hid hr0
  have HL0 := Lib.hid hl0
  clear hb0 hr0 hl0
  go_enter Tryz.func37, Tryz.ntmps37
  go_wp2_with fail
  refine (flag_any (L := w.heap.size + 1) _).mono ?_
  rintro e w1 ⟨a1, b1, d1, rfl, hk1, hb1⟩
  have HK1 := Lib.hid hk1
  have HL1 := Lib.hid (Nat.le_trans HL0.out hb1.size)
  have HR1 := Lib.hid ((hb1.block w.heap.size (row_lt HR0.out)).trans HR0.out)
  have HB1 := Lib.hid (ext HB0.out hb1)
  obtain ⟨_, ⟨p1, x1, rfl, _⟩, ⟨q1, y1, rfl, _⟩, ⟨r1, z1, rfl, _⟩⟩ := hk1
  clear hb1
  go_wp2_with fail
  refine (field_Ask_bool _ HL1.out HK1.out of_ask1).mono ?_
  rintro e w2 ⟨a2, b2, d2, rfl, hk2, hb2⟩
  have HK2 := Lib.hid hk2
  have HL2 := Lib.hid (Nat.le_trans HL1.out hb2.size)
  have HR2 := Lib.hid ((hb2.block w.heap.size (row_lt HR1.out)).trans HR1.out)
  have HB2 := Lib.hid (ext HB1.out hb2)
  have HK1 := Lib.hid (HK1.out.later hb2)
  obtain ⟨_, ⟨p2, x2, rfl, _⟩, ⟨q2, y2, rfl, _⟩, ⟨r2, z2, rfl, _⟩⟩ := hk2
  clear hb2
  go_wp2_with fail
  refine (flag_any (L := w.heap.size + 1) _).mono ?_
  rintro e w3 ⟨a3, b3, d3, rfl, hk3, hb3⟩
  have HK3 := Lib.hid hk3
  have HL3 := Lib.hid (Nat.le_trans HL2.out hb3.size)
  have HR3 := Lib.hid ((hb3.block w.heap.size (row_lt HR2.out)).trans HR2.out)
  have HB3 := Lib.hid (ext HB2.out hb3)
  have HK2 := Lib.hid (HK2.out.later hb3)
  obtain ⟨_, ⟨p3, x3, rfl, _⟩, ⟨q3, y3, rfl, _⟩, ⟨r3, z3, rfl, _⟩⟩ := hk3
  clear hb3
  go_wp2_with fail
  refine (field_Ask_bool _ HL3.out HK3.out of_ask2).mono ?_
  rintro e w4 ⟨a4, b4, d4, rfl, hk4, hb4⟩
  have HK4 := Lib.hid hk4
  have HL4 := Lib.hid (Nat.le_trans HL3.out hb4.size)
  have HR4 := Lib.hid ((hb4.block w.heap.size (row_lt HR3.out)).trans HR3.out)
  have HB4 := Lib.hid (ext HB3.out hb4)
  have HK2 := Lib.hid (HK2.out.later hb4)
  have HK3 := Lib.hid (HK3.out.later hb4)
  obtain ⟨_, ⟨p4, x4, rfl, _⟩, ⟨q4, y4, rfl, _⟩, ⟨r4, z4, rfl, _⟩⟩ := hk4
  clear hb4
  go_wp2_with fail
  refine (number_any _ HL4.out).mono ?_
  rintro e w5 ⟨a5, b5, d5, rfl, hk5, hb5⟩
  have HK5 := Lib.hid hk5
  have HL5 := Lib.hid (Nat.le_trans HL4.out hb5.size)
  have HR5 := Lib.hid ((hb5.block w.heap.size (row_lt HR4.out)).trans HR4.out)
  have HB5 := Lib.hid (ext HB4.out hb5)
  have HK2 := Lib.hid (HK2.out.later hb5)
  have HK4 := Lib.hid (HK4.out.later hb5)
  obtain ⟨_, ⟨p5, x5, rfl, _⟩, ⟨q5, y5, rfl, _⟩, ⟨r5, z5, rfl, _⟩⟩ := hk5
  clear hb5
  go_wp2_with fail
  refine (field_Ask_u64 _ HL5.out HK5.out of_ask3).mono ?_
  rintro e w6 ⟨a6, b6, d6, rfl, hk6, hb6⟩
  have HK6 := Lib.hid hk6
  have HL6 := Lib.hid (Nat.le_trans HL5.out hb6.size)
  have HR6 := Lib.hid ((hb6.block w.heap.size (row_lt HR5.out)).trans HR5.out)
  have HB6 := Lib.hid (ext HB5.out hb6)
  have HK2 := Lib.hid (HK2.out.later hb6)
  have HK4 := Lib.hid (HK4.out.later hb6)
  have HK5 := Lib.hid (HK5.out.later hb6)
  obtain ⟨_, ⟨p6, x6, rfl, _⟩, ⟨q6, y6, rfl, _⟩, ⟨r6, z6, rfl, _⟩⟩ := hk6
  clear hb6
  go_wp2_with fail
  refine (commandKind_any _ HL6.out).mono ?_
  rintro e w7 ⟨a7, b7, d7, rfl, hk7, hb7⟩
  have HK7 := Lib.hid hk7
  have HL7 := Lib.hid (Nat.le_trans HL6.out hb7.size)
  have HR7 := Lib.hid ((hb7.block w.heap.size (row_lt HR6.out)).trans HR6.out)
  have HB7 := Lib.hid (ext HB6.out hb7)
  have HK2 := Lib.hid (HK2.out.later hb7)
  have HK4 := Lib.hid (HK4.out.later hb7)
  have HK6 := Lib.hid (HK6.out.later hb7)
  obtain ⟨_, ⟨p7, x7, rfl, _⟩, ⟨q7, y7, rfl, _⟩, ⟨r7, z7, rfl, _⟩⟩ := hk7
  clear hb7
  go_wp2_with fail
  refine (loose_Command _ HL7.out HK7.out).mono ?_
  rintro e w8 ⟨a8, b8, d8, rfl, hk8, hb8⟩
  have HK8 := Lib.hid hk8
  have HL8 := Lib.hid (Nat.le_trans HL7.out hb8.size)
  have HR8 := Lib.hid ((hb8.block w.heap.size (row_lt HR7.out)).trans HR7.out)
  have HB8 := Lib.hid (ext HB7.out hb8)
  have HK2 := Lib.hid (HK2.out.later hb8)
  have HK4 := Lib.hid (HK4.out.later hb8)
  have HK6 := Lib.hid (HK6.out.later hb8)
  have HK7 := Lib.hid (HK7.out.later hb8)
  obtain ⟨_, ⟨p8, x8, rfl, _⟩, ⟨q8, y8, rfl, _⟩, ⟨r8, z8, rfl, _⟩⟩ := hk8
  clear hb8
  go_wp2_with fail
  refine (field_Ask_Command _ HL8.out HK8.out of_ask4).mono ?_
  rintro e w9 ⟨a9, b9, d9, rfl, hk9, hb9⟩
  have HK9 := Lib.hid hk9
  have HL9 := Lib.hid (Nat.le_trans HL8.out hb9.size)
  have HR9 := Lib.hid ((hb9.block w.heap.size (row_lt HR8.out)).trans HR8.out)
  have HB9 := Lib.hid (ext HB8.out hb9)
  have HK2 := Lib.hid (HK2.out.later hb9)
  have HK4 := Lib.hid (HK4.out.later hb9)
  have HK6 := Lib.hid (HK6.out.later hb9)
  have HK8 := Lib.hid (HK8.out.later hb9)
  obtain ⟨_, ⟨p9, x9, rfl, _⟩, ⟨q9, y9, rfl, _⟩, ⟨r9, z9, rfl, _⟩⟩ := hk9
  clear hb9
  go_wp2_with fail
  refine (runT_any _ HL9.out 64).mono ?_
  rintro e w10 ⟨a10, b10, d10, rfl, hk10, hb10⟩
  have HK10 := Lib.hid hk10
  have HL10 := Lib.hid (Nat.le_trans HL9.out hb10.size)
  have HR10 := Lib.hid ((hb10.block w.heap.size (row_lt HR9.out)).trans HR9.out)
  have HB10 := Lib.hid (ext HB9.out hb10)
  have HK2 := Lib.hid (HK2.out.later hb10)
  have HK4 := Lib.hid (HK4.out.later hb10)
  have HK6 := Lib.hid (HK6.out.later hb10)
  have HK9 := Lib.hid (HK9.out.later hb10)
  obtain ⟨_, ⟨p10, x10, rfl, _⟩, ⟨q10, y10, rfl, _⟩, ⟨r10, z10, rfl, _⟩⟩ := hk10
  clear hb10
  go_wp2_with fail
  refine (field_Ask_text _ HL10.out HK10.out of_ask5).mono ?_
  rintro e w11 ⟨a11, b11, d11, rfl, hk11, hb11⟩
  have HK11 := Lib.hid hk11
  have HL11 := Lib.hid (Nat.le_trans HL10.out hb11.size)
  have HR11 := Lib.hid ((hb11.block w.heap.size (row_lt HR10.out)).trans HR10.out)
  have HB11 := Lib.hid (ext HB10.out hb11)
  have HK2 := Lib.hid (HK2.out.later hb11)
  have HK4 := Lib.hid (HK4.out.later hb11)
  have HK6 := Lib.hid (HK6.out.later hb11)
  have HK9 := Lib.hid (HK9.out.later hb11)
  have HK10 := Lib.hid (HK10.out.later hb11)
  obtain ⟨_, ⟨p11, x11, rfl, _⟩, ⟨q11, y11, rfl, _⟩, ⟨r11, z11, rfl, _⟩⟩ := hk11
  clear hb11
  go_wp2_with fail
  have hbA := (Below.refl w11.heap.size w11).alloc (Nat.le_refl _) (.cells #[.func (.func p2) #[] x2, .func (.func q2) #[] y2, .func (.func r2) #[] z2, .func (.func p4) #[] x4, .func (.func q4) #[] y4, .func (.func r4) #[] z4, .func (.func p6) #[] x6, .func (.func q6) #[] y6, .func (.func r6) #[] z6, .func (.func p9) #[] x9, .func (.func q9) #[] y9, .func (.func r9) #[] z9, .func (.func p11) #[] x11, .func (.func q11) #[] y11, .func (.func r11) #[] z11] 103)
  have hF : FieldsAt (w.heap.size + 1) (w11.alloc (.cells #[.func (.func p2) #[] x2, .func (.func q2) #[] y2, .func (.func r2) #[] z2, .func (.func p4) #[] x4, .func (.func q4) #[] y4, .func (.func r4) #[] z4, .func (.func p6) #[] x6, .func (.func q6) #[] y6, .func (.func r6) #[] z6, .func (.func p9) #[] x9, .func (.func q9) #[] y9, .func (.func r9) #[] z9, .func (.func p11) #[] x11, .func (.func q11) #[] y11, .func (.func r11) #[] z11] 103)) askF 0 [.func (.func p2) #[] x2, .func (.func q2) #[] y2, .func (.func r2) #[] z2, .func (.func p4) #[] x4, .func (.func q4) #[] y4, .func (.func r4) #[] z4, .func (.func p6) #[] x6, .func (.func q6) #[] y6, .func (.func r6) #[] z6, .func (.func p9) #[] x9, .func (.func q9) #[] y9, .func (.func r9) #[] z9, .func (.func p11) #[] x11, .func (.func q11) #[] y11, .func (.func r11) #[] z11] :=
    ⟨_, _, _, _, rfl, HK2.out.later hbA, ⟨_, _, _, _, rfl, HK4.out.later hbA, ⟨_, _, _, _, rfl, HK6.out.later hbA, ⟨_, _, _, _, rfl, HK9.out.later hbA, ⟨_, _, _, _, rfl, HK11.out.later hbA, rfl⟩⟩⟩⟩⟩
  have HF := Lib.hid hF
  have HBA := Lib.hid (ext HB11.out hbA)
  have HLA := Lib.hid (Nat.le_trans HL11.out hbA.size)
  clear hbA hF
  refine (rec_Ask (m := 5) (fs := [.func (.func p2) #[] x2, .func (.func q2) #[] y2, .func (.func r2) #[] z2, .func (.func p4) #[] x4, .func (.func q4) #[] y4, .func (.func r4) #[] z4, .func (.func p6) #[] x6, .func (.func q6) #[] y6, .func (.func r6) #[] z6, .func (.func p9) #[] x9, .func (.func q9) #[] y9, .func (.func r9) #[] z9, .func (.func p11) #[] x11, .func (.func q11) #[] y11, .func (.func r11) #[] z11]) (t := askT) _ HLA.out HL11.out rfl (heap_alloc_new w11 _) HF.out (by decide) (ask_tied _)).mono ?_
  rintro e w12 ⟨f1, f2, f3, rfl, hk, hb⟩
  have HK := Lib.hid hk
  have HB := Lib.hid (ext HBA.out hb)
  have hrA := (hb.block w.heap.size (by rw [World.size_alloc]; exact Nat.lt_succ_of_lt (row_lt HR11.out))).trans ((heap_alloc_old w11 _ (row_lt HR11.out)).trans HR11.out)
  have HR := Lib.hid hrA
  obtain ⟨_, ⟨q1, c1, rfl, _⟩, ⟨q2, c2, rfl, _⟩, ⟨q3, c3, rfl, _⟩⟩ := hk
  clear hb hrA
  have H1 : (#[.func (.func q1) #[] c1, .func (.func q2) #[] c2, .func (.func q3) #[] c3] : Array Value).all (·.oneCell') = true := all3
  have H2 : (#[.nilFunc, .nilFunc, .nilFunc] : Array Value).size = (#[.func (.func q1) #[] c1, .func (.func q2) #[] c2, .func (.func q3) #[] c3] : Array Value).size := rfl
  have H5 : (Tryz.prog.info? 103).map (·.size) = some (#[.func (.func q1) #[] c1, .func (.func q2) #[] c2, .func (.func q3) #[] c3] : Array Value).size := kt_Ask.i
  have H6 := Lib.hid H5
  have H3 := Lib.hid H1
  have H4 := Lib.hid H2
  clear H1 H2 H5
  go_wp2_with (with_reducible refine wpList_store_row rfl 103 (.tmp 0) (.tmp 13) rfl w.heap.size #[.func (.func q1) #[] c1, .func (.func q2) #[] c2, .func (.func q3) #[] c3] rfl rfl 103 #[.nilFunc, .nilFunc, .nilFunc] HR.out H6.out H4.out H3.out ?_)
  go_wp2
  exact bodyPost_ret (v := .agg #[.func (.func q1) #[] c1, .func (.func q2) #[] c2, .func (.func q3) #[] c3]) (results_cell_row rfl _ _ w.heap.size 103 #[.func (.func q1) #[] c1, .func (.func q2) #[] c2, .func (.func q3) #[] c3] (0, 0) _ rfl (setRow_heap _ _ _ _ _ _ HR.out) Tryz.underlying103 rfl (by kernel_rfl)) rfl ⟨_, _, _, rfl, (HK.out.unset (Nat.lt_succ_self _)).less (Nat.le_succ_of_le hL), below_setRow HB.out (Nat.le_refl _) _⟩
end Go.Proofs.YtlgbipmmpocepaaGreat.Kd
