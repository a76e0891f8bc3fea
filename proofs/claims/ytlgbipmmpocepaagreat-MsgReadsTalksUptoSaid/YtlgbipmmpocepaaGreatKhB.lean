/- The kinds of hard states, commands, replies, what edges are told, made. Written by geni.py. -/
import Derived.Test.YtlgbipmmpocepaaGreatKhA
namespace Go.Proofs.YtlgbipmmpocepaaGreat.Kd
open Go.RowKit By CoP Co Mo

set_option maxHeartbeats 2000000 in
theorem hardKind_any {L : Nat} (w : World) (hL : L ≤ w.heap.size) : Calls Tryz.prog 135 #[] w (Makes L hardK 0 w) := by
  have hb0 : Below w.heap.size w (w.alloc (.cells #[.nilFunc, .nilFunc, .nilFunc] 257)) := (Below.refl _ _).alloc (Nat.le_refl _) _
  have hr0 := heap_alloc_new w (.cells #[.nilFunc, .nilFunc, .nilFunc] 257)
  have hl0 : w.heap.size + 1 ≤ (w.alloc (.cells #[.nilFunc, .nilFunc, .nilFunc] 257)).heap.size := by rw [World.size_alloc]; exact Nat.le_refl _
  have HB0 := Lib.hid hb0
  have HR0 := Lib.hid hr0
  have HL0 := Lib.hid hl0
  clear hb0 hr0 hl0
  go_enter Tryz.func135, Tryz.ntmps135
  go_wp2_with fail
  refine (number_any _ HL0.out).mono ?_
  rintro e w1 ⟨a1, b1, d1, rfl, hk1, hb1⟩
  have HK1 := Lib.hid hk1
  have HL1 := Lib.hid (Nat.le_trans HL0.out hb1.size)
  have HR1 := Lib.hid ((hb1.block w.heap.size (row_lt HR0.out)).trans HR0.out)
  have HB1 := Lib.hid (ext HB0.out hb1)
  obtain ⟨_, ⟨p1, x1, rfl, _⟩, ⟨q1, y1, rfl, _⟩, ⟨r1, z1, rfl, _⟩⟩ := hk1
  clear hb1
  go_wp2_with fail
  refine (field_Hard_u64 _ HL1.out HK1.out of_hard1).mono ?_
  rintro e w2 ⟨a2, b2, d2, rfl, hk2, hb2⟩
  have HK2 := Lib.hid hk2
  have HL2 := Lib.hid (Nat.le_trans HL1.out hb2.size)
  have HR2 := Lib.hid ((hb2.block w.heap.size (row_lt HR1.out)).trans HR1.out)
  have HB2 := Lib.hid (ext HB1.out hb2)
  have HK1 := Lib.hid (HK1.out.later hb2)
  obtain ⟨_, ⟨p2, x2, rfl, _⟩, ⟨q2, y2, rfl, _⟩, ⟨r2, z2, rfl, _⟩⟩ := hk2
  clear hb2
  go_wp2_with fail
  refine (wholeI_any _ HL2.out 0 16).mono ?_
  rintro e w3 ⟨a3, b3, d3, rfl, hk3, hb3⟩
  have HK3 := Lib.hid hk3
  have HL3 := Lib.hid (Nat.le_trans HL2.out hb3.size)
  have HR3 := Lib.hid ((hb3.block w.heap.size (row_lt HR2.out)).trans HR2.out)
  have HB3 := Lib.hid (ext HB2.out hb3)
  have HK2 := Lib.hid (HK2.out.later hb3)
  obtain ⟨_, ⟨p3, x3, rfl, _⟩, ⟨q3, y3, rfl, _⟩, ⟨r3, z3, rfl, _⟩⟩ := hk3
  clear hb3
  go_wp2_with fail
  refine (field_Hard_int _ HL3.out HK3.out of_hard2).mono ?_
  rintro e w4 ⟨a4, b4, d4, rfl, hk4, hb4⟩
  have HK4 := Lib.hid hk4
  have HL4 := Lib.hid (Nat.le_trans HL3.out hb4.size)
  have HR4 := Lib.hid ((hb4.block w.heap.size (row_lt HR3.out)).trans HR3.out)
  have HB4 := Lib.hid (ext HB3.out hb4)
  have HK2 := Lib.hid (HK2.out.later hb4)
  have HK3 := Lib.hid (HK3.out.later hb4)
  obtain ⟨_, ⟨p4, x4, rfl, _⟩, ⟨q4, y4, rfl, _⟩, ⟨r4, z4, rfl, _⟩⟩ := hk4
  clear hb4
  go_wp2_with fail
  have hbA := (Below.refl w4.heap.size w4).alloc (Nat.le_refl _) (.cells #[.func (.func p2) #[] x2, .func (.func q2) #[] y2, .func (.func r2) #[] z2, .func (.func p4) #[] x4, .func (.func q4) #[] y4, .func (.func r4) #[] z4] 257)
  have hF : FieldsAt (w.heap.size + 1) (w4.alloc (.cells #[.func (.func p2) #[] x2, .func (.func q2) #[] y2, .func (.func r2) #[] z2, .func (.func p4) #[] x4, .func (.func q4) #[] y4, .func (.func r4) #[] z4] 257)) hardF 0 [.func (.func p2) #[] x2, .func (.func q2) #[] y2, .func (.func r2) #[] z2, .func (.func p4) #[] x4, .func (.func q4) #[] y4, .func (.func r4) #[] z4] :=
    ⟨_, _, _, _, rfl, HK2.out.later hbA, ⟨_, _, _, _, rfl, HK4.out.later hbA, rfl⟩⟩
  have HF := Lib.hid hF
  have HBA := Lib.hid (ext HB4.out hbA)
  have HLA := Lib.hid (Nat.le_trans HL4.out hbA.size)
  clear hbA hF
  refine (rec_Hard (m := 2) (fs := [.func (.func p2) #[] x2, .func (.func q2) #[] y2, .func (.func r2) #[] z2, .func (.func p4) #[] x4, .func (.func q4) #[] y4, .func (.func r4) #[] z4]) (t := (fun _ => true)) _ HLA.out HL4.out rfl (heap_alloc_new w4 _) HF.out (by decide) (free_Hard _ _)).mono ?_
  rintro e w5 ⟨f1, f2, f3, rfl, hk, hb⟩
  have HK := Lib.hid hk
  have HB := Lib.hid (ext HBA.out hb)
  have hrA := (hb.block w.heap.size (by rw [World.size_alloc]; exact Nat.lt_succ_of_lt (row_lt HR4.out))).trans ((heap_alloc_old w4 _ (row_lt HR4.out)).trans HR4.out)
  have HR := Lib.hid hrA
  obtain ⟨_, ⟨q1, c1, rfl, _⟩, ⟨q2, c2, rfl, _⟩, ⟨q3, c3, rfl, _⟩⟩ := hk
  clear hb hrA
  have H1 : (#[.func (.func q1) #[] c1, .func (.func q2) #[] c2, .func (.func q3) #[] c3] : Array Value).all (·.oneCell') = true := all3
  have H2 : (#[.nilFunc, .nilFunc, .nilFunc] : Array Value).size = (#[.func (.func q1) #[] c1, .func (.func q2) #[] c2, .func (.func q3) #[] c3] : Array Value).size := rfl
  have H5 : (Tryz.prog.info? 257).map (·.size) = some (#[.func (.func q1) #[] c1, .func (.func q2) #[] c2, .func (.func q3) #[] c3] : Array Value).size := kt_Hard.i
  have H6 := Lib.hid H5
  have H3 := Lib.hid H1
  have H4 := Lib.hid H2
  clear H1 H2 H5
  go_wp2_with (with_reducible refine wpList_store_row rfl 257 (.tmp 0) (.tmp 6) rfl w.heap.size #[.func (.func q1) #[] c1, .func (.func q2) #[] c2, .func (.func q3) #[] c3] rfl rfl 257 #[.nilFunc, .nilFunc, .nilFunc] HR.out H6.out H4.out H3.out ?_)
  go_wp2
  exact bodyPost_ret (v := .agg #[.func (.func q1) #[] c1, .func (.func q2) #[] c2, .func (.func q3) #[] c3]) (results_cell_row rfl _ _ w.heap.size 257 #[.func (.func q1) #[] c1, .func (.func q2) #[] c2, .func (.func q3) #[] c3] (0, 0) _ rfl (setRow_heap _ _ _ _ _ _ HR.out) Tryz.underlying257 rfl (by kernel_rfl)) rfl ⟨_, _, _, rfl, (HK.out.unset (Nat.lt_succ_self _)).less (Nat.le_succ_of_le hL), below_setRow HB.out (Nat.le_refl _) _⟩
set_option maxHeartbeats 2000000 in
theorem commandKind_any {L : Nat} (w : World) (hL : L ≤ w.heap.size) : Calls Tryz.prog 29 #[] w (Makes L commandK 0 w) := by
  have hb0 : Below w.heap.size w (w.alloc (.cells #[.nilFunc, .nilFunc, .nilFunc] 87)) := (Below.refl _ _).alloc (Nat.le_refl _) _
  have hr0 := heap_alloc_new w (.cells #[.nilFunc, .nilFunc, .nilFunc] 87)
  have hl0 : w.heap.size + 1 ≤ (w.alloc (.cells #[.nilFunc, .nilFunc, .nilFunc] 87)).heap.size := by rw [World.size_alloc]; exact Nat.le_refl _
  have HB0 := Lib.hid hb0
  have HR0 := Lib.hid hr0
  have HL0 := Lib.hid hl0
  clear hb0 hr0 hl0
  go_enter Tryz.func29, Tryz.ntmps29
  go_wp2_with fail
  refine (number_any _ HL0.out).mono ?_
  rintro e w1 ⟨a1, b1, d1, rfl, hk1, hb1⟩
  have HK1 := Lib.hid hk1
  have HL1 := Lib.hid (Nat.le_trans HL0.out hb1.size)
  have HR1 := Lib.hid ((hb1.block w.heap.size (row_lt HR0.out)).trans HR0.out)
  have HB1 := Lib.hid (ext HB0.out hb1)
  obtain ⟨_, ⟨p1, x1, rfl, _⟩, ⟨q1, y1, rfl, _⟩, ⟨r1, z1, rfl, _⟩⟩ := hk1
  clear hb1
  go_wp2_with fail
  refine (field_Command_u64 _ HL1.out HK1.out of_command1).mono ?_
  rintro e w2 ⟨a2, b2, d2, rfl, hk2, hb2⟩
  have HK2 := Lib.hid hk2
  have HL2 := Lib.hid (Nat.le_trans HL1.out hb2.size)
  have HR2 := Lib.hid ((hb2.block w.heap.size (row_lt HR1.out)).trans HR1.out)
  have HB2 := Lib.hid (ext HB1.out hb2)
  have HK1 := Lib.hid (HK1.out.later hb2)
  obtain ⟨_, ⟨p2, x2, rfl, _⟩, ⟨q2, y2, rfl, _⟩, ⟨r2, z2, rfl, _⟩⟩ := hk2
  clear hb2
  go_wp2_with fail
  refine (number_any _ HL2.out).mono ?_
  rintro e w3 ⟨a3, b3, d3, rfl, hk3, hb3⟩
  have HK3 := Lib.hid hk3
  have HL3 := Lib.hid (Nat.le_trans HL2.out hb3.size)
  have HR3 := Lib.hid ((hb3.block w.heap.size (row_lt HR2.out)).trans HR2.out)
  have HB3 := Lib.hid (ext HB2.out hb3)
  have HK2 := Lib.hid (HK2.out.later hb3)
  obtain ⟨_, ⟨p3, x3, rfl, _⟩, ⟨q3, y3, rfl, _⟩, ⟨r3, z3, rfl, _⟩⟩ := hk3
  clear hb3
  go_wp2_with fail
  refine (field_Command_u64 _ HL3.out HK3.out of_command2).mono ?_
  rintro e w4 ⟨a4, b4, d4, rfl, hk4, hb4⟩
  have HK4 := Lib.hid hk4
  have HL4 := Lib.hid (Nat.le_trans HL3.out hb4.size)
  have HR4 := Lib.hid ((hb4.block w.heap.size (row_lt HR3.out)).trans HR3.out)
  have HB4 := Lib.hid (ext HB3.out hb4)
  have HK2 := Lib.hid (HK2.out.later hb4)
  have HK3 := Lib.hid (HK3.out.later hb4)
  obtain ⟨_, ⟨p4, x4, rfl, _⟩, ⟨q4, y4, rfl, _⟩, ⟨r4, z4, rfl, _⟩⟩ := hk4
  clear hb4
  go_wp2_with fail
  refine (wholeI_any _ HL4.out 1 5).mono ?_
  rintro e w5 ⟨a5, b5, d5, rfl, hk5, hb5⟩
  have HK5 := Lib.hid hk5
  have HL5 := Lib.hid (Nat.le_trans HL4.out hb5.size)
  have HR5 := Lib.hid ((hb5.block w.heap.size (row_lt HR4.out)).trans HR4.out)
  have HB5 := Lib.hid (ext HB4.out hb5)
  have HK2 := Lib.hid (HK2.out.later hb5)
  have HK4 := Lib.hid (HK4.out.later hb5)
  obtain ⟨_, ⟨p5, x5, rfl, _⟩, ⟨q5, y5, rfl, _⟩, ⟨r5, z5, rfl, _⟩⟩ := hk5
  clear hb5
  go_wp2_with fail
  refine (field_Command_int _ HL5.out HK5.out of_command3).mono ?_
  rintro e w6 ⟨a6, b6, d6, rfl, hk6, hb6⟩
  have HK6 := Lib.hid hk6
  have HL6 := Lib.hid (Nat.le_trans HL5.out hb6.size)
  have HR6 := Lib.hid ((hb6.block w.heap.size (row_lt HR5.out)).trans HR5.out)
  have HB6 := Lib.hid (ext HB5.out hb6)
  have HK2 := Lib.hid (HK2.out.later hb6)
  have HK4 := Lib.hid (HK4.out.later hb6)
  have HK5 := Lib.hid (HK5.out.later hb6)
  obtain ⟨_, ⟨p6, x6, rfl, _⟩, ⟨q6, y6, rfl, _⟩, ⟨r6, z6, rfl, _⟩⟩ := hk6
  clear hb6
  go_wp2_with fail
  refine (runT_any _ HL6.out 64).mono ?_
  rintro e w7 ⟨a7, b7, d7, rfl, hk7, hb7⟩
  have HK7 := Lib.hid hk7
  have HL7 := Lib.hid (Nat.le_trans HL6.out hb7.size)
  have HR7 := Lib.hid ((hb7.block w.heap.size (row_lt HR6.out)).trans HR6.out)
  have HB7 := Lib.hid (ext HB6.out hb7)
  have HK2 := Lib.hid (HK2.out.later hb7)
  have HK4 := Lib.hid (HK4.out.later hb7)
  have HK6 := Lib.hid (HK6.out.later hb7)
  obtain ⟨_, ⟨p7, x7, rfl, _⟩, ⟨q7, y7, rfl, _⟩, ⟨r7, z7, rfl, _⟩⟩ := hk7
  clear hb7
  go_wp2_with fail
  refine (field_Command_text _ HL7.out HK7.out of_command4).mono ?_
  rintro e w8 ⟨a8, b8, d8, rfl, hk8, hb8⟩
  have HK8 := Lib.hid hk8
  have HL8 := Lib.hid (Nat.le_trans HL7.out hb8.size)
  have HR8 := Lib.hid ((hb8.block w.heap.size (row_lt HR7.out)).trans HR7.out)
  have HB8 := Lib.hid (ext HB7.out hb8)
  have HK2 := Lib.hid (HK2.out.later hb8)
  have HK4 := Lib.hid (HK4.out.later hb8)
  have HK6 := Lib.hid (HK6.out.later hb8)
  have HK7 := Lib.hid (HK7.out.later hb8)
  obtain ⟨_, ⟨p8, x8, rfl, _⟩, ⟨q8, y8, rfl, _⟩, ⟨r8, z8, rfl, _⟩⟩ := hk8
  clear hb8
  go_wp2_with fail
  refine (signed_any _ HL8.out).mono ?_
  rintro e w9 ⟨a9, b9, d9, rfl, hk9, hb9⟩
  have HK9 := Lib.hid hk9
  have HL9 := Lib.hid (Nat.le_trans HL8.out hb9.size)
  have HR9 := Lib.hid ((hb9.block w.heap.size (row_lt HR8.out)).trans HR8.out)
  have HB9 := Lib.hid (ext HB8.out hb9)
  have HK2 := Lib.hid (HK2.out.later hb9)
  have HK4 := Lib.hid (HK4.out.later hb9)
  have HK6 := Lib.hid (HK6.out.later hb9)
  have HK8 := Lib.hid (HK8.out.later hb9)
  obtain ⟨_, ⟨p9, x9, rfl, _⟩, ⟨q9, y9, rfl, _⟩, ⟨r9, z9, rfl, _⟩⟩ := hk9
  clear hb9
  go_wp2_with fail
  refine (field_Command_i64 _ HL9.out HK9.out of_command5).mono ?_
  rintro e w10 ⟨a10, b10, d10, rfl, hk10, hb10⟩
  have HK10 := Lib.hid hk10
  have HL10 := Lib.hid (Nat.le_trans HL9.out hb10.size)
  have HR10 := Lib.hid ((hb10.block w.heap.size (row_lt HR9.out)).trans HR9.out)
  have HB10 := Lib.hid (ext HB9.out hb10)
  have HK2 := Lib.hid (HK2.out.later hb10)
  have HK4 := Lib.hid (HK4.out.later hb10)
  have HK6 := Lib.hid (HK6.out.later hb10)
  have HK8 := Lib.hid (HK8.out.later hb10)
  have HK9 := Lib.hid (HK9.out.later hb10)
  obtain ⟨_, ⟨p10, x10, rfl, _⟩, ⟨q10, y10, rfl, _⟩, ⟨r10, z10, rfl, _⟩⟩ := hk10
  clear hb10
  go_wp2_with fail
  refine (signed_any _ HL10.out).mono ?_
  rintro e w11 ⟨a11, b11, d11, rfl, hk11, hb11⟩
  have HK11 := Lib.hid hk11
  have HL11 := Lib.hid (Nat.le_trans HL10.out hb11.size)
  have HR11 := Lib.hid ((hb11.block w.heap.size (row_lt HR10.out)).trans HR10.out)
  have HB11 := Lib.hid (ext HB10.out hb11)
  have HK2 := Lib.hid (HK2.out.later hb11)
  have HK4 := Lib.hid (HK4.out.later hb11)
  have HK6 := Lib.hid (HK6.out.later hb11)
  have HK8 := Lib.hid (HK8.out.later hb11)
  have HK10 := Lib.hid (HK10.out.later hb11)
  obtain ⟨_, ⟨p11, x11, rfl, _⟩, ⟨q11, y11, rfl, _⟩, ⟨r11, z11, rfl, _⟩⟩ := hk11
  clear hb11
  go_wp2_with fail
  refine (field_Command_i64 _ HL11.out HK11.out of_command6).mono ?_
  rintro e w12 ⟨a12, b12, d12, rfl, hk12, hb12⟩
  have HK12 := Lib.hid hk12
  have HL12 := Lib.hid (Nat.le_trans HL11.out hb12.size)
  have HR12 := Lib.hid ((hb12.block w.heap.size (row_lt HR11.out)).trans HR11.out)
  have HB12 := Lib.hid (ext HB11.out hb12)
  have HK2 := Lib.hid (HK2.out.later hb12)
  have HK4 := Lib.hid (HK4.out.later hb12)
  have HK6 := Lib.hid (HK6.out.later hb12)
  have HK8 := Lib.hid (HK8.out.later hb12)
  have HK10 := Lib.hid (HK10.out.later hb12)
  have HK11 := Lib.hid (HK11.out.later hb12)
  obtain ⟨_, ⟨p12, x12, rfl, _⟩, ⟨q12, y12, rfl, _⟩, ⟨r12, z12, rfl, _⟩⟩ := hk12
  clear hb12
  go_wp2_with fail
  refine (number_any _ HL12.out).mono ?_
  rintro e w13 ⟨a13, b13, d13, rfl, hk13, hb13⟩
  have HK13 := Lib.hid hk13
  have HL13 := Lib.hid (Nat.le_trans HL12.out hb13.size)
  have HR13 := Lib.hid ((hb13.block w.heap.size (row_lt HR12.out)).trans HR12.out)
  have HB13 := Lib.hid (ext HB12.out hb13)
  have HK2 := Lib.hid (HK2.out.later hb13)
  have HK4 := Lib.hid (HK4.out.later hb13)
  have HK6 := Lib.hid (HK6.out.later hb13)
  have HK8 := Lib.hid (HK8.out.later hb13)
  have HK10 := Lib.hid (HK10.out.later hb13)
  have HK12 := Lib.hid (HK12.out.later hb13)
  obtain ⟨_, ⟨p13, x13, rfl, _⟩, ⟨q13, y13, rfl, _⟩, ⟨r13, z13, rfl, _⟩⟩ := hk13
  clear hb13
  go_wp2_with fail
  refine (field_Command_u64 _ HL13.out HK13.out of_command7).mono ?_
  rintro e w14 ⟨a14, b14, d14, rfl, hk14, hb14⟩
  have HK14 := Lib.hid hk14
  have HL14 := Lib.hid (Nat.le_trans HL13.out hb14.size)
  have HR14 := Lib.hid ((hb14.block w.heap.size (row_lt HR13.out)).trans HR13.out)
  have HB14 := Lib.hid (ext HB13.out hb14)
  have HK2 := Lib.hid (HK2.out.later hb14)
  have HK4 := Lib.hid (HK4.out.later hb14)
  have HK6 := Lib.hid (HK6.out.later hb14)
  have HK8 := Lib.hid (HK8.out.later hb14)
  have HK10 := Lib.hid (HK10.out.later hb14)
  have HK12 := Lib.hid (HK12.out.later hb14)
  have HK13 := Lib.hid (HK13.out.later hb14)
  obtain ⟨_, ⟨p14, x14, rfl, _⟩, ⟨q14, y14, rfl, _⟩, ⟨r14, z14, rfl, _⟩⟩ := hk14
  clear hb14
  go_wp2_with fail
  have hbA := (Below.refl w14.heap.size w14).alloc (Nat.le_refl _) (.cells #[.func (.func p2) #[] x2, .func (.func q2) #[] y2, .func (.func r2) #[] z2, .func (.func p4) #[] x4, .func (.func q4) #[] y4, .func (.func r4) #[] z4, .func (.func p6) #[] x6, .func (.func q6) #[] y6, .func (.func r6) #[] z6, .func (.func p8) #[] x8, .func (.func q8) #[] y8, .func (.func r8) #[] z8, .func (.func p10) #[] x10, .func (.func q10) #[] y10, .func (.func r10) #[] z10, .func (.func p12) #[] x12, .func (.func q12) #[] y12, .func (.func r12) #[] z12, .func (.func p14) #[] x14, .func (.func q14) #[] y14, .func (.func r14) #[] z14] 87)
  have hF : FieldsAt (w.heap.size + 1) (w14.alloc (.cells #[.func (.func p2) #[] x2, .func (.func q2) #[] y2, .func (.func r2) #[] z2, .func (.func p4) #[] x4, .func (.func q4) #[] y4, .func (.func r4) #[] z4, .func (.func p6) #[] x6, .func (.func q6) #[] y6, .func (.func r6) #[] z6, .func (.func p8) #[] x8, .func (.func q8) #[] y8, .func (.func r8) #[] z8, .func (.func p10) #[] x10, .func (.func q10) #[] y10, .func (.func r10) #[] z10, .func (.func p12) #[] x12, .func (.func q12) #[] y12, .func (.func r12) #[] z12, .func (.func p14) #[] x14, .func (.func q14) #[] y14, .func (.func r14) #[] z14] 87)) commandF 0 [.func (.func p2) #[] x2, .func (.func q2) #[] y2, .func (.func r2) #[] z2, .func (.func p4) #[] x4, .func (.func q4) #[] y4, .func (.func r4) #[] z4, .func (.func p6) #[] x6, .func (.func q6) #[] y6, .func (.func r6) #[] z6, .func (.func p8) #[] x8, .func (.func q8) #[] y8, .func (.func r8) #[] z8, .func (.func p10) #[] x10, .func (.func q10) #[] y10, .func (.func r10) #[] z10, .func (.func p12) #[] x12, .func (.func q12) #[] y12, .func (.func r12) #[] z12, .func (.func p14) #[] x14, .func (.func q14) #[] y14, .func (.func r14) #[] z14] :=
    ⟨_, _, _, _, rfl, HK2.out.later hbA, ⟨_, _, _, _, rfl, HK4.out.later hbA, ⟨_, _, _, _, rfl, HK6.out.later hbA, ⟨_, _, _, _, rfl, HK8.out.later hbA, ⟨_, _, _, _, rfl, HK10.out.later hbA, ⟨_, _, _, _, rfl, HK12.out.later hbA, ⟨_, _, _, _, rfl, HK14.out.later hbA, rfl⟩⟩⟩⟩⟩⟩⟩
  have HF := Lib.hid hF
  have HBA := Lib.hid (ext HB14.out hbA)
  have HLA := Lib.hid (Nat.le_trans HL14.out hbA.size)
  clear hbA hF
  refine (rec_Command (m := 7) (fs := [.func (.func p2) #[] x2, .func (.func q2) #[] y2, .func (.func r2) #[] z2, .func (.func p4) #[] x4, .func (.func q4) #[] y4, .func (.func r4) #[] z4, .func (.func p6) #[] x6, .func (.func q6) #[] y6, .func (.func r6) #[] z6, .func (.func p8) #[] x8, .func (.func q8) #[] y8, .func (.func r8) #[] z8, .func (.func p10) #[] x10, .func (.func q10) #[] y10, .func (.func r10) #[] z10, .func (.func p12) #[] x12, .func (.func q12) #[] y12, .func (.func r12) #[] z12, .func (.func p14) #[] x14, .func (.func q14) #[] y14, .func (.func r14) #[] z14]) (t := (fun _ => true)) _ HLA.out HL14.out rfl (heap_alloc_new w14 _) HF.out (by decide) (free_Command _ _)).mono ?_
  rintro e w15 ⟨f1, f2, f3, rfl, hk, hb⟩
  have HK := Lib.hid hk
  have HB := Lib.hid (ext HBA.out hb)
  have hrA := (hb.block w.heap.size (by rw [World.size_alloc]; exact Nat.lt_succ_of_lt (row_lt HR14.out))).trans ((heap_alloc_old w14 _ (row_lt HR14.out)).trans HR14.out)
  have HR := Lib.hid hrA
  obtain ⟨_, ⟨q1, c1, rfl, _⟩, ⟨q2, c2, rfl, _⟩, ⟨q3, c3, rfl, _⟩⟩ := hk
  clear hb hrA
  have H1 : (#[.func (.func q1) #[] c1, .func (.func q2) #[] c2, .func (.func q3) #[] c3] : Array Value).all (·.oneCell') = true := all3
  have H2 : (#[.nilFunc, .nilFunc, .nilFunc] : Array Value).size = (#[.func (.func q1) #[] c1, .func (.func q2) #[] c2, .func (.func q3) #[] c3] : Array Value).size := rfl
  have H5 : (Tryz.prog.info? 87).map (·.size) = some (#[.func (.func q1) #[] c1, .func (.func q2) #[] c2, .func (.func q3) #[] c3] : Array Value).size := kt_Command.i
  have H6 := Lib.hid H5
  have H3 := Lib.hid H1
  have H4 := Lib.hid H2
  clear H1 H2 H5
  go_wp2_with (with_reducible refine wpList_store_row rfl 87 (.tmp 0) (.tmp 16) rfl w.heap.size #[.func (.func q1) #[] c1, .func (.func q2) #[] c2, .func (.func q3) #[] c3] rfl rfl 87 #[.nilFunc, .nilFunc, .nilFunc] HR.out H6.out H4.out H3.out ?_)
  go_wp2
  exact bodyPost_ret (v := .agg #[.func (.func q1) #[] c1, .func (.func q2) #[] c2, .func (.func q3) #[] c3]) (results_cell_row rfl _ _ w.heap.size 87 #[.func (.func q1) #[] c1, .func (.func q2) #[] c2, .func (.func q3) #[] c3] (0, 0) _ rfl (setRow_heap _ _ _ _ _ _ HR.out) Tryz.underlying87 rfl (by kernel_rfl)) rfl ⟨_, _, _, rfl, (HK.out.unset (Nat.lt_succ_self _)).less (Nat.le_succ_of_le hL), below_setRow HB.out (Nat.le_refl _) _⟩
set_option maxHeartbeats 2000000 in
theorem replyKind_any {L : Nat} (w : World) (hL : L ≤ w.heap.size) : Calls Tryz.prog 33 #[] w (Makes L replyK 0 w) := by
  have hb0 : Below w.heap.size w (w.alloc (.cells #[.nilFunc, .nilFunc, .nilFunc] 95)) := (Below.refl _ _).alloc (Nat.le_refl _) _
  have hr0 := heap_alloc_new w (.cells #[.nilFunc, .nilFunc, .nilFunc] 95)
  have hl0 : w.heap.size + 1 ≤ (w.alloc (.cells #[.nilFunc, .nilFunc, .nilFunc] 95)).heap.size := by rw [World.size_alloc]; exact Nat.le_refl _
  have HB0 := Lib.hid hb0
  have HR0 := Lib.hid hr0
  have HL0 := Lib.hid hl0
  clear hb0 hr0 hl0
  go_enter Tryz.func33, Tryz.ntmps33
  go_wp2_with fail
  refine (number_any _ HL0.out).mono ?_
  rintro e w1 ⟨a1, b1, d1, rfl, hk1, hb1⟩
  have HK1 := Lib.hid hk1
  have HL1 := Lib.hid (Nat.le_trans HL0.out hb1.size)
  have HR1 := Lib.hid ((hb1.block w.heap.size (row_lt HR0.out)).trans HR0.out)
  have HB1 := Lib.hid (ext HB0.out hb1)
  obtain ⟨_, ⟨p1, x1, rfl, _⟩, ⟨q1, y1, rfl, _⟩, ⟨r1, z1, rfl, _⟩⟩ := hk1
  clear hb1
  go_wp2_with fail
  refine (field_Reply_u64 _ HL1.out HK1.out of_reply1).mono ?_
  rintro e w2 ⟨a2, b2, d2, rfl, hk2, hb2⟩
  have HK2 := Lib.hid hk2
  have HL2 := Lib.hid (Nat.le_trans HL1.out hb2.size)
  have HR2 := Lib.hid ((hb2.block w.heap.size (row_lt HR1.out)).trans HR1.out)
  have HB2 := Lib.hid (ext HB1.out hb2)
  have HK1 := Lib.hid (HK1.out.later hb2)
  obtain ⟨_, ⟨p2, x2, rfl, _⟩, ⟨q2, y2, rfl, _⟩, ⟨r2, z2, rfl, _⟩⟩ := hk2
  clear hb2
  go_wp2_with fail
  refine (number_any _ HL2.out).mono ?_
  rintro e w3 ⟨a3, b3, d3, rfl, hk3, hb3⟩
  have HK3 := Lib.hid hk3
  have HL3 := Lib.hid (Nat.le_trans HL2.out hb3.size)
  have HR3 := Lib.hid ((hb3.block w.heap.size (row_lt HR2.out)).trans HR2.out)
  have HB3 := Lib.hid (ext HB2.out hb3)
  have HK2 := Lib.hid (HK2.out.later hb3)
  obtain ⟨_, ⟨p3, x3, rfl, _⟩, ⟨q3, y3, rfl, _⟩, ⟨r3, z3, rfl, _⟩⟩ := hk3
  clear hb3
  go_wp2_with fail
  refine (field_Reply_u64 _ HL3.out HK3.out of_reply2).mono ?_
  rintro e w4 ⟨a4, b4, d4, rfl, hk4, hb4⟩
  have HK4 := Lib.hid hk4
  have HL4 := Lib.hid (Nat.le_trans HL3.out hb4.size)
  have HR4 := Lib.hid ((hb4.block w.heap.size (row_lt HR3.out)).trans HR3.out)
  have HB4 := Lib.hid (ext HB3.out hb4)
  have HK2 := Lib.hid (HK2.out.later hb4)
  have HK3 := Lib.hid (HK3.out.later hb4)
  obtain ⟨_, ⟨p4, x4, rfl, _⟩, ⟨q4, y4, rfl, _⟩, ⟨r4, z4, rfl, _⟩⟩ := hk4
  clear hb4
  go_wp2_with fail
  refine (wholeE_any _ HL4.out 0 20).mono ?_
  rintro e w5 ⟨a5, b5, d5, rfl, hk5, hb5⟩
  have HK5 := Lib.hid hk5
  have HL5 := Lib.hid (Nat.le_trans HL4.out hb5.size)
  have HR5 := Lib.hid ((hb5.block w.heap.size (row_lt HR4.out)).trans HR4.out)
  have HB5 := Lib.hid (ext HB4.out hb5)
  have HK2 := Lib.hid (HK2.out.later hb5)
  have HK4 := Lib.hid (HK4.out.later hb5)
  obtain ⟨_, ⟨p5, x5, rfl, _⟩, ⟨q5, y5, rfl, _⟩, ⟨r5, z5, rfl, _⟩⟩ := hk5
  clear hb5
  go_wp2_with fail
  refine (field_Reply_err _ HL5.out HK5.out of_reply3).mono ?_
  rintro e w6 ⟨a6, b6, d6, rfl, hk6, hb6⟩
  have HK6 := Lib.hid hk6
  have HL6 := Lib.hid (Nat.le_trans HL5.out hb6.size)
  have HR6 := Lib.hid ((hb6.block w.heap.size (row_lt HR5.out)).trans HR5.out)
  have HB6 := Lib.hid (ext HB5.out hb6)
  have HK2 := Lib.hid (HK2.out.later hb6)
  have HK4 := Lib.hid (HK4.out.later hb6)
  have HK5 := Lib.hid (HK5.out.later hb6)
  obtain ⟨_, ⟨p6, x6, rfl, _⟩, ⟨q6, y6, rfl, _⟩, ⟨r6, z6, rfl, _⟩⟩ := hk6
  clear hb6
  go_wp2_with fail
  refine (number_any _ HL6.out).mono ?_
  rintro e w7 ⟨a7, b7, d7, rfl, hk7, hb7⟩
  have HK7 := Lib.hid hk7
  have HL7 := Lib.hid (Nat.le_trans HL6.out hb7.size)
  have HR7 := Lib.hid ((hb7.block w.heap.size (row_lt HR6.out)).trans HR6.out)
  have HB7 := Lib.hid (ext HB6.out hb7)
  have HK2 := Lib.hid (HK2.out.later hb7)
  have HK4 := Lib.hid (HK4.out.later hb7)
  have HK6 := Lib.hid (HK6.out.later hb7)
  obtain ⟨_, ⟨p7, x7, rfl, _⟩, ⟨q7, y7, rfl, _⟩, ⟨r7, z7, rfl, _⟩⟩ := hk7
  clear hb7
  go_wp2_with fail
  refine (field_Reply_u64 _ HL7.out HK7.out of_reply4).mono ?_
  rintro e w8 ⟨a8, b8, d8, rfl, hk8, hb8⟩
  have HK8 := Lib.hid hk8
  have HL8 := Lib.hid (Nat.le_trans HL7.out hb8.size)
  have HR8 := Lib.hid ((hb8.block w.heap.size (row_lt HR7.out)).trans HR7.out)
  have HB8 := Lib.hid (ext HB7.out hb8)
  have HK2 := Lib.hid (HK2.out.later hb8)
  have HK4 := Lib.hid (HK4.out.later hb8)
  have HK6 := Lib.hid (HK6.out.later hb8)
  have HK7 := Lib.hid (HK7.out.later hb8)
  obtain ⟨_, ⟨p8, x8, rfl, _⟩, ⟨q8, y8, rfl, _⟩, ⟨r8, z8, rfl, _⟩⟩ := hk8
  clear hb8
  go_wp2_with fail
  refine (signed_any _ HL8.out).mono ?_
  rintro e w9 ⟨a9, b9, d9, rfl, hk9, hb9⟩
  have HK9 := Lib.hid hk9
  have HL9 := Lib.hid (Nat.le_trans HL8.out hb9.size)
  have HR9 := Lib.hid ((hb9.block w.heap.size (row_lt HR8.out)).trans HR8.out)
  have HB9 := Lib.hid (ext HB8.out hb9)
  have HK2 := Lib.hid (HK2.out.later hb9)
  have HK4 := Lib.hid (HK4.out.later hb9)
  have HK6 := Lib.hid (HK6.out.later hb9)
  have HK8 := Lib.hid (HK8.out.later hb9)
  obtain ⟨_, ⟨p9, x9, rfl, _⟩, ⟨q9, y9, rfl, _⟩, ⟨r9, z9, rfl, _⟩⟩ := hk9
  clear hb9
  go_wp2_with fail
  refine (field_Reply_i64 _ HL9.out HK9.out of_reply5).mono ?_
  rintro e w10 ⟨a10, b10, d10, rfl, hk10, hb10⟩
  have HK10 := Lib.hid hk10
  have HL10 := Lib.hid (Nat.le_trans HL9.out hb10.size)
  have HR10 := Lib.hid ((hb10.block w.heap.size (row_lt HR9.out)).trans HR9.out)
  have HB10 := Lib.hid (ext HB9.out hb10)
  have HK2 := Lib.hid (HK2.out.later hb10)
  have HK4 := Lib.hid (HK4.out.later hb10)
  have HK6 := Lib.hid (HK6.out.later hb10)
  have HK8 := Lib.hid (HK8.out.later hb10)
  have HK9 := Lib.hid (HK9.out.later hb10)
  obtain ⟨_, ⟨p10, x10, rfl, _⟩, ⟨q10, y10, rfl, _⟩, ⟨r10, z10, rfl, _⟩⟩ := hk10
  clear hb10
  go_wp2_with fail
  refine (signed_any _ HL10.out).mono ?_
  rintro e w11 ⟨a11, b11, d11, rfl, hk11, hb11⟩
  have HK11 := Lib.hid hk11
  have HL11 := Lib.hid (Nat.le_trans HL10.out hb11.size)
  have HR11 := Lib.hid ((hb11.block w.heap.size (row_lt HR10.out)).trans HR10.out)
  have HB11 := Lib.hid (ext HB10.out hb11)
  have HK2 := Lib.hid (HK2.out.later hb11)
  have HK4 := Lib.hid (HK4.out.later hb11)
  have HK6 := Lib.hid (HK6.out.later hb11)
  have HK8 := Lib.hid (HK8.out.later hb11)
  have HK10 := Lib.hid (HK10.out.later hb11)
  obtain ⟨_, ⟨p11, x11, rfl, _⟩, ⟨q11, y11, rfl, _⟩, ⟨r11, z11, rfl, _⟩⟩ := hk11
  clear hb11
  go_wp2_with fail
  refine (field_Reply_i64 _ HL11.out HK11.out of_reply6).mono ?_
  rintro e w12 ⟨a12, b12, d12, rfl, hk12, hb12⟩
  have HK12 := Lib.hid hk12
  have HL12 := Lib.hid (Nat.le_trans HL11.out hb12.size)
  have HR12 := Lib.hid ((hb12.block w.heap.size (row_lt HR11.out)).trans HR11.out)
  have HB12 := Lib.hid (ext HB11.out hb12)
  have HK2 := Lib.hid (HK2.out.later hb12)
  have HK4 := Lib.hid (HK4.out.later hb12)
  have HK6 := Lib.hid (HK6.out.later hb12)
  have HK8 := Lib.hid (HK8.out.later hb12)
  have HK10 := Lib.hid (HK10.out.later hb12)
  have HK11 := Lib.hid (HK11.out.later hb12)
  obtain ⟨_, ⟨p12, x12, rfl, _⟩, ⟨q12, y12, rfl, _⟩, ⟨r12, z12, rfl, _⟩⟩ := hk12
  clear hb12
  go_wp2_with fail
  have hbA := (Below.refl w12.heap.size w12).alloc (Nat.le_refl _) (.cells #[.func (.func p2) #[] x2, .func (.func q2) #[] y2, .func (.func r2) #[] z2, .func (.func p4) #[] x4, .func (.func q4) #[] y4, .func (.func r4) #[] z4, .func (.func p6) #[] x6, .func (.func q6) #[] y6, .func (.func r6) #[] z6, .func (.func p8) #[] x8, .func (.func q8) #[] y8, .func (.func r8) #[] z8, .func (.func p10) #[] x10, .func (.func q10) #[] y10, .func (.func r10) #[] z10, .func (.func p12) #[] x12, .func (.func q12) #[] y12, .func (.func r12) #[] z12] 95)
  have hF : FieldsAt (w.heap.size + 1) (w12.alloc (.cells #[.func (.func p2) #[] x2, .func (.func q2) #[] y2, .func (.func r2) #[] z2, .func (.func p4) #[] x4, .func (.func q4) #[] y4, .func (.func r4) #[] z4, .func (.func p6) #[] x6, .func (.func q6) #[] y6, .func (.func r6) #[] z6, .func (.func p8) #[] x8, .func (.func q8) #[] y8, .func (.func r8) #[] z8, .func (.func p10) #[] x10, .func (.func q10) #[] y10, .func (.func r10) #[] z10, .func (.func p12) #[] x12, .func (.func q12) #[] y12, .func (.func r12) #[] z12] 95)) replyF 0 [.func (.func p2) #[] x2, .func (.func q2) #[] y2, .func (.func r2) #[] z2, .func (.func p4) #[] x4, .func (.func q4) #[] y4, .func (.func r4) #[] z4, .func (.func p6) #[] x6, .func (.func q6) #[] y6, .func (.func r6) #[] z6, .func (.func p8) #[] x8, .func (.func q8) #[] y8, .func (.func r8) #[] z8, .func (.func p10) #[] x10, .func (.func q10) #[] y10, .func (.func r10) #[] z10, .func (.func p12) #[] x12, .func (.func q12) #[] y12, .func (.func r12) #[] z12] :=
    ⟨_, _, _, _, rfl, HK2.out.later hbA, ⟨_, _, _, _, rfl, HK4.out.later hbA, ⟨_, _, _, _, rfl, HK6.out.later hbA, ⟨_, _, _, _, rfl, HK8.out.later hbA, ⟨_, _, _, _, rfl, HK10.out.later hbA, ⟨_, _, _, _, rfl, HK12.out.later hbA, rfl⟩⟩⟩⟩⟩⟩
  have HF := Lib.hid hF
  have HBA := Lib.hid (ext HB12.out hbA)
  have HLA := Lib.hid (Nat.le_trans HL12.out hbA.size)
  clear hbA hF
  refine (rec_Reply (m := 6) (fs := [.func (.func p2) #[] x2, .func (.func q2) #[] y2, .func (.func r2) #[] z2, .func (.func p4) #[] x4, .func (.func q4) #[] y4, .func (.func r4) #[] z4, .func (.func p6) #[] x6, .func (.func q6) #[] y6, .func (.func r6) #[] z6, .func (.func p8) #[] x8, .func (.func q8) #[] y8, .func (.func r8) #[] z8, .func (.func p10) #[] x10, .func (.func q10) #[] y10, .func (.func r10) #[] z10, .func (.func p12) #[] x12, .func (.func q12) #[] y12, .func (.func r12) #[] z12]) (t := (fun _ => true)) _ HLA.out HL12.out rfl (heap_alloc_new w12 _) HF.out (by decide) (free_Reply _ _)).mono ?_
  rintro e w13 ⟨f1, f2, f3, rfl, hk, hb⟩
  have HK := Lib.hid hk
  have HB := Lib.hid (ext HBA.out hb)
  have hrA := (hb.block w.heap.size (by rw [World.size_alloc]; exact Nat.lt_succ_of_lt (row_lt HR12.out))).trans ((heap_alloc_old w12 _ (row_lt HR12.out)).trans HR12.out)
  have HR := Lib.hid hrA
  obtain ⟨_, ⟨q1, c1, rfl, _⟩, ⟨q2, c2, rfl, _⟩, ⟨q3, c3, rfl, _⟩⟩ := hk
  clear hb hrA
  have H1 : (#[.func (.func q1) #[] c1, .func (.func q2) #[] c2, .func (.func q3) #[] c3] : Array Value).all (·.oneCell') = true := all3
  have H2 : (#[.nilFunc, .nilFunc, .nilFunc] : Array Value).size = (#[.func (.func q1) #[] c1, .func (.func q2) #[] c2, .func (.func q3) #[] c3] : Array Value).size := rfl
  have H5 : (Tryz.prog.info? 95).map (·.size) = some (#[.func (.func q1) #[] c1, .func (.func q2) #[] c2, .func (.func q3) #[] c3] : Array Value).size := kt_Reply.i
  have H6 := Lib.hid H5
  have H3 := Lib.hid H1
  have H4 := Lib.hid H2
  clear H1 H2 H5
  go_wp2_with (with_reducible refine wpList_store_row rfl 95 (.tmp 0) (.tmp 14) rfl w.heap.size #[.func (.func q1) #[] c1, .func (.func q2) #[] c2, .func (.func q3) #[] c3] rfl rfl 95 #[.nilFunc, .nilFunc, .nilFunc] HR.out H6.out H4.out H3.out ?_)
  go_wp2
  exact bodyPost_ret (v := .agg #[.func (.func q1) #[] c1, .func (.func q2) #[] c2, .func (.func q3) #[] c3]) (results_cell_row rfl _ _ w.heap.size 95 #[.func (.func q1) #[] c1, .func (.func q2) #[] c2, .func (.func q3) #[] c3] (0, 0) _ rfl (setRow_heap _ _ _ _ _ _ HR.out) Tryz.underlying95 rfl (by kernel_rfl)) rfl ⟨_, _, _, rfl, (HK.out.unset (Nat.lt_succ_self _)).less (Nat.le_succ_of_le hL), below_setRow HB.out (Nat.le_refl _) _⟩
set_option maxHeartbeats 2000000 in
theorem toldKind_any {L : Nat} (w : World) (hL : L ≤ w.heap.size) : Calls Tryz.prog 40 #[] w (Makes L toldK 0 w) := by
  have hb0 : Below w.heap.size w (w.alloc (.cells #[.nilFunc, .nilFunc, .nilFunc] 110)) := (Below.refl _ _).alloc (Nat.le_refl _) _
  have hr0 := heap_alloc_new w (.cells #[.nilFunc, .nilFunc, .nilFunc] 110)
  have hl0 : w.heap.size + 1 ≤ (w.alloc (.cells #[.nilFunc, .nilFunc, .nilFunc] 110)).heap.size := by rw [World.size_alloc]; exact Nat.le_refl _
  have HB0 := Lib.hid hb0
  have HR0 := Lib.hid hr0
  have HL0 := Lib.hid hl0
  clear hb0 hr0 hl0
  go_enter Tryz.func40, Tryz.ntmps40
  go_wp2_with fail
  refine (number_any _ HL0.out).mono ?_
  rintro e w1 ⟨a1, b1, d1, rfl, hk1, hb1⟩
  have HK1 := Lib.hid hk1
  have HL1 := Lib.hid (Nat.le_trans HL0.out hb1.size)
  have HR1 := Lib.hid ((hb1.block w.heap.size (row_lt HR0.out)).trans HR0.out)
  have HB1 := Lib.hid (ext HB0.out hb1)
  obtain ⟨_, ⟨p1, x1, rfl, _⟩, ⟨q1, y1, rfl, _⟩, ⟨r1, z1, rfl, _⟩⟩ := hk1
  clear hb1
  go_wp2_with fail
  refine (field_Told_u64 _ HL1.out HK1.out of_told1).mono ?_
  rintro e w2 ⟨a2, b2, d2, rfl, hk2, hb2⟩
  have HK2 := Lib.hid hk2
  have HL2 := Lib.hid (Nat.le_trans HL1.out hb2.size)
  have HR2 := Lib.hid ((hb2.block w.heap.size (row_lt HR1.out)).trans HR1.out)
  have HB2 := Lib.hid (ext HB1.out hb2)
  have HK1 := Lib.hid (HK1.out.later hb2)
  obtain ⟨_, ⟨p2, x2, rfl, _⟩, ⟨q2, y2, rfl, _⟩, ⟨r2, z2, rfl, _⟩⟩ := hk2
  clear hb2
  go_wp2_with fail
  refine (flag_any (L := w.heap.size + 1) _).mono ?_
  rintro e w3 ⟨a3, b3, d3, rfl, hk3, hb3⟩
  have HK3 := Lib.hid hk3
  have HL3 := Lib.hid (Nat.le_trans HL2.out hb3.size)
  have HR3 := Lib.hid ((hb3.block w.heap.size (row_lt HR2.out)).trans HR2.out)
  have HB3 := Lib.hid (ext HB2.out hb3)
  have HK2 := Lib.hid (HK2.out.later hb3)
  obtain ⟨_, ⟨p3, x3, rfl, _⟩, ⟨q3, y3, rfl, _⟩, ⟨r3, z3, rfl, _⟩⟩ := hk3
  clear hb3
  go_wp2_with fail
  refine (field_Told_bool _ HL3.out HK3.out of_told2).mono ?_
  rintro e w4 ⟨a4, b4, d4, rfl, hk4, hb4⟩
  have HK4 := Lib.hid hk4
  have HL4 := Lib.hid (Nat.le_trans HL3.out hb4.size)
  have HR4 := Lib.hid ((hb4.block w.heap.size (row_lt HR3.out)).trans HR3.out)
  have HB4 := Lib.hid (ext HB3.out hb4)
  have HK2 := Lib.hid (HK2.out.later hb4)
  have HK3 := Lib.hid (HK3.out.later hb4)
  obtain ⟨_, ⟨p4, x4, rfl, _⟩, ⟨q4, y4, rfl, _⟩, ⟨r4, z4, rfl, _⟩⟩ := hk4
  clear hb4
  go_wp2_with fail
  refine (wholeI_any _ HL4.out 0 16).mono ?_
  rintro e w5 ⟨a5, b5, d5, rfl, hk5, hb5⟩
  have HK5 := Lib.hid hk5
  have HL5 := Lib.hid (Nat.le_trans HL4.out hb5.size)
  have HR5 := Lib.hid ((hb5.block w.heap.size (row_lt HR4.out)).trans HR4.out)
  have HB5 := Lib.hid (ext HB4.out hb5)
  have HK2 := Lib.hid (HK2.out.later hb5)
  have HK4 := Lib.hid (HK4.out.later hb5)
  obtain ⟨_, ⟨p5, x5, rfl, _⟩, ⟨q5, y5, rfl, _⟩, ⟨r5, z5, rfl, _⟩⟩ := hk5
  clear hb5
  go_wp2_with fail
  refine (field_Told_int _ HL5.out HK5.out of_told3).mono ?_
  rintro e w6 ⟨a6, b6, d6, rfl, hk6, hb6⟩
  have HK6 := Lib.hid hk6
  have HL6 := Lib.hid (Nat.le_trans HL5.out hb6.size)
  have HR6 := Lib.hid ((hb6.block w.heap.size (row_lt HR5.out)).trans HR5.out)
  have HB6 := Lib.hid (ext HB5.out hb6)
  have HK2 := Lib.hid (HK2.out.later hb6)
  have HK4 := Lib.hid (HK4.out.later hb6)
  have HK5 := Lib.hid (HK5.out.later hb6)
  obtain ⟨_, ⟨p6, x6, rfl, _⟩, ⟨q6, y6, rfl, _⟩, ⟨r6, z6, rfl, _⟩⟩ := hk6
  clear hb6
  go_wp2_with fail
  refine (replyKind_any _ HL6.out).mono ?_
  rintro e w7 ⟨a7, b7, d7, rfl, hk7, hb7⟩
  have HK7 := Lib.hid hk7
  have HL7 := Lib.hid (Nat.le_trans HL6.out hb7.size)
  have HR7 := Lib.hid ((hb7.block w.heap.size (row_lt HR6.out)).trans HR6.out)
  have HB7 := Lib.hid (ext HB6.out hb7)
  have HK2 := Lib.hid (HK2.out.later hb7)
  have HK4 := Lib.hid (HK4.out.later hb7)
  have HK6 := Lib.hid (HK6.out.later hb7)
  obtain ⟨_, ⟨p7, x7, rfl, _⟩, ⟨q7, y7, rfl, _⟩, ⟨r7, z7, rfl, _⟩⟩ := hk7
  clear hb7
  go_wp2_with fail
  refine (field_Told_Reply _ HL7.out HK7.out of_told4).mono ?_
  rintro e w8 ⟨a8, b8, d8, rfl, hk8, hb8⟩
  have HK8 := Lib.hid hk8
  have HL8 := Lib.hid (Nat.le_trans HL7.out hb8.size)
  have HR8 := Lib.hid ((hb8.block w.heap.size (row_lt HR7.out)).trans HR7.out)
  have HB8 := Lib.hid (ext HB7.out hb8)
  have HK2 := Lib.hid (HK2.out.later hb8)
  have HK4 := Lib.hid (HK4.out.later hb8)
  have HK6 := Lib.hid (HK6.out.later hb8)
  have HK7 := Lib.hid (HK7.out.later hb8)
  obtain ⟨_, ⟨p8, x8, rfl, _⟩, ⟨q8, y8, rfl, _⟩, ⟨r8, z8, rfl, _⟩⟩ := hk8
  clear hb8
  go_wp2_with fail
  refine (signed_any _ HL8.out).mono ?_
  rintro e w9 ⟨a9, b9, d9, rfl, hk9, hb9⟩
  have HK9 := Lib.hid hk9
  have HL9 := Lib.hid (Nat.le_trans HL8.out hb9.size)
  have HR9 := Lib.hid ((hb9.block w.heap.size (row_lt HR8.out)).trans HR8.out)
  have HB9 := Lib.hid (ext HB8.out hb9)
  have HK2 := Lib.hid (HK2.out.later hb9)
  have HK4 := Lib.hid (HK4.out.later hb9)
  have HK6 := Lib.hid (HK6.out.later hb9)
  have HK8 := Lib.hid (HK8.out.later hb9)
  obtain ⟨_, ⟨p9, x9, rfl, _⟩, ⟨q9, y9, rfl, _⟩, ⟨r9, z9, rfl, _⟩⟩ := hk9
  clear hb9
  go_wp2_with fail
  refine (field_Told_i64 _ HL9.out HK9.out of_told5).mono ?_
  rintro e w10 ⟨a10, b10, d10, rfl, hk10, hb10⟩
  have HK10 := Lib.hid hk10
  have HL10 := Lib.hid (Nat.le_trans HL9.out hb10.size)
  have HR10 := Lib.hid ((hb10.block w.heap.size (row_lt HR9.out)).trans HR9.out)
  have HB10 := Lib.hid (ext HB9.out hb10)
  have HK2 := Lib.hid (HK2.out.later hb10)
  have HK4 := Lib.hid (HK4.out.later hb10)
  have HK6 := Lib.hid (HK6.out.later hb10)
  have HK8 := Lib.hid (HK8.out.later hb10)
  have HK9 := Lib.hid (HK9.out.later hb10)
  obtain ⟨_, ⟨p10, x10, rfl, _⟩, ⟨q10, y10, rfl, _⟩, ⟨r10, z10, rfl, _⟩⟩ := hk10
  clear hb10
  go_wp2_with fail
  refine (signed_any _ HL10.out).mono ?_
  rintro e w11 ⟨a11, b11, d11, rfl, hk11, hb11⟩
  have HK11 := Lib.hid hk11
  have HL11 := Lib.hid (Nat.le_trans HL10.out hb11.size)
  have HR11 := Lib.hid ((hb11.block w.heap.size (row_lt HR10.out)).trans HR10.out)
  have HB11 := Lib.hid (ext HB10.out hb11)
  have HK2 := Lib.hid (HK2.out.later hb11)
  have HK4 := Lib.hid (HK4.out.later hb11)
  have HK6 := Lib.hid (HK6.out.later hb11)
  have HK8 := Lib.hid (HK8.out.later hb11)
  have HK10 := Lib.hid (HK10.out.later hb11)
  obtain ⟨_, ⟨p11, x11, rfl, _⟩, ⟨q11, y11, rfl, _⟩, ⟨r11, z11, rfl, _⟩⟩ := hk11
  clear hb11
  go_wp2_with fail
  refine (field_Told_i64 _ HL11.out HK11.out of_told6).mono ?_
  rintro e w12 ⟨a12, b12, d12, rfl, hk12, hb12⟩
  have HK12 := Lib.hid hk12
  have HL12 := Lib.hid (Nat.le_trans HL11.out hb12.size)
  have HR12 := Lib.hid ((hb12.block w.heap.size (row_lt HR11.out)).trans HR11.out)
  have HB12 := Lib.hid (ext HB11.out hb12)
  have HK2 := Lib.hid (HK2.out.later hb12)
  have HK4 := Lib.hid (HK4.out.later hb12)
  have HK6 := Lib.hid (HK6.out.later hb12)
  have HK8 := Lib.hid (HK8.out.later hb12)
  have HK10 := Lib.hid (HK10.out.later hb12)
  have HK11 := Lib.hid (HK11.out.later hb12)
  obtain ⟨_, ⟨p12, x12, rfl, _⟩, ⟨q12, y12, rfl, _⟩, ⟨r12, z12, rfl, _⟩⟩ := hk12
  clear hb12
  go_wp2_with fail
  have hbA := (Below.refl w12.heap.size w12).alloc (Nat.le_refl _) (.cells #[.func (.func p2) #[] x2, .func (.func q2) #[] y2, .func (.func r2) #[] z2, .func (.func p4) #[] x4, .func (.func q4) #[] y4, .func (.func r4) #[] z4, .func (.func p6) #[] x6, .func (.func q6) #[] y6, .func (.func r6) #[] z6, .func (.func p8) #[] x8, .func (.func q8) #[] y8, .func (.func r8) #[] z8, .func (.func p10) #[] x10, .func (.func q10) #[] y10, .func (.func r10) #[] z10, .func (.func p12) #[] x12, .func (.func q12) #[] y12, .func (.func r12) #[] z12] 110)
  have hF : FieldsAt (w.heap.size + 1) (w12.alloc (.cells #[.func (.func p2) #[] x2, .func (.func q2) #[] y2, .func (.func r2) #[] z2, .func (.func p4) #[] x4, .func (.func q4) #[] y4, .func (.func r4) #[] z4, .func (.func p6) #[] x6, .func (.func q6) #[] y6, .func (.func r6) #[] z6, .func (.func p8) #[] x8, .func (.func q8) #[] y8, .func (.func r8) #[] z8, .func (.func p10) #[] x10, .func (.func q10) #[] y10, .func (.func r10) #[] z10, .func (.func p12) #[] x12, .func (.func q12) #[] y12, .func (.func r12) #[] z12] 110)) toldF 0 [.func (.func p2) #[] x2, .func (.func q2) #[] y2, .func (.func r2) #[] z2, .func (.func p4) #[] x4, .func (.func q4) #[] y4, .func (.func r4) #[] z4, .func (.func p6) #[] x6, .func (.func q6) #[] y6, .func (.func r6) #[] z6, .func (.func p8) #[] x8, .func (.func q8) #[] y8, .func (.func r8) #[] z8, .func (.func p10) #[] x10, .func (.func q10) #[] y10, .func (.func r10) #[] z10, .func (.func p12) #[] x12, .func (.func q12) #[] y12, .func (.func r12) #[] z12] :=
    ⟨_, _, _, _, rfl, HK2.out.later hbA, ⟨_, _, _, _, rfl, HK4.out.later hbA, ⟨_, _, _, _, rfl, HK6.out.later hbA, ⟨_, _, _, _, rfl, HK8.out.later hbA, ⟨_, _, _, _, rfl, HK10.out.later hbA, ⟨_, _, _, _, rfl, HK12.out.later hbA, rfl⟩⟩⟩⟩⟩⟩
  have HF := Lib.hid hF
  have HBA := Lib.hid (ext HB12.out hbA)
  have HLA := Lib.hid (Nat.le_trans HL12.out hbA.size)
  clear hbA hF
  refine (rec_Told (m := 6) (fs := [.func (.func p2) #[] x2, .func (.func q2) #[] y2, .func (.func r2) #[] z2, .func (.func p4) #[] x4, .func (.func q4) #[] y4, .func (.func r4) #[] z4, .func (.func p6) #[] x6, .func (.func q6) #[] y6, .func (.func r6) #[] z6, .func (.func p8) #[] x8, .func (.func q8) #[] y8, .func (.func r8) #[] z8, .func (.func p10) #[] x10, .func (.func q10) #[] y10, .func (.func r10) #[] z10, .func (.func p12) #[] x12, .func (.func q12) #[] y12, .func (.func r12) #[] z12]) (t := (fun _ => true)) _ HLA.out HL12.out rfl (heap_alloc_new w12 _) HF.out (by decide) (free_Told _ _)).mono ?_
  rintro e w13 ⟨f1, f2, f3, rfl, hk, hb⟩
  have HK := Lib.hid hk
  have HB := Lib.hid (ext HBA.out hb)
  have hrA := (hb.block w.heap.size (by rw [World.size_alloc]; exact Nat.lt_succ_of_lt (row_lt HR12.out))).trans ((heap_alloc_old w12 _ (row_lt HR12.out)).trans HR12.out)
  have HR := Lib.hid hrA
  obtain ⟨_, ⟨q1, c1, rfl, _⟩, ⟨q2, c2, rfl, _⟩, ⟨q3, c3, rfl, _⟩⟩ := hk
  clear hb hrA
  have H1 : (#[.func (.func q1) #[] c1, .func (.func q2) #[] c2, .func (.func q3) #[] c3] : Array Value).all (·.oneCell') = true := all3
  have H2 : (#[.nilFunc, .nilFunc, .nilFunc] : Array Value).size = (#[.func (.func q1) #[] c1, .func (.func q2) #[] c2, .func (.func q3) #[] c3] : Array Value).size := rfl
  have H5 : (Tryz.prog.info? 110).map (·.size) = some (#[.func (.func q1) #[] c1, .func (.func q2) #[] c2, .func (.func q3) #[] c3] : Array Value).size := kt_Told.i
  have H6 := Lib.hid H5
  have H3 := Lib.hid H1
  have H4 := Lib.hid H2
  clear H1 H2 H5
  go_wp2_with (with_reducible refine wpList_store_row rfl 110 (.tmp 0) (.tmp 14) rfl w.heap.size #[.func (.func q1) #[] c1, .func (.func q2) #[] c2, .func (.func q3) #[] c3] rfl rfl 110 #[.nilFunc, .nilFunc, .nilFunc] HR.out H6.out H4.out H3.out ?_)
  go_wp2
  exact bodyPost_ret (v := .agg #[.func (.func q1) #[] c1, .func (.func q2) #[] c2, .func (.func q3) #[] c3]) (results_cell_row rfl _ _ w.heap.size 110 #[.func (.func q1) #[] c1, .func (.func q2) #[] c2, .func (.func q3) #[] c3] (0, 0) _ rfl (setRow_heap _ _ _ _ _ _ HR.out) Tryz.underlying110 rfl (by kernel_rfl)) rfl ⟨_, _, _, rfl, (HK.out.unset (Nat.lt_succ_self _)).less (Nat.le_succ_of_le hL), below_setRow HB.out (Nat.le_refl _) _⟩
end Go.Proofs.YtlgbipmmpocepaaGreat.Kd
