/- The kinds of hard states, commands, replies, what edges are told, made. Written by geni.py. -/
import Derived.Test.YtnmcaifecfaoiaaGreatKhA
namespace Go.Proofs.YtnmcaifecfaoiaaGreat.Kd
open Go.RowKit By CoP Co Mo

set_option maxHeartbeats 2000000 in
theorem hardKind_any {L : Nat} (w : World) (hL : L ≤ w.heap.size) : Calls Tryz.prog 46 #[] w (Makes L hardK 0 w) := by
  have hb0 : Below w.heap.size w (w.alloc (.cells #[.nilFunc, .nilFunc, .nilFunc] 121)) := (Below.refl _ _).alloc (Nat.le_refl _) _
  have hr0 := heap_alloc_new w (.cells #[.nilFunc, .nilFunc, .nilFunc] 121)
  have hl0 : w.heap.size + 1 ≤ (w.alloc (.cells #[.nilFunc, .nilFunc, .nilFunc] 121)).heap.size := by rw [World.size_alloc]; exact Nat.le_refl _
  have HB0 := Lib.hid hb0
  have HR0 := Lib.hid hr0
  have HL0 := Lib.hid hl0
  clear hb0 hr0 hl0
  go_enter Tryz.func46, Tryz.ntmps46
  go_wp2_with fail
  refine (number_any _ HL0.out).mono ?_
  rintro e w1 ⟨a1, b1, d1, rfl, hk1, hb1⟩
  have HK1 := Lib.hid hk1
  have HL1 := Lib.hid (Nat.le_trans HL0.out hb1.size)
  have HR1 := Lib.hid ((hb1.block w.heap.size (row_lt HR0.out)).trans HR0.out)
  have HB1 := Lib.hid (ext HB0.out hb1)
  obtain ⟨_, ⟨p1, x1, rfl, _⟩, ⟨q1, y1, rfl, _⟩, ⟨r1, z1, rfl, _⟩⟩ := hk1
  clear hb1
  go_wp2_with fail
  refine (field_Hard_u64 _ HL1.out HK1.out of_hard1).mono ?_
  rintro e w2 ⟨a2, b2, d2, rfl, hk2, hb2⟩
  have HK2 := Lib.hid hk2
  have HL2 := Lib.hid (Nat.le_trans HL1.out hb2.size)
  have HR2 := Lib.hid ((hb2.block w.heap.size (row_lt HR1.out)).trans HR1.out)
  have HB2 := Lib.hid (ext HB1.out hb2)
  have HK1 := Lib.hid (HK1.out.later hb2)
  obtain ⟨_, ⟨p2, x2, rfl, _⟩, ⟨q2, y2, rfl, _⟩, ⟨r2, z2, rfl, _⟩⟩ := hk2
  clear hb2
  go_wp2_with fail
  refine (wholeI_any _ HL2.out 0 16).mono ?_
  rintro e w3 ⟨a3, b3, d3, rfl, hk3, hb3⟩
  have HK3 := Lib.hid hk3
  have HL3 := Lib.hid (Nat.le_trans HL2.out hb3.size)
  have HR3 := Lib.hid ((hb3.block w.heap.size (row_lt HR2.out)).trans HR2.out)
  have HB3 := Lib.hid (ext HB2.out hb3)
  have HK2 := Lib.hid (HK2.out.later hb3)
  obtain ⟨_, ⟨p3, x3, rfl, _⟩, ⟨q3, y3, rfl, _⟩, ⟨r3, z3, rfl, _⟩⟩ := hk3
  clear hb3
  go_wp2_with fail
  refine (field_Hard_int _ HL3.out HK3.out of_hard2).mono ?_
  rintro e w4 ⟨a4, b4, d4, rfl, hk4, hb4⟩
  have HK4 := Lib.hid hk4
  have HL4 := Lib.hid (Nat.le_trans HL3.out hb4.size)
  have HR4 := Lib.hid ((hb4.block w.heap.size (row_lt HR3.out)).trans HR3.out)
  have HB4 := Lib.hid (ext HB3.out hb4)
  have HK2 := Lib.hid (HK2.out.later hb4)
  have HK3 := Lib.hid (HK3.out.later hb4)
  obtain ⟨_, ⟨p4, x4, rfl, _⟩, ⟨q4, y4, rfl, _⟩, ⟨r4, z4, rfl, _⟩⟩ := hk4
  clear hb4
  go_wp2_with fail
  have hbA := (Below.refl w4.heap.size w4).alloc (Nat.le_refl _) (.cells #[.func (.func p2) #[] x2, .func (.func q2) #[] y2, .func (.func r2) #[] z2, .func (.func p4) #[] x4, .func (.func q4) #[] y4, .func (.func r4) #[] z4] 121)
  have hF : FieldsAt (w.heap.size + 1) (w4.alloc (.cells #[.func (.func p2) #[] x2, .func (.func q2) #[] y2, .func (.func r2) #[] z2, .func (.func p4) #[] x4, .func (.func q4) #[] y4, .func (.func r4) #[] z4] 121)) hardF 0 [.func (.func p2) #[] x2, .func (.func q2) #[] y2, .func (.func r2) #[] z2, .func (.func p4) #[] x4, .func (.func q4) #[] y4, .func (.func r4) #[] z4] :=
    ⟨_, _, _, _, rfl, HK2.out.later hbA, ⟨_, _, _, _, rfl, HK4.out.later hbA, rfl⟩⟩
  have HF := Lib.hid hF
  have HBA := Lib.hid (ext HB4.out hbA)
  have HLA := Lib.hid (Nat.le_trans HL4.out hbA.size)
  clear hbA hF
  refine (rec_Hard (m := 2) (fs := [.func (.func p2) #[] x2, .func (.func q2) #[] y2, .func (.func r2) #[] z2, .func (.func p4) #[] x4, .func (.func q4) #[] y4, .func (.func r4) #[] z4]) (t := (fun _ => true)) _ HLA.out HL4.out rfl (heap_alloc_new w4 _) HF.out (by decide) (free_Hard _ _)).mono ?_
  rintro e w5 ⟨f1, f2, f3, rfl, hk, hb⟩
  have HK := Lib.hid hk
  have HB := Lib.hid (ext HBA.out hb)
  have hrA := (hb.block w.heap.size (by rw [World.size_alloc]; exact Nat.lt_succ_of_lt (row_lt HR4.out))).trans ((heap_alloc_old w4 _ (row_lt HR4.out)).trans HR4.out)
  have HR := Lib.hid hrA
  obtain ⟨_, ⟨q1, c1, rfl, _⟩, ⟨q2, c2, rfl, _⟩, ⟨q3, c3, rfl, _⟩⟩ := hk
  clear hb hrA
  have H1 : (#[.func (.func q1) #[] c1, .func (.func q2) #[] c2, .func (.func q3) #[] c3] : Array Value).all (·.oneCell') = true := all3
  have H2 : (#[.nilFunc, .nilFunc, .nilFunc] : Array Value).size = (#[.func (.func q1) #[] c1, .func (.func q2) #[] c2, .func (.func q3) #[] c3] : Array Value).size := rfl
  have H5 : (Tryz.prog.info? 121).map (·.size) = some (#[.func (.func q1) #[] c1, .func (.func q2) #[] c2, .func (.func q3) #[] c3] : Array Value).size := kt_Hard.i
  have H6 := Lib.hid H5
  have H3 := Lib.hid H1
  have H4 := Lib.hid H2
  clear H1 H2 H5
  go_wp2_with (with_reducible refine wpList_store_row rfl 121 (.tmp 0) (.tmp 6) rfl w.heap.size #[.func (.func q1) #[] c1, .func (.func q2) #[] c2, .func (.func q3) #[] c3] rfl rfl 121 #[.nilFunc, .nilFunc, .nilFunc] HR.out H6.out H4.out H3.out ?_)
  go_wp2
  exact bodyPost_ret (v := .agg #[.func (.func q1) #[] c1, .func (.func q2) #[] c2, .func (.func q3) #[] c3]) (results_cell_row rfl _ _ w.heap.size 121 #[.func (.func q1) #[] c1, .func (.func q2) #[] c2, .func (.func q3) #[] c3] (0, 0) _ rfl (setRow_heap _ _ _ _ _ _ HR.out) Tryz.underlying121 rfl (by kernel_rfl)) rfl ⟨_, _, _, rfl, (HK.out.unset (Nat.lt_succ_self _)).less (Nat.le_succ_of_le hL), below_setRow HB.out (Nat.le_refl _) _⟩
end Go.Proofs.YtnmcaifecfaoiaaGreat.Kd
