/- What is asked of a message's fields together; its kind made; package msg's Msg and ToMsg. Written by genmsgk.py. -/
import Derived.Test.YtnmcaifecfaoiaaGreatKpA
import Derived.Test.YtnmcaifecfaoiaaGreatGQ
import Derived.Test.YtnmcaifecfaoiaaGreatKnE
import Derived.Deep.RegionWith
namespace Go.Proofs.YtnmcaifecfaoiaaGreat.Kd
open Go.RowKit By CoP Co Mo

theorem field0C (a b c : Value) (w : World) : (Instr.field 103 (.agg #[a, b, c]) 0).run Tryz.prog w = .ok a w := by
  simp [Instr.field, Sem.run_bind, Tryz.runUnderlying103, part, asAgg, go_sem]
set_option maxRecDepth 100000 in
set_option maxHeartbeats 2000000 in
theorem msgTied_chunk (g o : Nat) (w : World) (fr tt : Int) (tm ix lt cm rd : Nat) (ok : Bool) (E : Value) (a b : Value) (cf : Data) (fo : Int) (D : Value)
    (hr : Rd w g o [.int .i64 7, .int .i64 fr, .int .i64 tt, .int .u64 (tm : Int), .int .u64 (ix : Int), .int .u64 (lt : Int), .int .u64 (cm : Int), .int .u64 (rd : Int), .bool ok, E, a, b, .int .i64 fo, D]) (hrep : confK.rep w (Old w) [a, b] cf) :
    Calls Tryz.prog 18 #[.pointer (some ⟨g, o, none⟩)] w (Says (confK.sound cf) w) := by
  have c0 : w.cell? ⟨g, o, none⟩ = some (.int .i64 7) := hr 0 _ rfl
  have hfd := field0C
  have HR := Lib.hid hr
  have HREP := Lib.hid hrep
  clear hr hrep
  generalize hsd : confK.sound cf = sd
  have HSD := Lib.hid hsd
  clear hsd
  go_enter Tryz.func18, Tryz.ntmps18
  go_wp2
  first
  | (go_region_law (first
    | (go_simp; go_at_call 40; refine (confKind_any _ (Nat.le_refl _)).mono ?_; rintro e w1 ⟨f1, f2, f3, rfl, hk, hb1⟩
       have HB1 := Lib.hid (below_undrew hb1)
       obtain ⟨_, ⟨q1, x1, rfl, e1, HS0⟩, ⟨q2, x2, rfl, _⟩, ⟨q3, x3, rfl, _⟩⟩ := hk
       have e1' : ∀ (args : Array Value) (w : World), (callFunc q1 args).run Tryz.prog w = .ok (.enter q1 args) w := e1
       have HS := Lib.hid HS0
       clear hb1 HS0 e1)
    | (go_simp; go_at_fn q1; have hcall := HS.out _ (keeps_of (Below.refl _ _)) g (o + 10) _ cf ((HR.out.part (a := [.int .i64 7, .int .i64 fr, .int .i64 tt, .int .u64 (tm : Int), .int .u64 (ix : Int), .int .u64 (lt : Int), .int .u64 (cm : Int), .int .u64 (rd : Int), .bool ok, E]) (b := [a, b] ++ [.int .i64 fo, D])).head.below HB1.out) (confK_ok.below HREP.out HB1.out)
       rw [HSD.out] at hcall
       refine hcall.mono ?_; rintro e w2 ⟨rfl, hb2⟩
       have HB2 := Lib.hid (By.ext HB1.out hb2)
       clear hb2 hcall)))
  | fail "region"
  all_goals
    go_wp2
    go_ret
    exact ⟨rfl, HB2.out⟩
set_option maxHeartbeats 1000000 in
theorem msg_tied {L : Nat} (W : World) : TiedAt L W (.func (.func 18) #[] #[]) msgF msgT := by
  refine ⟨_, _, rfl, enters_of Tryz.func18 (by kernel_rfl) rfl, ?_⟩
  intro w _ g o xs ds hr hrep
  obtain ⟨kd, fr, tt, tm, ix, lt, cm, rd, ok, Ae, ce, es, A, c, vs, A2, c2, ls, fo, A3, c3, da, rfl, rfl, _, _, _, ⟨_, h1, _, _, h2, _, hcf⟩, _⟩ := msgF_shape hrep
  show Calls _ _ _ _ (Says (if kd = 7 then confK.sound (confD vs ls) else noConf (confD vs ls)) w)
  by_cases h7 : kd = 7
  · subst h7
    rw [if_pos rfl]
    exact msgTied_chunk g o w fr tt tm ix lt cm rd ok _ _ _ _ fo _ hr hcf
  · rw [if_neg h7, noConf_eq]
    have h7b : (kd == 7) = false := by rw [beq_eq_false_iff_ne]; exact h7
    have c0 : w.cell? ⟨g, o, none⟩ = some (.int .i64 kd) := hr 0 _ rfl
    have c10 : w.cell? ⟨g, o + 10, none⟩ = some (.slice A vs.length c) := hr 10 _ rfl
    have c11 : w.cell? ⟨g, o + 10 + 1, none⟩ = some (.slice A2 ls.length c2) := hr 11 _ rfl
    have ev : vs.isEmpty = decide (vs.length = 0) := by cases vs <;> simp
    have el : ls.isEmpty = decide (ls.length = 0) := by cases ls <;> simp
    rw [ev, el]
    clear hr hrep hcf ev el h7
    generalize vs.length = n at *
    generalize ls.length = m at *
    by_cases e1 : n = 0
    · subst e1
      by_cases e2 : m = 0
      · subst e2
        go_enter Tryz.func18, Tryz.ntmps18
        go_wp2
        go_ret
        exact ⟨rfl, Below.refl _ _⟩
      · have t1 : ((m : Int) == 0) = false := by rw [beq_eq_false_iff_ne]; omega
        have t2 : (m == 0) = false := by rw [beq_eq_false_iff_ne]; omega
        have t3 : decide (m = 0) = false := decide_eq_false e2
        rw [t3]
        go_enter Tryz.func18, Tryz.ntmps18
        go_wp2
        go_ret
        exact ⟨rfl, Below.refl _ _⟩
    · have t1 : ((n : Int) == 0) = false := by rw [beq_eq_false_iff_ne]; omega
      have t2 : (n == 0) = false := by rw [beq_eq_false_iff_ne]; omega
      have t3 : decide (n = 0) = false := decide_eq_false e1
      rw [t3, Bool.false_and]
      go_enter Tryz.func18, Tryz.ntmps18
      go_wp2
      go_ret
      exact ⟨rfl, Below.refl _ _⟩
theorem freeS_Conf {L : Nat} (W : World) (off : Nat) (k : Kd) : SoundAt L W (.func (.func 92) #[] #[]) off (looseK k) := by
  refine ⟨_, _, rfl, enters_of Tryz.func92 (by kernel_rfl) rfl, ?_⟩
  intro w hb g o vs d _ _
  show Calls _ _ _ _ (Says true w)
  clear hb
  go_enter Tryz.func92, Tryz.ntmps92
  go_wp2
  go_ret
  exact ⟨rfl, Below.refl _ _⟩
set_option maxHeartbeats 400000 in
theorem loose_Conf {L off : Nat} {k : Kd} {kv1 kv2 kv3 : Value} (w : World) (_ : L ≤ w.heap.size) (hk : KindAt L w kv1 kv2 kv3 off k) : Calls Tryz.prog 39 #[.agg #[kv1, kv2, kv3]] w (Makes L (looseK k) off w) := by
  have HK := Lib.hid hk
  obtain ⟨_, ⟨q1, c1, rfl, _⟩, ⟨q2, c2, rfl, _⟩, ⟨q3, c3, rfl, _⟩⟩ := hk
  go_enter Tryz.func39, Tryz.ntmps39
  go_wp2
  have hb : ∀ (X Y : Obj), Below w.heap.size w ((w.alloc X).alloc Y) := fun X Y => ((Below.refl _ _).alloc (Nat.le_refl _) _).alloc (by simp) _
  refine bodyPost_ret (v := .agg #[.func (.func 92) #[] #[], .func (.func q2) #[] c2, .func (.func q3) #[] c3]) (results_cell_row rfl _ _ (w.heap.size + 1) 103 #[.func (.func 92) #[] #[], .func (.func q2) #[] c2, .func (.func q3) #[] c3] (0, 0) _ rfl (heap_alloc2_new w _ _) Tryz.underlying103 rfl (by kernel_rfl)) rfl ⟨_, _, _, rfl, ⟨looseK_ok HK.out.ok, freeS_Conf _ _ _, ?_, ?_⟩, hb _ _⟩
  · have h := HK.out.p.later (hb (.cells #[.func (.func 92) #[] #[], .func (.func q2) #[] c2, .func (.func q3) #[] c3] 103) (.cells #[.func (.func 92) #[] #[], .func (.func q2) #[] c2, .func (.func q3) #[] c3] 103))
    exact h
  · have h := HK.out.g.later (hb (.cells #[.func (.func 92) #[] #[], .func (.func q2) #[] c2, .func (.func q3) #[] c3] 103) (.cells #[.func (.func 92) #[] #[], .func (.func q2) #[] c2, .func (.func q3) #[] c3] 103))
    exact h
set_option maxHeartbeats 2000000 in
theorem msgKind_any {L : Nat} (w : World) (hL : L ≤ w.heap.size) : Calls Tryz.prog 11 #[] w (Makes L msgK 0 w) := by
  have hb0 : Below w.heap.size w (w.alloc (.cells #[.nilFunc, .nilFunc, .nilFunc] 47)) := (Below.refl _ _).alloc (Nat.le_refl _) _
  have hr0 := heap_alloc_new w (.cells #[.nilFunc, .nilFunc, .nilFunc] 47)
  have hl0 : w.heap.size + 1 ≤ (w.alloc (.cells #[.nilFunc, .nilFunc, .nilFunc] 47)).heap.size := by rw [World.size_alloc]; exact Nat.le_refl _
  have HB0 := Lib.hid hb0
  have HR0 := Lib.hid hr0
  have HL0 := Lib.hid hl0
  clear hb0 hr0 hl0
  go_enter Tryz.func11, Tryz.ntmps11
  go_wp2_with fail
  refine (wholeI_any _ HL0.out 1 9).mono ?_
  rintro e w1 ⟨a1, b1, d1, rfl, hk1, hb1⟩
  have HK1 := Lib.hid hk1
  have HL1 := Lib.hid (Nat.le_trans HL0.out hb1.size)
  have HR1 := Lib.hid ((hb1.block w.heap.size (row_lt HR0.out)).trans HR0.out)
  have HB1 := Lib.hid (ext HB0.out hb1)
  obtain ⟨_, ⟨p1, x1, rfl, _⟩, ⟨q1, y1, rfl, _⟩, ⟨r1, z1, rfl, _⟩⟩ := hk1
  clear hb1
  go_wp2_with fail
  refine (field_Msg_int _ HL1.out HK1.out of_msg1).mono ?_
  rintro e w2 ⟨a2, b2, d2, rfl, hk2, hb2⟩
  have HK2 := Lib.hid hk2
  have HL2 := Lib.hid (Nat.le_trans HL1.out hb2.size)
  have HR2 := Lib.hid ((hb2.block w.heap.size (row_lt HR1.out)).trans HR1.out)
  have HB2 := Lib.hid (ext HB1.out hb2)
  have HK1 := Lib.hid (HK1.out.later hb2)
  obtain ⟨_, ⟨p2, x2, rfl, _⟩, ⟨q2, y2, rfl, _⟩, ⟨r2, z2, rfl, _⟩⟩ := hk2
  clear hb2
  go_wp2_with fail
  refine (wholeI_any _ HL2.out 1 16).mono ?_
  rintro e w3 ⟨a3, b3, d3, rfl, hk3, hb3⟩
  have HK3 := Lib.hid hk3
  have HL3 := Lib.hid (Nat.le_trans HL2.out hb3.size)
  have HR3 := Lib.hid ((hb3.block w.heap.size (row_lt HR2.out)).trans HR2.out)
  have HB3 := Lib.hid (ext HB2.out hb3)
  have HK2 := Lib.hid (HK2.out.later hb3)
  obtain ⟨_, ⟨p3, x3, rfl, _⟩, ⟨q3, y3, rfl, _⟩, ⟨r3, z3, rfl, _⟩⟩ := hk3
  clear hb3
  go_wp2_with fail
  refine (field_Msg_int _ HL3.out HK3.out of_msg2).mono ?_
  rintro e w4 ⟨a4, b4, d4, rfl, hk4, hb4⟩
  have HK4 := Lib.hid hk4
  have HL4 := Lib.hid (Nat.le_trans HL3.out hb4.size)
  have HR4 := Lib.hid ((hb4.block w.heap.size (row_lt HR3.out)).trans HR3.out)
  have HB4 := Lib.hid (ext HB3.out hb4)
  have HK2 := Lib.hid (HK2.out.later hb4)
  have HK3 := Lib.hid (HK3.out.later hb4)
  obtain ⟨_, ⟨p4, x4, rfl, _⟩, ⟨q4, y4, rfl, _⟩, ⟨r4, z4, rfl, _⟩⟩ := hk4
  clear hb4
  go_wp2_with fail
  refine (wholeI_any _ HL4.out 1 16).mono ?_
  rintro e w5 ⟨a5, b5, d5, rfl, hk5, hb5⟩
  have HK5 := Lib.hid hk5
  have HL5 := Lib.hid (Nat.le_trans HL4.out hb5.size)
  have HR5 := Lib.hid ((hb5.block w.heap.size (row_lt HR4.out)).trans HR4.out)
  have HB5 := Lib.hid (ext HB4.out hb5)
  have HK2 := Lib.hid (HK2.out.later hb5)
  have HK4 := Lib.hid (HK4.out.later hb5)
  obtain ⟨_, ⟨p5, x5, rfl, _⟩, ⟨q5, y5, rfl, _⟩, ⟨r5, z5, rfl, _⟩⟩ := hk5
  clear hb5
  go_wp2_with fail
  refine (field_Msg_int _ HL5.out HK5.out of_msg3).mono ?_
  rintro e w6 ⟨a6, b6, d6, rfl, hk6, hb6⟩
  have HK6 := Lib.hid hk6
  have HL6 := Lib.hid (Nat.le_trans HL5.out hb6.size)
  have HR6 := Lib.hid ((hb6.block w.heap.size (row_lt HR5.out)).trans HR5.out)
  have HB6 := Lib.hid (ext HB5.out hb6)
  have HK2 := Lib.hid (HK2.out.later hb6)
  have HK4 := Lib.hid (HK4.out.later hb6)
  have HK5 := Lib.hid (HK5.out.later hb6)
  obtain ⟨_, ⟨p6, x6, rfl, _⟩, ⟨q6, y6, rfl, _⟩, ⟨r6, z6, rfl, _⟩⟩ := hk6
  clear hb6
  go_wp2_with fail
  refine (number_any _ HL6.out).mono ?_
  rintro e w7 ⟨a7, b7, d7, rfl, hk7, hb7⟩
  have HK7 := Lib.hid hk7
  have HL7 := Lib.hid (Nat.le_trans HL6.out hb7.size)
  have HR7 := Lib.hid ((hb7.block w.heap.size (row_lt HR6.out)).trans HR6.out)
  have HB7 := Lib.hid (ext HB6.out hb7)
  have HK2 := Lib.hid (HK2.out.later hb7)
  have HK4 := Lib.hid (HK4.out.later hb7)
  have HK6 := Lib.hid (HK6.out.later hb7)
  obtain ⟨_, ⟨p7, x7, rfl, _⟩, ⟨q7, y7, rfl, _⟩, ⟨r7, z7, rfl, _⟩⟩ := hk7
  clear hb7
  go_wp2_with fail
  refine (field_Msg_u64 _ HL7.out HK7.out of_msg4).mono ?_
  rintro e w8 ⟨a8, b8, d8, rfl, hk8, hb8⟩
  have HK8 := Lib.hid hk8
  have HL8 := Lib.hid (Nat.le_trans HL7.out hb8.size)
  have HR8 := Lib.hid ((hb8.block w.heap.size (row_lt HR7.out)).trans HR7.out)
  have HB8 := Lib.hid (ext HB7.out hb8)
  have HK2 := Lib.hid (HK2.out.later hb8)
  have HK4 := Lib.hid (HK4.out.later hb8)
  have HK6 := Lib.hid (HK6.out.later hb8)
  have HK7 := Lib.hid (HK7.out.later hb8)
  obtain ⟨_, ⟨p8, x8, rfl, _⟩, ⟨q8, y8, rfl, _⟩, ⟨r8, z8, rfl, _⟩⟩ := hk8
  clear hb8
  go_wp2_with fail
  refine (number_any _ HL8.out).mono ?_
  rintro e w9 ⟨a9, b9, d9, rfl, hk9, hb9⟩
  have HK9 := Lib.hid hk9
  have HL9 := Lib.hid (Nat.le_trans HL8.out hb9.size)
  have HR9 := Lib.hid ((hb9.block w.heap.size (row_lt HR8.out)).trans HR8.out)
  have HB9 := Lib.hid (ext HB8.out hb9)
  have HK2 := Lib.hid (HK2.out.later hb9)
  have HK4 := Lib.hid (HK4.out.later hb9)
  have HK6 := Lib.hid (HK6.out.later hb9)
  have HK8 := Lib.hid (HK8.out.later hb9)
  obtain ⟨_, ⟨p9, x9, rfl, _⟩, ⟨q9, y9, rfl, _⟩, ⟨r9, z9, rfl, _⟩⟩ := hk9
  clear hb9
  go_wp2_with fail
  refine (field_Msg_u64 _ HL9.out HK9.out of_msg5).mono ?_
  rintro e w10 ⟨a10, b10, d10, rfl, hk10, hb10⟩
  have HK10 := Lib.hid hk10
  have HL10 := Lib.hid (Nat.le_trans HL9.out hb10.size)
  have HR10 := Lib.hid ((hb10.block w.heap.size (row_lt HR9.out)).trans HR9.out)
  have HB10 := Lib.hid (ext HB9.out hb10)
  have HK2 := Lib.hid (HK2.out.later hb10)
  have HK4 := Lib.hid (HK4.out.later hb10)
  have HK6 := Lib.hid (HK6.out.later hb10)
  have HK8 := Lib.hid (HK8.out.later hb10)
  have HK9 := Lib.hid (HK9.out.later hb10)
  obtain ⟨_, ⟨p10, x10, rfl, _⟩, ⟨q10, y10, rfl, _⟩, ⟨r10, z10, rfl, _⟩⟩ := hk10
  clear hb10
  go_wp2_with fail
  refine (number_any _ HL10.out).mono ?_
  rintro e w11 ⟨a11, b11, d11, rfl, hk11, hb11⟩
  have HK11 := Lib.hid hk11
  have HL11 := Lib.hid (Nat.le_trans HL10.out hb11.size)
  have HR11 := Lib.hid ((hb11.block w.heap.size (row_lt HR10.out)).trans HR10.out)
  have HB11 := Lib.hid (ext HB10.out hb11)
  have HK2 := Lib.hid (HK2.out.later hb11)
  have HK4 := Lib.hid (HK4.out.later hb11)
  have HK6 := Lib.hid (HK6.out.later hb11)
  have HK8 := Lib.hid (HK8.out.later hb11)
  have HK10 := Lib.hid (HK10.out.later hb11)
  obtain ⟨_, ⟨p11, x11, rfl, _⟩, ⟨q11, y11, rfl, _⟩, ⟨r11, z11, rfl, _⟩⟩ := hk11
  clear hb11
  go_wp2_with fail
  refine (field_Msg_u64 _ HL11.out HK11.out of_msg6).mono ?_
  rintro e w12 ⟨a12, b12, d12, rfl, hk12, hb12⟩
  have HK12 := Lib.hid hk12
  have HL12 := Lib.hid (Nat.le_trans HL11.out hb12.size)
  have HR12 := Lib.hid ((hb12.block w.heap.size (row_lt HR11.out)).trans HR11.out)
  have HB12 := Lib.hid (ext HB11.out hb12)
  have HK2 := Lib.hid (HK2.out.later hb12)
  have HK4 := Lib.hid (HK4.out.later hb12)
  have HK6 := Lib.hid (HK6.out.later hb12)
  have HK8 := Lib.hid (HK8.out.later hb12)
  have HK10 := Lib.hid (HK10.out.later hb12)
  have HK11 := Lib.hid (HK11.out.later hb12)
  obtain ⟨_, ⟨p12, x12, rfl, _⟩, ⟨q12, y12, rfl, _⟩, ⟨r12, z12, rfl, _⟩⟩ := hk12
  clear hb12
  go_wp2_with fail
  refine (number_any _ HL12.out).mono ?_
  rintro e w13 ⟨a13, b13, d13, rfl, hk13, hb13⟩
  have HK13 := Lib.hid hk13
  have HL13 := Lib.hid (Nat.le_trans HL12.out hb13.size)
  have HR13 := Lib.hid ((hb13.block w.heap.size (row_lt HR12.out)).trans HR12.out)
  have HB13 := Lib.hid (ext HB12.out hb13)
  have HK2 := Lib.hid (HK2.out.later hb13)
  have HK4 := Lib.hid (HK4.out.later hb13)
  have HK6 := Lib.hid (HK6.out.later hb13)
  have HK8 := Lib.hid (HK8.out.later hb13)
  have HK10 := Lib.hid (HK10.out.later hb13)
  have HK12 := Lib.hid (HK12.out.later hb13)
  obtain ⟨_, ⟨p13, x13, rfl, _⟩, ⟨q13, y13, rfl, _⟩, ⟨r13, z13, rfl, _⟩⟩ := hk13
  clear hb13
  go_wp2_with fail
  refine (field_Msg_u64 _ HL13.out HK13.out of_msg7).mono ?_
  rintro e w14 ⟨a14, b14, d14, rfl, hk14, hb14⟩
  have HK14 := Lib.hid hk14
  have HL14 := Lib.hid (Nat.le_trans HL13.out hb14.size)
  have HR14 := Lib.hid ((hb14.block w.heap.size (row_lt HR13.out)).trans HR13.out)
  have HB14 := Lib.hid (ext HB13.out hb14)
  have HK2 := Lib.hid (HK2.out.later hb14)
  have HK4 := Lib.hid (HK4.out.later hb14)
  have HK6 := Lib.hid (HK6.out.later hb14)
  have HK8 := Lib.hid (HK8.out.later hb14)
  have HK10 := Lib.hid (HK10.out.later hb14)
  have HK12 := Lib.hid (HK12.out.later hb14)
  have HK13 := Lib.hid (HK13.out.later hb14)
  obtain ⟨_, ⟨p14, x14, rfl, _⟩, ⟨q14, y14, rfl, _⟩, ⟨r14, z14, rfl, _⟩⟩ := hk14
  clear hb14
  go_wp2_with fail
  refine (number_any _ HL14.out).mono ?_
  rintro e w15 ⟨a15, b15, d15, rfl, hk15, hb15⟩
  have HK15 := Lib.hid hk15
  have HL15 := Lib.hid (Nat.le_trans HL14.out hb15.size)
  have HR15 := Lib.hid ((hb15.block w.heap.size (row_lt HR14.out)).trans HR14.out)
  have HB15 := Lib.hid (ext HB14.out hb15)
  have HK2 := Lib.hid (HK2.out.later hb15)
  have HK4 := Lib.hid (HK4.out.later hb15)
  have HK6 := Lib.hid (HK6.out.later hb15)
  have HK8 := Lib.hid (HK8.out.later hb15)
  have HK10 := Lib.hid (HK10.out.later hb15)
  have HK12 := Lib.hid (HK12.out.later hb15)
  have HK14 := Lib.hid (HK14.out.later hb15)
  obtain ⟨_, ⟨p15, x15, rfl, _⟩, ⟨q15, y15, rfl, _⟩, ⟨r15, z15, rfl, _⟩⟩ := hk15
  clear hb15
  go_wp2_with fail
  refine (field_Msg_u64 _ HL15.out HK15.out of_msg8).mono ?_
  rintro e w16 ⟨a16, b16, d16, rfl, hk16, hb16⟩
  have HK16 := Lib.hid hk16
  have HL16 := Lib.hid (Nat.le_trans HL15.out hb16.size)
  have HR16 := Lib.hid ((hb16.block w.heap.size (row_lt HR15.out)).trans HR15.out)
  have HB16 := Lib.hid (ext HB15.out hb16)
  have HK2 := Lib.hid (HK2.out.later hb16)
  have HK4 := Lib.hid (HK4.out.later hb16)
  have HK6 := Lib.hid (HK6.out.later hb16)
  have HK8 := Lib.hid (HK8.out.later hb16)
  have HK10 := Lib.hid (HK10.out.later hb16)
  have HK12 := Lib.hid (HK12.out.later hb16)
  have HK14 := Lib.hid (HK14.out.later hb16)
  have HK15 := Lib.hid (HK15.out.later hb16)
  obtain ⟨_, ⟨p16, x16, rfl, _⟩, ⟨q16, y16, rfl, _⟩, ⟨r16, z16, rfl, _⟩⟩ := hk16
  clear hb16
  go_wp2_with fail
  refine (flag_any (L := w.heap.size + 1) _).mono ?_
  rintro e w17 ⟨a17, b17, d17, rfl, hk17, hb17⟩
  have HK17 := Lib.hid hk17
  have HL17 := Lib.hid (Nat.le_trans HL16.out hb17.size)
  have HR17 := Lib.hid ((hb17.block w.heap.size (row_lt HR16.out)).trans HR16.out)
  have HB17 := Lib.hid (ext HB16.out hb17)
  have HK2 := Lib.hid (HK2.out.later hb17)
  have HK4 := Lib.hid (HK4.out.later hb17)
  have HK6 := Lib.hid (HK6.out.later hb17)
  have HK8 := Lib.hid (HK8.out.later hb17)
  have HK10 := Lib.hid (HK10.out.later hb17)
  have HK12 := Lib.hid (HK12.out.later hb17)
  have HK14 := Lib.hid (HK14.out.later hb17)
  have HK16 := Lib.hid (HK16.out.later hb17)
  obtain ⟨_, ⟨p17, x17, rfl, _⟩, ⟨q17, y17, rfl, _⟩, ⟨r17, z17, rfl, _⟩⟩ := hk17
  clear hb17
  go_wp2_with fail
  refine (field_Msg_bool _ HL17.out HK17.out of_msg9).mono ?_
  rintro e w18 ⟨a18, b18, d18, rfl, hk18, hb18⟩
  have HK18 := Lib.hid hk18
  have HL18 := Lib.hid (Nat.le_trans HL17.out hb18.size)
  have HR18 := Lib.hid ((hb18.block w.heap.size (row_lt HR17.out)).trans HR17.out)
  have HB18 := Lib.hid (ext HB17.out hb18)
  have HK2 := Lib.hid (HK2.out.later hb18)
  have HK4 := Lib.hid (HK4.out.later hb18)
  have HK6 := Lib.hid (HK6.out.later hb18)
  have HK8 := Lib.hid (HK8.out.later hb18)
  have HK10 := Lib.hid (HK10.out.later hb18)
  have HK12 := Lib.hid (HK12.out.later hb18)
  have HK14 := Lib.hid (HK14.out.later hb18)
  have HK16 := Lib.hid (HK16.out.later hb18)
  have HK17 := Lib.hid (HK17.out.later hb18)
  obtain ⟨_, ⟨p18, x18, rfl, _⟩, ⟨q18, y18, rfl, _⟩, ⟨r18, z18, rfl, _⟩⟩ := hk18
  clear hb18
  go_wp2_with fail
  refine (entryKind_any _ HL18.out).mono ?_
  rintro e w19 ⟨a19, b19, d19, rfl, hk19, hb19⟩
  have HK19 := Lib.hid hk19
  have HL19 := Lib.hid (Nat.le_trans HL18.out hb19.size)
  have HR19 := Lib.hid ((hb19.block w.heap.size (row_lt HR18.out)).trans HR18.out)
  have HB19 := Lib.hid (ext HB18.out hb19)
  have HK2 := Lib.hid (HK2.out.later hb19)
  have HK4 := Lib.hid (HK4.out.later hb19)
  have HK6 := Lib.hid (HK6.out.later hb19)
  have HK8 := Lib.hid (HK8.out.later hb19)
  have HK10 := Lib.hid (HK10.out.later hb19)
  have HK12 := Lib.hid (HK12.out.later hb19)
  have HK14 := Lib.hid (HK14.out.later hb19)
  have HK16 := Lib.hid (HK16.out.later hb19)
  have HK18 := Lib.hid (HK18.out.later hb19)
  obtain ⟨_, ⟨p19, x19, rfl, _⟩, ⟨q19, y19, rfl, _⟩, ⟨r19, z19, rfl, _⟩⟩ := hk19
  clear hb19
  go_wp2_with fail
  refine (listE_any _ HL19.out HK19.out 8 (by omega) (by omega) rfl rfl).mono ?_
  rintro e w20 ⟨a20, b20, d20, rfl, hk20, hb20⟩
  have HK20 := Lib.hid hk20
  have HL20 := Lib.hid (Nat.le_trans HL19.out hb20.size)
  have HR20 := Lib.hid ((hb20.block w.heap.size (row_lt HR19.out)).trans HR19.out)
  have HB20 := Lib.hid (ext HB19.out hb20)
  have HK2 := Lib.hid (HK2.out.later hb20)
  have HK4 := Lib.hid (HK4.out.later hb20)
  have HK6 := Lib.hid (HK6.out.later hb20)
  have HK8 := Lib.hid (HK8.out.later hb20)
  have HK10 := Lib.hid (HK10.out.later hb20)
  have HK12 := Lib.hid (HK12.out.later hb20)
  have HK14 := Lib.hid (HK14.out.later hb20)
  have HK16 := Lib.hid (HK16.out.later hb20)
  have HK18 := Lib.hid (HK18.out.later hb20)
  have HK19 := Lib.hid (HK19.out.later hb20)
  obtain ⟨_, ⟨p20, x20, rfl, _⟩, ⟨q20, y20, rfl, _⟩, ⟨r20, z20, rfl, _⟩⟩ := hk20
  clear hb20
  go_wp2_with fail
  refine (field_Msg_entries _ HL20.out HK20.out of_msg10).mono ?_
  rintro e w21 ⟨a21, b21, d21, rfl, hk21, hb21⟩
  have HK21 := Lib.hid hk21
  have HL21 := Lib.hid (Nat.le_trans HL20.out hb21.size)
  have HR21 := Lib.hid ((hb21.block w.heap.size (row_lt HR20.out)).trans HR20.out)
  have HB21 := Lib.hid (ext HB20.out hb21)
  have HK2 := Lib.hid (HK2.out.later hb21)
  have HK4 := Lib.hid (HK4.out.later hb21)
  have HK6 := Lib.hid (HK6.out.later hb21)
  have HK8 := Lib.hid (HK8.out.later hb21)
  have HK10 := Lib.hid (HK10.out.later hb21)
  have HK12 := Lib.hid (HK12.out.later hb21)
  have HK14 := Lib.hid (HK14.out.later hb21)
  have HK16 := Lib.hid (HK16.out.later hb21)
  have HK18 := Lib.hid (HK18.out.later hb21)
  have HK20 := Lib.hid (HK20.out.later hb21)
  obtain ⟨_, ⟨p21, x21, rfl, _⟩, ⟨q21, y21, rfl, _⟩, ⟨r21, z21, rfl, _⟩⟩ := hk21
  clear hb21
  go_wp2_with fail
  refine (confKind_any _ HL21.out).mono ?_
  rintro e w22 ⟨a22, b22, d22, rfl, hk22, hb22⟩
  have HK22 := Lib.hid hk22
  have HL22 := Lib.hid (Nat.le_trans HL21.out hb22.size)
  have HR22 := Lib.hid ((hb22.block w.heap.size (row_lt HR21.out)).trans HR21.out)
  have HB22 := Lib.hid (ext HB21.out hb22)
  have HK2 := Lib.hid (HK2.out.later hb22)
  have HK4 := Lib.hid (HK4.out.later hb22)
  have HK6 := Lib.hid (HK6.out.later hb22)
  have HK8 := Lib.hid (HK8.out.later hb22)
  have HK10 := Lib.hid (HK10.out.later hb22)
  have HK12 := Lib.hid (HK12.out.later hb22)
  have HK14 := Lib.hid (HK14.out.later hb22)
  have HK16 := Lib.hid (HK16.out.later hb22)
  have HK18 := Lib.hid (HK18.out.later hb22)
  have HK21 := Lib.hid (HK21.out.later hb22)
  obtain ⟨_, ⟨p22, x22, rfl, _⟩, ⟨q22, y22, rfl, _⟩, ⟨r22, z22, rfl, _⟩⟩ := hk22
  clear hb22
  go_wp2_with fail
  refine (loose_Conf _ HL22.out HK22.out).mono ?_
  rintro e w23 ⟨a23, b23, d23, rfl, hk23, hb23⟩
  have HK23 := Lib.hid hk23
  have HL23 := Lib.hid (Nat.le_trans HL22.out hb23.size)
  have HR23 := Lib.hid ((hb23.block w.heap.size (row_lt HR22.out)).trans HR22.out)
  have HB23 := Lib.hid (ext HB22.out hb23)
  have HK2 := Lib.hid (HK2.out.later hb23)
  have HK4 := Lib.hid (HK4.out.later hb23)
  have HK6 := Lib.hid (HK6.out.later hb23)
  have HK8 := Lib.hid (HK8.out.later hb23)
  have HK10 := Lib.hid (HK10.out.later hb23)
  have HK12 := Lib.hid (HK12.out.later hb23)
  have HK14 := Lib.hid (HK14.out.later hb23)
  have HK16 := Lib.hid (HK16.out.later hb23)
  have HK18 := Lib.hid (HK18.out.later hb23)
  have HK21 := Lib.hid (HK21.out.later hb23)
  have HK22 := Lib.hid (HK22.out.later hb23)
  obtain ⟨_, ⟨p23, x23, rfl, _⟩, ⟨q23, y23, rfl, _⟩, ⟨r23, z23, rfl, _⟩⟩ := hk23
  clear hb23
  go_wp2_with fail
  refine (field_Msg_Conf _ HL23.out HK23.out of_msg11).mono ?_
  rintro e w24 ⟨a24, b24, d24, rfl, hk24, hb24⟩
  have HK24 := Lib.hid hk24
  have HL24 := Lib.hid (Nat.le_trans HL23.out hb24.size)
  have HR24 := Lib.hid ((hb24.block w.heap.size (row_lt HR23.out)).trans HR23.out)
  have HB24 := Lib.hid (ext HB23.out hb24)
  have HK2 := Lib.hid (HK2.out.later hb24)
  have HK4 := Lib.hid (HK4.out.later hb24)
  have HK6 := Lib.hid (HK6.out.later hb24)
  have HK8 := Lib.hid (HK8.out.later hb24)
  have HK10 := Lib.hid (HK10.out.later hb24)
  have HK12 := Lib.hid (HK12.out.later hb24)
  have HK14 := Lib.hid (HK14.out.later hb24)
  have HK16 := Lib.hid (HK16.out.later hb24)
  have HK18 := Lib.hid (HK18.out.later hb24)
  have HK21 := Lib.hid (HK21.out.later hb24)
  have HK23 := Lib.hid (HK23.out.later hb24)
  obtain ⟨_, ⟨p24, x24, rfl, _⟩, ⟨q24, y24, rfl, _⟩, ⟨r24, z24, rfl, _⟩⟩ := hk24
  clear hb24
  go_wp2_with fail
  refine (wholeI_any _ HL24.out 0 65536).mono ?_
  rintro e w25 ⟨a25, b25, d25, rfl, hk25, hb25⟩
  have HK25 := Lib.hid hk25
  have HL25 := Lib.hid (Nat.le_trans HL24.out hb25.size)
  have HR25 := Lib.hid ((hb25.block w.heap.size (row_lt HR24.out)).trans HR24.out)
  have HB25 := Lib.hid (ext HB24.out hb25)
  have HK2 := Lib.hid (HK2.out.later hb25)
  have HK4 := Lib.hid (HK4.out.later hb25)
  have HK6 := Lib.hid (HK6.out.later hb25)
  have HK8 := Lib.hid (HK8.out.later hb25)
  have HK10 := Lib.hid (HK10.out.later hb25)
  have HK12 := Lib.hid (HK12.out.later hb25)
  have HK14 := Lib.hid (HK14.out.later hb25)
  have HK16 := Lib.hid (HK16.out.later hb25)
  have HK18 := Lib.hid (HK18.out.later hb25)
  have HK21 := Lib.hid (HK21.out.later hb25)
  have HK24 := Lib.hid (HK24.out.later hb25)
  obtain ⟨_, ⟨p25, x25, rfl, _⟩, ⟨q25, y25, rfl, _⟩, ⟨r25, z25, rfl, _⟩⟩ := hk25
  clear hb25
  go_wp2_with fail
  refine (field_Msg_int _ HL25.out HK25.out of_msg12).mono ?_
  rintro e w26 ⟨a26, b26, d26, rfl, hk26, hb26⟩
  have HK26 := Lib.hid hk26
  have HL26 := Lib.hid (Nat.le_trans HL25.out hb26.size)
  have HR26 := Lib.hid ((hb26.block w.heap.size (row_lt HR25.out)).trans HR25.out)
  have HB26 := Lib.hid (ext HB25.out hb26)
  have HK2 := Lib.hid (HK2.out.later hb26)
  have HK4 := Lib.hid (HK4.out.later hb26)
  have HK6 := Lib.hid (HK6.out.later hb26)
  have HK8 := Lib.hid (HK8.out.later hb26)
  have HK10 := Lib.hid (HK10.out.later hb26)
  have HK12 := Lib.hid (HK12.out.later hb26)
  have HK14 := Lib.hid (HK14.out.later hb26)
  have HK16 := Lib.hid (HK16.out.later hb26)
  have HK18 := Lib.hid (HK18.out.later hb26)
  have HK21 := Lib.hid (HK21.out.later hb26)
  have HK24 := Lib.hid (HK24.out.later hb26)
  have HK25 := Lib.hid (HK25.out.later hb26)
  obtain ⟨_, ⟨p26, x26, rfl, _⟩, ⟨q26, y26, rfl, _⟩, ⟨r26, z26, rfl, _⟩⟩ := hk26
  clear hb26
  go_wp2_with fail
  refine (runB_any _ HL26.out 256).mono ?_
  rintro e w27 ⟨a27, b27, d27, rfl, hk27, hb27⟩
  have HK27 := Lib.hid hk27
  have HL27 := Lib.hid (Nat.le_trans HL26.out hb27.size)
  have HR27 := Lib.hid ((hb27.block w.heap.size (row_lt HR26.out)).trans HR26.out)
  have HB27 := Lib.hid (ext HB26.out hb27)
  have HK2 := Lib.hid (HK2.out.later hb27)
  have HK4 := Lib.hid (HK4.out.later hb27)
  have HK6 := Lib.hid (HK6.out.later hb27)
  have HK8 := Lib.hid (HK8.out.later hb27)
  have HK10 := Lib.hid (HK10.out.later hb27)
  have HK12 := Lib.hid (HK12.out.later hb27)
  have HK14 := Lib.hid (HK14.out.later hb27)
  have HK16 := Lib.hid (HK16.out.later hb27)
  have HK18 := Lib.hid (HK18.out.later hb27)
  have HK21 := Lib.hid (HK21.out.later hb27)
  have HK24 := Lib.hid (HK24.out.later hb27)
  have HK26 := Lib.hid (HK26.out.later hb27)
  obtain ⟨_, ⟨p27, x27, rfl, _⟩, ⟨q27, y27, rfl, _⟩, ⟨r27, z27, rfl, _⟩⟩ := hk27
  clear hb27
  go_wp2_with fail
  refine (field_Msg_bytes _ HL27.out HK27.out of_msg13).mono ?_
  rintro e w28 ⟨a28, b28, d28, rfl, hk28, hb28⟩
  have HK28 := Lib.hid hk28
  have HL28 := Lib.hid (Nat.le_trans HL27.out hb28.size)
  have HR28 := Lib.hid ((hb28.block w.heap.size (row_lt HR27.out)).trans HR27.out)
  have HB28 := Lib.hid (ext HB27.out hb28)
  have HK2 := Lib.hid (HK2.out.later hb28)
  have HK4 := Lib.hid (HK4.out.later hb28)
  have HK6 := Lib.hid (HK6.out.later hb28)
  have HK8 := Lib.hid (HK8.out.later hb28)
  have HK10 := Lib.hid (HK10.out.later hb28)
  have HK12 := Lib.hid (HK12.out.later hb28)
  have HK14 := Lib.hid (HK14.out.later hb28)
  have HK16 := Lib.hid (HK16.out.later hb28)
  have HK18 := Lib.hid (HK18.out.later hb28)
  have HK21 := Lib.hid (HK21.out.later hb28)
  have HK24 := Lib.hid (HK24.out.later hb28)
  have HK26 := Lib.hid (HK26.out.later hb28)
  have HK27 := Lib.hid (HK27.out.later hb28)
  obtain ⟨_, ⟨p28, x28, rfl, _⟩, ⟨q28, y28, rfl, _⟩, ⟨r28, z28, rfl, _⟩⟩ := hk28
  clear hb28
  go_wp2_with fail
  have hbA := (Below.refl w28.heap.size w28).alloc (Nat.le_refl _) (.cells #[.func (.func p2) #[] x2, .func (.func q2) #[] y2, .func (.func r2) #[] z2, .func (.func p4) #[] x4, .func (.func q4) #[] y4, .func (.func r4) #[] z4, .func (.func p6) #[] x6, .func (.func q6) #[] y6, .func (.func r6) #[] z6, .func (.func p8) #[] x8, .func (.func q8) #[] y8, .func (.func r8) #[] z8, .func (.func p10) #[] x10, .func (.func q10) #[] y10, .func (.func r10) #[] z10, .func (.func p12) #[] x12, .func (.func q12) #[] y12, .func (.func r12) #[] z12, .func (.func p14) #[] x14, .func (.func q14) #[] y14, .func (.func r14) #[] z14, .func (.func p16) #[] x16, .func (.func q16) #[] y16, .func (.func r16) #[] z16, .func (.func p18) #[] x18, .func (.func q18) #[] y18, .func (.func r18) #[] z18, .func (.func p21) #[] x21, .func (.func q21) #[] y21, .func (.func r21) #[] z21, .func (.func p24) #[] x24, .func (.func q24) #[] y24, .func (.func r24) #[] z24, .func (.func p26) #[] x26, .func (.func q26) #[] y26, .func (.func r26) #[] z26, .func (.func p28) #[] x28, .func (.func q28) #[] y28, .func (.func r28) #[] z28] 47)
  have hF : FieldsAt (w.heap.size + 1) (w28.alloc (.cells #[.func (.func p2) #[] x2, .func (.func q2) #[] y2, .func (.func r2) #[] z2, .func (.func p4) #[] x4, .func (.func q4) #[] y4, .func (.func r4) #[] z4, .func (.func p6) #[] x6, .func (.func q6) #[] y6, .func (.func r6) #[] z6, .func (.func p8) #[] x8, .func (.func q8) #[] y8, .func (.func r8) #[] z8, .func (.func p10) #[] x10, .func (.func q10) #[] y10, .func (.func r10) #[] z10, .func (.func p12) #[] x12, .func (.func q12) #[] y12, .func (.func r12) #[] z12, .func (.func p14) #[] x14, .func (.func q14) #[] y14, .func (.func r14) #[] z14, .func (.func p16) #[] x16, .func (.func q16) #[] y16, .func (.func r16) #[] z16, .func (.func p18) #[] x18, .func (.func q18) #[] y18, .func (.func r18) #[] z18, .func (.func p21) #[] x21, .func (.func q21) #[] y21, .func (.func r21) #[] z21, .func (.func p24) #[] x24, .func (.func q24) #[] y24, .func (.func r24) #[] z24, .func (.func p26) #[] x26, .func (.func q26) #[] y26, .func (.func r26) #[] z26, .func (.func p28) #[] x28, .func (.func q28) #[] y28, .func (.func r28) #[] z28] 47)) msgF 0 [.func (.func p2) #[] x2, .func (.func q2) #[] y2, .func (.func r2) #[] z2, .func (.func p4) #[] x4, .func (.func q4) #[] y4, .func (.func r4) #[] z4, .func (.func p6) #[] x6, .func (.func q6) #[] y6, .func (.func r6) #[] z6, .func (.func p8) #[] x8, .func (.func q8) #[] y8, .func (.func r8) #[] z8, .func (.func p10) #[] x10, .func (.func q10) #[] y10, .func (.func r10) #[] z10, .func (.func p12) #[] x12, .func (.func q12) #[] y12, .func (.func r12) #[] z12, .func (.func p14) #[] x14, .func (.func q14) #[] y14, .func (.func r14) #[] z14, .func (.func p16) #[] x16, .func (.func q16) #[] y16, .func (.func r16) #[] z16, .func (.func p18) #[] x18, .func (.func q18) #[] y18, .func (.func r18) #[] z18, .func (.func p21) #[] x21, .func (.func q21) #[] y21, .func (.func r21) #[] z21, .func (.func p24) #[] x24, .func (.func q24) #[] y24, .func (.func r24) #[] z24, .func (.func p26) #[] x26, .func (.func q26) #[] y26, .func (.func r26) #[] z26, .func (.func p28) #[] x28, .func (.func q28) #[] y28, .func (.func r28) #[] z28] :=
    ⟨_, _, _, _, rfl, HK2.out.later hbA, ⟨_, _, _, _, rfl, HK4.out.later hbA, ⟨_, _, _, _, rfl, HK6.out.later hbA, ⟨_, _, _, _, rfl, HK8.out.later hbA, ⟨_, _, _, _, rfl, HK10.out.later hbA, ⟨_, _, _, _, rfl, HK12.out.later hbA, ⟨_, _, _, _, rfl, HK14.out.later hbA, ⟨_, _, _, _, rfl, HK16.out.later hbA, ⟨_, _, _, _, rfl, HK18.out.later hbA, ⟨_, _, _, _, rfl, HK21.out.later hbA, ⟨_, _, _, _, rfl, HK24.out.later hbA, ⟨_, _, _, _, rfl, HK26.out.later hbA, ⟨_, _, _, _, rfl, HK28.out.later hbA, rfl⟩⟩⟩⟩⟩⟩⟩⟩⟩⟩⟩⟩⟩
  have HF := Lib.hid hF
  have HBA := Lib.hid (ext HB28.out hbA)
  have HLA := Lib.hid (Nat.le_trans HL28.out hbA.size)
  clear hbA hF
  refine (rec_Msg (m := 13) (fs := [.func (.func p2) #[] x2, .func (.func q2) #[] y2, .func (.func r2) #[] z2, .func (.func p4) #[] x4, .func (.func q4) #[] y4, .func (.func r4) #[] z4, .func (.func p6) #[] x6, .func (.func q6) #[] y6, .func (.func r6) #[] z6, .func (.func p8) #[] x8, .func (.func q8) #[] y8, .func (.func r8) #[] z8, .func (.func p10) #[] x10, .func (.func q10) #[] y10, .func (.func r10) #[] z10, .func (.func p12) #[] x12, .func (.func q12) #[] y12, .func (.func r12) #[] z12, .func (.func p14) #[] x14, .func (.func q14) #[] y14, .func (.func r14) #[] z14, .func (.func p16) #[] x16, .func (.func q16) #[] y16, .func (.func r16) #[] z16, .func (.func p18) #[] x18, .func (.func q18) #[] y18, .func (.func r18) #[] z18, .func (.func p21) #[] x21, .func (.func q21) #[] y21, .func (.func r21) #[] z21, .func (.func p24) #[] x24, .func (.func q24) #[] y24, .func (.func r24) #[] z24, .func (.func p26) #[] x26, .func (.func q26) #[] y26, .func (.func r26) #[] z26, .func (.func p28) #[] x28, .func (.func q28) #[] y28, .func (.func r28) #[] z28]) (t := msgT) _ HLA.out HL28.out rfl (heap_alloc_new w28 _) HF.out (by decide) (msg_tied _)).mono ?_
  rintro e w29 ⟨f1, f2, f3, rfl, hk, hb⟩
  have HK := Lib.hid hk
  have HB := Lib.hid (ext HBA.out hb)
  have hrA := (hb.block w.heap.size (by rw [World.size_alloc]; exact Nat.lt_succ_of_lt (row_lt HR28.out))).trans ((heap_alloc_old w28 _ (row_lt HR28.out)).trans HR28.out)
  have HR := Lib.hid hrA
  obtain ⟨_, ⟨q1, c1, rfl, _⟩, ⟨q2, c2, rfl, _⟩, ⟨q3, c3, rfl, _⟩⟩ := hk
  clear hb hrA
  have H1 : (#[.func (.func q1) #[] c1, .func (.func q2) #[] c2, .func (.func q3) #[] c3] : Array Value).all (·.oneCell') = true := all3
  have H2 : (#[.nilFunc, .nilFunc, .nilFunc] : Array Value).size = (#[.func (.func q1) #[] c1, .func (.func q2) #[] c2, .func (.func q3) #[] c3] : Array Value).size := rfl
  have H5 : (Tryz.prog.info? 47).map (·.size) = some (#[.func (.func q1) #[] c1, .func (.func q2) #[] c2, .func (.func q3) #[] c3] : Array Value).size := kt_Msg.i
  have H6 := Lib.hid H5
  have H3 := Lib.hid H1
  have H4 := Lib.hid H2
  clear H1 H2 H5
  go_wp2_with (with_reducible refine wpList_store_row rfl 47 (.tmp 0) (.tmp 30) rfl w.heap.size #[.func (.func q1) #[] c1, .func (.func q2) #[] c2, .func (.func q3) #[] c3] rfl rfl 47 #[.nilFunc, .nilFunc, .nilFunc] HR.out H6.out H4.out H3.out ?_)
  go_wp2
  exact bodyPost_ret (v := .agg #[.func (.func q1) #[] c1, .func (.func q2) #[] c2, .func (.func q3) #[] c3]) (results_cell_row rfl _ _ w.heap.size 47 #[.func (.func q1) #[] c1, .func (.func q2) #[] c2, .func (.func q3) #[] c3] (0, 0) _ rfl (setRow_heap _ _ _ _ _ _ HR.out) Tryz.underlying47 rfl (by kernel_rfl)) rfl ⟨_, _, _, rfl, (HK.out.unset (Nat.lt_succ_self _)).less (Nat.le_succ_of_le hL), below_setRow HB.out (Nat.le_refl _) _⟩
theorem msgMsg_any {xs : List Value} {d : Data} (w : World) (hxs : xs.length = 14) (hrep : msgK.rep w (Old w) xs d) (hlen : msgK.sound d = true → (msgK.put d).length + 9 ≤ 140737488355328) :
    Calls Tryz.prog 5 #[.agg xs.toArray] w (Writes msgK d w) :=
  topW_any Tryz.func5 rfl rfl rfl Tryz.isAgg29 Tryz.sizeOf29 Tryz.call11 Tryz.call12 (fun w => msgKind_any w (Nat.le_refl _))
    (fun _ w _ _ _ _ _ hk hrep hlen => write_any Tryz.func12 rfl rfl rfl kt_Msg (by intro w; go_simp) (by intro w; go_simp) w hk hrep hlen) msgK_ok w hxs hrep hlen
theorem xt_Msg : XT 29 msgK.zero := ⟨Tryz.isAgg29, Tryz.zeroValue29, ⟨_, Tryz.underlying29⟩, by kernel_rfl⟩
theorem ReadsKF.tell {k : Kd} (hok : k.Ok) {b : List UInt8} {w w' : World} {e : Ending} (h : ReadsKF k b w e w') : ∃ (vs : Array Value) (er : Int), e = .returned (.tuple #[.agg vs, .int .i64 er]) ∧ vs.size = k.zero.length ∧ vs.all (·.oneCell') = true ∧ ReadsKF k b w (.returned (.tuple #[.agg vs, .int .i64 er])) w' := by
  obtain ⟨vs, er, rfl, h1, h2, _⟩ := ReadsK.tell hok (h.weak hok)
  exact ⟨vs, er, rfl, h1, h2, h⟩
theorem ReadsKF.into {k : Kd} (hok : k.Ok) {b : List UInt8} {w w1 w2 : World} {e : Ending} {g : Nat} (hb : Below w.heap.size w w1) (hg : w.heap.size ≤ g) (hg1 : g < w1.heap.size) (h : ReadsKF k b w1 e w2) (cs : Array Value) : ReadsKF k b w e (w2.setRow g cs) := by
  obtain ⟨h1, h2⟩ := h
  refine ⟨below_setRow (ext hb h1) hg cs, ?_⟩
  rcases h2 with ⟨d, vs, h3, h4, h5, h6⟩ | h3
  · have hsame : ∀ q, NewF w1 w2 q → (w2.setRow g cs).heap[q]? = w2.heap[q]? := fun q hq => setRow_other w2 g q cs (by have := hq.1.1; omega)
    refine .inl ⟨d, vs, h3, h4, h5, hok.keep h6 hsame (fun q hq => ⟨⟨Nat.le_trans hb.size hq.1.1, by rw [size_setRow]; exact hq.1.2⟩, hq.2.keep (hsame q hq)⟩)⟩
  · exact .inr h3
set_option maxHeartbeats 1000000 in
theorem msgToMsg_free {A : Option Addr} {n c : Nat} {b : List UInt8} (w : World) (hln : n = b.length) (hnc : n ≤ c) (hm : n ≤ 140737488355328) (hrd : Lies w w.heap.size A b) :
    Calls Tryz.prog 8 #[.slice A n c] w (ReadsKF msgK b w) := by
  have hb0 : Below w.heap.size w (w.alloc (.cells msgK.zero.toArray 29)) := (Below.refl _ _).alloc (Nat.le_refl _) _
  have hr0 : (w.alloc (.cells msgK.zero.toArray 29)).heap[w.heap.size]? = some (.cells msgK.zero.toArray 29 (0, 0)) := heap_alloc_new w _
  have HB0 := Lib.hid hb0
  have HR0 := Lib.hid hr0
  have HRD := Lib.hid hrd
  have HLN := Lib.hid hln
  clear hb0 hr0 hrd hln
  go_enter Tryz.func8, Tryz.ntmps8
  go_wp2_with fail
  refine (msgKind_any _ (Nat.le_refl _)).mono ?_
  rintro e w1 ⟨f1, f2, f3, rfl, hk, hb1⟩
  have HK := Lib.hid hk
  have HB1 := Lib.hid (ext HB0.out hb1)
  have HR1 := Lib.hid ((hb1.block w.heap.size (row_lt HR0.out)).trans HR0.out)
  clear hk hb1
  go_wp2_with fail
  refine (read_free Tryz.func16 rfl rfl rfl kt_Msg (by intro w; go_simp) (by intro w; go_simp) xt_Msg w1 HK.out HLN.out hnc hm ((HRD.out.below HB1.out).more HB1.out.size)).mono ?_
  rintro e w2 hr
  have hb2 := hr.1
  obtain ⟨vs, er, rfl, hv1, hv2, hr2⟩ := ReadsKF.tell msgK_ok hr
  have HR2 := Lib.hid ((hb2.block w.heap.size (row_lt HR1.out)).trans HR1.out)
  have HX := Lib.hid (ReadsKF.into msgK_ok HB1.out (Nat.le_refl _) (row_lt HR1.out) hr2 vs)
  have HV2 := Lib.hid hv2
  have HV1 := Lib.hid (show msgK.zero.toArray.size = vs.size by rw [hv1, List.size_toArray])
  have HI := Lib.hid (show (Tryz.prog.info? 29).map (·.size) = some vs.size by rw [hv1]; exact xt_Msg.i)
  clear hr hb2 hr2 hv1 hv2
  go_wp2_with (with_reducible refine wpList_store_row rfl 29 (.tmp 2) (.tmp 7) rfl w.heap.size vs rfl rfl 29 msgK.zero.toArray HR2.out HI.out HV1.out HV2.out ?_)
  refine bodyPost_ret (v := .tuple #[.agg vs, .int .i64 er]) (results_cell_tmp (fn := Tryz.f8) (p := 2) (q := 3) rfl _ _ w.heap.size 29 vs (0, 0) _ rfl (setRow_heap _ _ _ _ _ _ HR2.out) Tryz.underlying29 HI.out) rfl ?_
  exact HX.out
theorem msgToMsg_any {A : Option Addr} {n c : Nat} {b : List UInt8} (w : World) (hln : n = b.length) (hnc : n ≤ c) (hm : n ≤ 140737488355328) (hrd : Lies w w.heap.size A b) :
    Calls Tryz.prog 8 #[.slice A n c] w (ReadsK msgK b w) := (msgToMsg_free w hln hnc hm hrd).mono fun _ _ h => h.weak msgK_ok
end Go.Proofs.YtnmcaifecfaoiaaGreat.Kd
