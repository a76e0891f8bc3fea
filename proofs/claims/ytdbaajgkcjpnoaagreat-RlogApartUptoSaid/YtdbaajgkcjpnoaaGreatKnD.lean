/- A configuration's kind made; package msg's ToConf. Written by genm.py. -/
import Derived.Test.YtdbaajgkcjpnoaaGreatKmC
import Derived.Test.YtdbaajgkcjpnoaaGreatGP
import Derived.Test.YtdbaajgkcjpnoaaGreatKgC
import Derived.Test.YtdbaajgkcjpnoaaGreatKhA
import Derived.Test.YtdbaajgkcjpnoaaGreatKfG
import Derived.Deep.RegionLaw
namespace Go.Proofs.YtdbaajgkcjpnoaaGreat.Kd
open Go.RowKit By CoP Co Mo

theorem below_undrew' {w w' : World} (h : Below w.heap.size w w') : Below w.heap.size w w' := h
theorem heap_set3 {w : World} {g : Nat} {t : TypeId} {a b c x y z : Value} (h : w.heap[g]? = some (.cells #[a, b, c] t (0, 0))) :
    (((w.setCell ⟨g, 0, none⟩ x).setCell ⟨g, 1, none⟩ y).setCell ⟨g, 2, none⟩ z).heap[g]? = some (.cells #[x, y, z] t (0, 0)) := by
  have r0 := heap_setCell_same w g 0 _ _ x h
  have r1 := heap_setCell_same _ g 1 _ _ y r0
  have r2 := heap_setCell_same _ g 2 _ _ z r1
  exact r2
theorem below_set3 {B : Nat} {w w' : World} {g : Nat} (h : Below B w w') (hg : B ≤ g) (x y z : Value) : Below B w (((w'.setCell ⟨g, 0, none⟩ x).setCell ⟨g, 1, none⟩ y).setCell ⟨g, 2, none⟩ z) :=
  ((h.setCell (p := ⟨g, 0, none⟩) hg x).setCell (p := ⟨g, 1, none⟩) hg y).setCell (p := ⟨g, 2, none⟩) hg z
theorem size_setCell' (w : World) (p : Addr) (v : Value) : (w.setCell p v).heap.size = w.heap.size := by simp [World.setCell]
theorem keeps_set3 {L : Nat} {W w : World} {g : Nat} {x y z : Value} (hg : g < L) (h : Keeps L (((W.setCell ⟨g, 0, none⟩ x).setCell ⟨g, 1, none⟩ y).setCell ⟨g, 2, none⟩ z) w) : Keeps L W w :=
  ⟨h.os, h.tape, h.output, by have := h.size; rwa [size_setCell', size_setCell', size_setCell'] at this, fun k hL hk => (h.block k hL (by rwa [size_setCell', size_setCell', size_setCell'])).trans
    ((heap_setCell_other _ ⟨g, 2, none⟩ k _ (by show k ≠ g; omega)).trans ((heap_setCell_other _ ⟨g, 1, none⟩ k _ (by show k ≠ g; omega)).trans (heap_setCell_other _ ⟨g, 0, none⟩ k _ (by show k ≠ g; omega))))⟩
theorem KindAt.turn {L : Nat} {W W' : World} {f1 f2 f3 : Value} {off : Nat} {k : Kd} (hz : W.heap.size ≤ W'.heap.size) (hkp : ∀ w, Keeps L W' w → Keeps L W w) (h : KindAt L W f1 f2 f3 off k) : KindAt L W' f1 f2 f3 off k := by
  obtain ⟨h0, ⟨f, cap, e, he, h1⟩, ⟨f', cap', e', he', h2⟩, ⟨f'', cap'', e'', he'', h3⟩⟩ := h
  exact ⟨h0, ⟨f, cap, e, he, fun w hw => h1 w (hkp w hw)⟩, ⟨f', cap', e', he', fun w hw => h2 w (hkp w hw)⟩, ⟨f'', cap'', e'', he'', fun w hw g o cs ty B A n c at_ b hg => h3 w (hkp w hw) g o cs ty B A n c at_ b (Nat.le_trans hz hg)⟩⟩
set_option maxRecDepth 100000 in
set_option maxHeartbeats 4000000 in
theorem confKind_any {L : Nat} (w : World) (hL : L ≤ w.heap.size) : Calls Tryz.prog 105 #[] w (Makes L confK 0 w) := by
  have hb0 : Below w.heap.size w (w.alloc (.cells #[.nilFunc, .nilFunc, .nilFunc] 157)) := (Below.refl _ _).alloc (Nat.le_refl _) _
  have hr0 := heap_alloc_new w (.cells #[.nilFunc, .nilFunc, .nilFunc] 157)
  have hl0 : w.heap.size + 1 ≤ (w.alloc (.cells #[.nilFunc, .nilFunc, .nilFunc] 157)).heap.size := by rw [World.size_alloc]; exact Nat.le_refl _
  have HB0 := Lib.hid hb0
  have HR0 := Lib.hid hr0
  have HL0 := Lib.hid hl0
  clear hb0 hr0 hl0
  go_enter Tryz.func105, Tryz.ntmps105
  go_wp2_with fail
  refine (wholeI_any _ HL0.out 1 16).mono ?_
  rintro e w1 ⟨a1, b1, d1, rfl, hk1, hb1⟩
  have HK1 := Lib.hid hk1
  have HL1 := Lib.hid (Nat.le_trans HL0.out hb1.size)
  have HR1 := Lib.hid ((hb1.block w.heap.size (row_lt HR0.out)).trans HR0.out)
  have HB1 := Lib.hid (ext HB0.out hb1)
  obtain ⟨_, ⟨p1, x1, rfl, _⟩, ⟨q1, y1, rfl, _⟩, ⟨r1, z1, rfl, _⟩⟩ := hk1
  clear hb1
  go_wp2_with fail
  refine (listI_any _ HL1.out HK1.out 16 (by omega) (by omega) rfl rfl (fun h => by obtain ⟨z, _, _, rfl, _⟩ := h; exact ⟨z, rfl⟩)).mono ?_
  rintro e w2 ⟨a2, b2, d2, rfl, hk2, hb2⟩
  have HK2 := Lib.hid hk2
  have HL2 := Lib.hid (Nat.le_trans HL1.out hb2.size)
  have HR2 := Lib.hid ((hb2.block w.heap.size (row_lt HR1.out)).trans HR1.out)
  have HB2 := Lib.hid (ext HB1.out hb2)
  obtain ⟨_, ⟨p2, x2, rfl, _⟩, ⟨q2, y2, rfl, _⟩, ⟨r2, z2, rfl, _⟩⟩ := hk2
  clear hb2
  have H1 : (#[.func (.func p2) #[] x2, .func (.func q2) #[] y2, .func (.func r2) #[] z2] : Array Value).all (·.oneCell') = true := all3
  have H5 : (Tryz.prog.info? 168).map (·.size) = some (#[.func (.func p2) #[] x2, .func (.func q2) #[] y2, .func (.func r2) #[] z2] : Array Value).size := kt_ints.i
  have H6 := Lib.hid H5
  have H3 := Lib.hid H1
  have H4 := Lib.hid (show (#[.nilFunc, .nilFunc, .nilFunc] : Array Value).size = (#[.func (.func p2) #[] x2, .func (.func q2) #[] y2, .func (.func r2) #[] z2] : Array Value).size from rfl)
  have hb3 : Below w2.heap.size w2 ((w2.alloc (.cells #[.nilFunc, .nilFunc, .nilFunc] 168)).setRow w2.heap.size #[.func (.func p2) #[] x2, .func (.func q2) #[] y2, .func (.func r2) #[] z2]) := below_setRow ((Below.refl _ _).alloc (Nat.le_refl _) _) (Nat.le_refl _) _
  have hrow3 : ((w2.alloc (.cells #[.nilFunc, .nilFunc, .nilFunc] 168)).setRow w2.heap.size #[.func (.func p2) #[] x2, .func (.func q2) #[] y2, .func (.func r2) #[] z2]).heap[w2.heap.size]? = some (.cells #[.func (.func p2) #[] x2, .func (.func q2) #[] y2, .func (.func r2) #[] z2] 168 (0, 0)) := setRow_heap _ _ _ _ _ _ (heap_alloc_new w2 _)
  have HB3 := Lib.hid hb3
  have HROW3 := Lib.hid hrow3
  clear H1 H5 hb3 hrow3
  go_wp2_with (with_reducible refine wpList_store_row rfl 168 (.tmp 1) (.tmp 3) rfl w2.heap.size #[.func (.func p2) #[] x2, .func (.func q2) #[] y2, .func (.func r2) #[] z2] rfl rfl 168 #[.nilFunc, .nilFunc, .nilFunc] (heap_alloc_new w2 _) H6.out H4.out H3.out ?_)
  generalize (w2.alloc (.cells #[.nilFunc, .nilFunc, .nilFunc] 168)).setRow w2.heap.size #[.func (.func p2) #[] x2, .func (.func q2) #[] y2, .func (.func r2) #[] z2] = w3 at HB3 HROW3 ⊢
  have HK3 := Lib.hid (HK2.out.later HB3.out)
  have HL3 := Lib.hid (Nat.le_trans HL2.out HB3.out.size)
  have HR3 := Lib.hid ((HB3.out.block w.heap.size (row_lt HR2.out)).trans HR2.out)
  have HBW3 := Lib.hid (ext HB2.out HB3.out)
  have hx0 : ∀ w', Below w3.heap.size w3 w' → w'.cell? ⟨w2.heap.size, 0, none⟩ = some (.func (.func p2) #[] x2) := fun w' h => by rw [cell_of_row w' w2.heap.size 0 _ _ _ ((h.block _ (row_lt HROW3.out)).trans HROW3.out)]; rfl
  have hx1 : ∀ w', Below w3.heap.size w3 w' → w'.cell? ⟨w2.heap.size, 1, none⟩ = some (.func (.func q2) #[] y2) := fun w' h => by rw [cell_of_row w' w2.heap.size 1 _ _ _ ((h.block _ (row_lt HROW3.out)).trans HROW3.out)]; rfl
  have hx2 : ∀ w', Below w3.heap.size w3 w' → w'.cell? ⟨w2.heap.size, 2, none⟩ = some (.func (.func r2) #[] z2) := fun w' h => by rw [cell_of_row w' w2.heap.size 2 _ _ _ ((h.block _ (row_lt HROW3.out)).trans HROW3.out)]; rfl
  have hbd : Below w3.heap.size w3 w3.drew := (Below.refl _ _).drew
  have hzd : L ≤ w3.drew.heap.size := by have := HL3.out; show L ≤ w3.heap.size; omega
  have hld : w.heap.size + 1 ≤ w3.drew.heap.size := HL3.out
  go_region_law (first
    | (go_simp; go_at_call 113; refine (rec_Conf (m := 2) (fs := [.func (.func p4) #[] x4, .func (.func q4) #[] y4, .func (.func r4) #[] z4, .func (.func p5) #[] x5, .func (.func q5) #[] y5, .func (.func r5) #[] z5]) (t := confT) _ (Nat.le_trans HL3.out hbA.size) (Nat.le_trans HL3.out hbb5.size) rfl (heap_alloc_new w5 _) HF.out (by decide) (conf_tied _)).mono ?_; rintro e w6 ⟨a6, b6, d6, rfl, hk6, hb6⟩
       have HK6 := Lib.hid hk6
       have hbb6 : Below w3.heap.size w3 w6 := ext hbA hb6
       have hrz := (hbb6.block w.heap.size (row_lt HR3.out)).trans HR3.out
       have HRZ := Lib.hid hrz
       have cz0 : w6.cell? ⟨w.heap.size, 0, none⟩ = some .nilFunc := by rw [cell_of_row w6 _ 0 _ _ _ hrz]; rfl
       have cz1 : w6.cell? ⟨w.heap.size, 1, none⟩ = some .nilFunc := by rw [cell_of_row w6 _ 1 _ _ _ hrz]; rfl
       have cz2 : w6.cell? ⟨w.heap.size, 2, none⟩ = some .nilFunc := by rw [cell_of_row w6 _ 2 _ _ _ hrz]; rfl
       have fz0 : w6.frozen? ⟨w.heap.size, 0, none⟩ = false := frozen_of_row w6 _ 0 _ _ hrz
       have fz1 : w6.frozen? ⟨w.heap.size, 1, none⟩ = false := frozen_of_row w6 _ 1 _ _ hrz
       have fz2 : w6.frozen? ⟨w.heap.size, 2, none⟩ = false := frozen_of_row w6 _ 2 _ _ hrz
       have HBZ := Lib.hid (ext HBW3.out hbb6)
       obtain ⟨_, ⟨p6, x6, rfl, _⟩, ⟨q6, y6, rfl, _⟩, ⟨r6, z6, rfl, _⟩⟩ := hk6
       clear hb6 hrz)
    | (have hq := hbb4; clear hq; go_simp; go_at_call 115; refine (field_Conf_ints _ (Nat.le_trans HL3.out hbb4.size) (HK3.out.later hbb4) of_conf2).mono ?_; rintro e w5 ⟨a5, b5, d5, rfl, hk5, hb5'⟩
       have hb5 := below_undrew' hb5'
       have HK5 := Lib.hid hk5
       have hbb5 : Below w3.heap.size w3 w5 := ext hbb4 hb5
       obtain ⟨_, ⟨p5, x5, rfl, _⟩, ⟨q5, y5, rfl, _⟩, ⟨r5, z5, rfl, _⟩⟩ := hk5
       clear hb5'
       have hF : FieldsAt (w.heap.size + 1) (w5.alloc (.cells #[.func (.func p4) #[] x4, .func (.func q4) #[] y4, .func (.func r4) #[] z4, .func (.func p5) #[] x5, .func (.func q5) #[] y5, .func (.func r5) #[] z5] 157)) confF 0 [.func (.func p4) #[] x4, .func (.func q4) #[] y4, .func (.func r4) #[] z4, .func (.func p5) #[] x5, .func (.func q5) #[] y5, .func (.func r5) #[] z5] :=
         ⟨_, _, _, _, rfl, HK4.out.later (ext hb5 ((Below.refl _ _).alloc (Nat.le_refl _) _)), _, _, _, _, rfl, HK5.out.later ((Below.refl _ _).alloc (Nat.le_refl _) _), rfl⟩
       have HF := Lib.hid hF
       have hbA : Below w3.heap.size w3 (w5.alloc (.cells #[.func (.func p4) #[] x4, .func (.func q4) #[] y4, .func (.func r4) #[] z4, .func (.func p5) #[] x5, .func (.func q5) #[] y5, .func (.func r5) #[] z5] 157)) := hbb5.alloc hbb5.size _
       clear hF)
    | (have hq := hbd; clear hq; go_simp; go_at_call 115; refine (field_Conf_ints _ hld (HK3.out.later hbd) of_conf1).mono ?_; rintro e w4 ⟨a4, b4, d4, rfl, hk4, hb4'⟩
       have hb4 := below_undrew' hb4'
       have HK4 := Lib.hid hk4
       have hbb4 : Below w3.heap.size w3 w4 := ext hbd hb4
       obtain ⟨_, ⟨p4, x4, rfl, _⟩, ⟨q4, y4, rfl, _⟩, ⟨r4, z4, rfl, _⟩⟩ := hk4
       clear hb4'))
  all_goals
    go_wp2
    exact bodyPost_ret (v := .agg #[.func (.func p6) #[] x6, .func (.func q6) #[] y6, .func (.func r6) #[] z6]) (results_cell_row rfl _ _ w.heap.size 157 #[.func (.func p6) #[] x6, .func (.func q6) #[] y6, .func (.func r6) #[] z6] (0, 0) _ rfl (heap_set3 HRZ.out) Tryz.underlying157 rfl (by kernel_rfl)) rfl ⟨_, _, _, rfl, (HK6.out.turn (by simp only [size_setCell']; exact Nat.le_refl _) (fun w' h => keeps_set3 (Nat.lt_succ_self _) h)).less (Nat.le_succ_of_le hL), below_set3 HBZ.out (Nat.le_refl _) _ _ _⟩
theorem ReadsK.tell {k : Kd} (hok : k.Ok) {b : List UInt8} {w w' : World} {e : Ending} (h : ReadsK k b w e w') : ∃ (vs : Array Value) (er : Int), e = .returned (.tuple #[.agg vs, .int .i64 er]) ∧ vs.size = k.zero.length ∧ vs.all (·.oneCell') = true ∧ ReadsK k b w (.returned (.tuple #[.agg vs, .int .i64 er])) w' := by
  have h0 := h
  obtain ⟨_, ⟨d, vs, _, _, rfl, hr⟩ | ⟨_, rfl⟩⟩ := h
  · refine ⟨vs, 0, rfl, ?_, ?_, h0⟩
    · have := hok.len hr
      rw [Array.length_toList] at this
      exact this
    · rw [Array.all_eq_true_iff_forall_mem]
      intro v hv
      exact hok.one hr v (by simpa using hv)
  · refine ⟨k.zero.toArray, 4, rfl, by simp, ?_, h0⟩
    rw [Array.all_eq_true_iff_forall_mem]
    intro v hv
    exact hok.zone v (by simpa using hv)
theorem ReadsK.into {k : Kd} (hok : k.Ok) {b : List UInt8} {w w1 w2 : World} {e : Ending} {g : Nat} (hb : Below w.heap.size w w1) (hg : w.heap.size ≤ g) (hg1 : g < w1.heap.size) (h : ReadsK k b w1 e w2) (cs : Array Value) : ReadsK k b w e (w2.setRow g cs) := by
  obtain ⟨h1, h2⟩ := h
  refine ⟨below_setRow (ext hb h1) hg cs, ?_⟩
  rcases h2 with ⟨d, vs, h3, h4, h5, h6⟩ | h3
  · refine .inl ⟨d, vs, h3, h4, h5, hok.keep h6 (fun q hq => setRow_other w2 g q cs (by have := hq.1; omega)) (fun q hq => ⟨Nat.le_trans hb.size hq.1, by rw [size_setRow]; exact hq.2⟩)⟩
  · exact .inr h3
theorem xt_Conf : XT 87 confK.zero := ⟨Tryz.isAgg87, Tryz.zeroValue87, ⟨_, Tryz.underlying87⟩, by kernel_rfl⟩
set_option maxHeartbeats 1000000 in
theorem msgToConf_any {A : Option Addr} {n c : Nat} {b : List UInt8} (w : World) (hln : n = b.length) (hnc : n ≤ c) (hm : n ≤ 140737488355328) (hrd : Lies w w.heap.size A b) :
    Calls Tryz.prog 75 #[.slice A n c] w (ReadsK confK b w) := by
  have hb0 : Below w.heap.size w (w.alloc (.cells confK.zero.toArray 87)) := (Below.refl _ _).alloc (Nat.le_refl _) _
  have hr0 : (w.alloc (.cells confK.zero.toArray 87)).heap[w.heap.size]? = some (.cells confK.zero.toArray 87 (0, 0)) := heap_alloc_new w _
  have HB0 := Lib.hid hb0
  have HR0 := Lib.hid hr0
  have HRD := Lib.hid hrd
  have HLN := Lib.hid hln
  clear hb0 hr0 hrd hln
  go_enter Tryz.func75, Tryz.ntmps75
  go_wp2_with fail
  refine (confKind_any _ (Nat.le_refl _)).mono ?_
  rintro e w1 ⟨f1, f2, f3, rfl, hk, hb1⟩
  have HK := Lib.hid hk
  have HB1 := Lib.hid (ext HB0.out hb1)
  have HR1 := Lib.hid ((hb1.block w.heap.size (row_lt HR0.out)).trans HR0.out)
  clear hk hb1
  go_wp2_with fail
  refine (read_any Tryz.func106 rfl rfl rfl kt_Conf (by intro w; go_simp) (by intro w; go_simp) xt_Conf w1 HK.out HLN.out hnc hm ((HRD.out.below HB1.out).more HB1.out.size)).mono ?_
  rintro e w2 hr
  have hb2 := hr.1
  obtain ⟨vs, er, rfl, hv1, hv2, hr2⟩ := ReadsK.tell confK_ok hr
  have HR2 := Lib.hid ((hb2.block w.heap.size (row_lt HR1.out)).trans HR1.out)
  have HX := Lib.hid (ReadsK.into confK_ok HB1.out (Nat.le_refl _) (row_lt HR1.out) hr2 vs)
  have HV2 := Lib.hid hv2
  have HV1 := Lib.hid (show confK.zero.toArray.size = vs.size by rw [hv1, List.size_toArray])
  have HI := Lib.hid (show (Tryz.prog.info? 87).map (·.size) = some vs.size by rw [hv1]; exact xt_Conf.i)
  clear hr hb2 hr2 hv1 hv2
  go_wp2_with (with_reducible refine wpList_store_row rfl 87 (.tmp 2) (.tmp 7) rfl w.heap.size vs rfl rfl 87 confK.zero.toArray HR2.out HI.out HV1.out HV2.out ?_)
  refine bodyPost_ret (v := .tuple #[.agg vs, .int .i64 er]) (results_cell_tmp (fn := Tryz.f75) (p := 2) (q := 3) rfl _ _ w.heap.size 87 vs (0, 0) _ rfl (setRow_heap _ _ _ _ _ _ HR2.out) Tryz.underlying87 HI.out) rfl ?_
  exact HX.out
end Go.Proofs.YtdbaajgkcjpnoaaGreat.Kd
