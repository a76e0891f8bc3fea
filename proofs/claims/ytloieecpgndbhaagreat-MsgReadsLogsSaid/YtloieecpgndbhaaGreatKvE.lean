/- The law MsgReadsLogs, walked (under way). Written by genlaw7.py. -/
import Derived.Test.YtloieecpgndbhaaGreatKvD
import Derived.Test.YtloieecpgndbhaaGreatKqA
import Derived.Test.YtloieecpgndbhaaGreatKnD
import Derived.Test.YtloieecpgndbhaaGreatGN
import Derived.Deep.DeepCutAuto
namespace Go.Proofs.YtloieecpgndbhaaGreat.Kd
open Go.RowKit By CoP Co Mo

def Btw (lo hi : Nat) : Nat → Prop := fun b => lo ≤ b ∧ b < hi
theorem ReadsK.both2 {k : Kd} (hk : k.Ok) {p : Rdr} {Q : Data → Prop} (ht : Ties k p Q) (hq : ∀ {b d u}, k.get b = some (d, u) → k.sound d = true → Q d) {z : Data} (hz : ∀ (w : World) (S : Nat → Prop), k.rep w S k.zero z) {b : List UInt8} {R : Bool} (hR : readB k p b = R) {w w' : World} {e : Ending} (h : ReadsK k b w e w') :
    ∃ (vs : Array Value) (E : Int), e = .returned (.tuple #[.agg vs, .int .i64 E]) ∧ E = (if R then 0 else 4) ∧ vs.size = k.zero.length ∧ vs.all (·.oneCell') = true ∧ k.rep w' (Btw w.heap.size w'.heap.size) vs.toList (readD k p z b) ∧ Below w.heap.size w w' := by
  obtain ⟨vs, h1, h2, h3, h4, h5⟩ := h.both hk ht hq hz
  rw [hR] at h1
  exact ⟨vs, _, h1, rfl, h2, h3, h4, h5⟩
theorem RefTo.both2 {k : Kd} (hk : k.Ok) {p : Rdr} {b : List UInt8} {R : Bool} (hR : readB k p b = R) {w w' : World} {e : Ending} (h : RefTo k p b w e w') :
    ∃ (vs : Array Value), e = .returned (.tuple #[.agg vs, .bool R]) ∧ vs.size = k.zero.length ∧ vs.all (·.oneCell') = true ∧ k.rep w' (Btw w.heap.size w'.heap.size) vs.toList (p (some b)).1 ∧ Below w.heap.size w w' := by
  obtain ⟨vs, h1, h2, h3⟩ := h
  subst hR
  refine ⟨vs, h1, ?_, ?_, h2, h3⟩
  · have := hk.len h2
    rw [Array.length_toList] at this
    exact this
  · rw [Array.all_eq_true_iff_forall_mem]
    intro v hv
    exact hk.one h2 v (by simpa using hv)
theorem list5 {l : List Value} (h : l.length = 5) : ∃ a b c d e : Value, l = [a, b, c, d, e] := by
  match l, h with
  | [a, b, c, d, e], _ => exact ⟨a, b, c, d, e, rfl⟩
theorem list2 {l : List Value} (h : l.length = 2) : ∃ a b : Value, l = [a, b] := by
  match l, h with
  | [a, b], _ => exact ⟨a, b, rfl⟩
theorem zone_all {k : Kd} (hk : k.Ok) : k.zero.toArray.all (·.oneCell') = true := by
  rw [Array.all_eq_true_iff_forall_mem]
  intro v hv
  exact hk.zone v (by simpa using hv)
theorem readD_yes {k : Kd} {p : Rdr} {z : Data} {b : List UInt8} (h : readB k p b = true) : readD k p z b = (p (some b)).1 := if_pos h
theorem readD_no {k : Kd} {p : Rdr} {z : Data} {b : List UInt8} (h : readB k p b = false) : readD k p z b = z := if_neg (by
  have h' : (pWhole (p (some b)).2 && k.sound (p (some b)).1) = false := h
  rw [h']
  decide)
theorem reads_E {R : Bool} {E : Int} (h : E = (if R then 0 else 4)) (w : World) : Calls Tryz.prog 52 #[.int .i64 E, .bool R] w (Says true w) := by
  subst h
  exact reads_any R w
theorem hard_twin {w : World} {S S' : Nat → Prop} {xs ys : List Value} {d : Data} (h : hardK.rep w S xs d) (k : hardK.rep w S' ys d) : ys = xs := by
  obtain ⟨tm, vo, rfl, e1, _⟩ := hard_shape h
  obtain ⟨tm2, vo2, rfl, e2, _⟩ := hard_shape k
  rw [e1] at e2
  simp only [hardD, Data.agg.injEq, List.cons.injEq, Data.lit.injEq, Lit.int.injEq, true_and, and_true] at e2
  obtain ⟨g1, g2⟩ := e2
  rw [g1, g2]
set_option maxRecDepth 100000 in
set_option maxHeartbeats 8000000 in
theorem msgReadsLogs_walk (w : World) (A : Option Addr) (n c : Nat) (b : List UInt8) (hn : n = b.length) (hnc : n ≤ c) (hm : n ≤ 140737488355328) (hr : Lies w w.heap.size A b) :
    Calls Tryz.prog 6 #[.slice A n c] w (True_ w) := by
  have HN := Lib.hid hn
  have HNC := Lib.hid hnc
  have HM := Lib.hid hm
  have HR := Lib.hid hr
  have HB := Lib.hid (Below.refl w.heap.size w)
  obtain ⟨R0, hR0⟩ : ∃ R, readB entryK pEntryD b = R := ⟨_, rfl⟩
  have HQ0 := Lib.hid hR0
  clear hR0
  obtain ⟨R1, hR1⟩ : ∃ R, readB confK pConfD b = R := ⟨_, rfl⟩
  have HQ1 := Lib.hid hR1
  clear hR1
  obtain ⟨R2, hR2⟩ : ∃ R, readB shotK pShotD b = R := ⟨_, rfl⟩
  have HQ2 := Lib.hid hR2
  clear hR2
  obtain ⟨R3, hR3⟩ : ∃ R, readB hardK pHardD b = R := ⟨_, rfl⟩
  have HQ3 := Lib.hid hR3
  clear hR3
  clear hn hnc hm hr
  go_enter Tryz.func6, Tryz.ntmps6
  have hoa := Own.made w w.heap.size #[] 0 (Nat.le_refl _) (by decide) rfl
  go_wp2_with (at_builtin; refine wpList_app rfl (.tmp 20) (.tmp 21) rfl rfl hoa rfl HN.out (HR.out.alloc (Nat.le_refl _) (.cells #[] 5)) (by have := HN.out; have := HM.out; rw [List.length_nil]; omega) (by rw [World.size_alloc]; exact Nat.le_succ _) ?_)
  intro va1 u1 ho hbq _
  try rw [List.nil_append] at ho
  have hb := (((Below.refl w.heap.size w).alloc (Nat.le_refl _) (.cells #[] 5)).trans hbq)
  obtain ⟨A1, c1, rfl, hc1, _, _, hr1, _⟩ := ho.form
  rw [← HN.out] at hc1 ⊢
  have H1 := Lib.hid hr1
  replace HR := Lib.hid (lext HR.out hb)
  replace HB := Lib.hid (ext HB.out hb)
  clear hb hbq ho hoa hr1
  have HL1 := Lib.hid HB.out.size
  go_wp2_with fail
  refine (msgToEntry_any _ HN.out hc1 (by have := HM.out; omega) H1.out).mono ?_
  rintro e v1 hrd
  obtain ⟨vs1, E0, rfl, hE, hv1, hv2, hrx, hb⟩ := ReadsK.both2 entryK_ok ties_entry ask_entry entryZ_rep HQ0.out hrd
  have HE0 := Lib.hid hE
  clear hE
  have HG1 := Lib.hid hb.size
  replace HR := Lib.hid (lext HR.out hb)
  replace HB := Lib.hid (ext HB.out hb)
  have HX1 := Lib.hid hrx
  have HI := Lib.hid (show (Tryz.prog.info? 25).map (·.size) = some vs1.size by rw [hv1]; exact xt_Entry.i)
  have HV1 := Lib.hid (show (#[.int .u64 0, .int .u64 0, .int .i64 0, .int .i64 0, .slice none 0 0] : Array Value).size = vs1.size by rw [hv1]; rfl)
  have HV2 := Lib.hid hv2
  have HS1 := Lib.hid (show vs1.size = 5 by rw [hv1]; rfl)
  clear hrd hv1 hv2 hrx hb H1 hc1
  have hb : Below v1.heap.size v1 ((v1.alloc (.cells #[.int .u64 0, .int .u64 0, .int .i64 0, .int .i64 0, .slice none 0 0] 25)).setRow v1.heap.size vs1) := below_setRow ((Below.refl _ _).alloc (Nat.le_refl _) _) (Nat.le_refl _) _
  replace HR := Lib.hid (lext HR.out hb)
  replace HB := Lib.hid (ext HB.out hb)
  replace HX1 := Lib.hid (entryK_ok.keep HX1.out (fun b hB => hb.block b (hB.2)) (fun _ h => h))
  have HRX1 := Lib.hid (show ((v1.alloc (.cells #[.int .u64 0, .int .u64 0, .int .i64 0, .int .i64 0, .slice none 0 0] 25)).setRow v1.heap.size vs1).heap[v1.heap.size]? = some (.cells vs1 25 (0, 0)) from setRow_heap _ _ _ _ _ _ (heap_alloc_new v1 _))
  clear hb
  go_upto_region 2 with (with_reducible refine wpList_store_row rfl 25 (.tmp 3) (.tmp 24) rfl v1.heap.size vs1 rfl rfl 25 #[.int .u64 0, .int .u64 0, .int .i64 0, .int .i64 0, .slice none 0 0] (heap_alloc_new v1 _) HI.out HV1.out HV2.out ?_)
  generalize (v1.alloc (.cells #[.int .u64 0, .int .u64 0, .int .i64 0, .int .i64 0, .slice none 0 0] 25)).setRow v1.heap.size vs1 = w1 at *
  generalize v1.heap.size = g1 at *
  clear HI HV1 
  have HO1 := HV2
  clear HV2
  have HL2 := Lib.hid (row_lt HRX1.out)
  go_wp2_with fail
  refine (refToEntry_any _ HN.out HNC.out (by have := HM.out; omega) HR.out).mono ?_
  rintro e v2 hrd
  obtain ⟨vs2, rfl, hv1, hv2, hrx, hb⟩ := RefTo.both2 entryK_ok HQ0.out hrd
  have HG2 := Lib.hid hb.size
  replace HR := Lib.hid (lext HR.out hb)
  replace HB := Lib.hid (ext HB.out hb)
  replace HX1 := Lib.hid (entryK_ok.keep HX1.out (fun b hB => hb.block b (Nat.lt_trans hB.2 (row_lt HRX1.out))) (fun _ h => h))
  replace HRX1 := Lib.hid ((hb.block _ (row_lt HRX1.out)).trans HRX1.out)
  have HX2 := Lib.hid hrx
  have HI := Lib.hid (show (Tryz.prog.info? 25).map (·.size) = some vs2.size by rw [hv1]; exact xt_Entry.i)
  have HV1 := Lib.hid (show (#[.int .u64 0, .int .u64 0, .int .i64 0, .int .i64 0, .slice none 0 0] : Array Value).size = vs2.size by rw [hv1]; rfl)
  have HV2 := Lib.hid hv2
  have HS2 := Lib.hid (show vs2.size = 5 by rw [hv1]; rfl)
  clear hrd hv1 hv2 hrx hb
  have hb : Below v2.heap.size v2 ((v2.alloc (.cells #[.int .u64 0, .int .u64 0, .int .i64 0, .int .i64 0, .slice none 0 0] 25)).setRow v2.heap.size vs2) := below_setRow ((Below.refl _ _).alloc (Nat.le_refl _) _) (Nat.le_refl _) _
  replace HR := Lib.hid (lext HR.out hb)
  replace HB := Lib.hid (ext HB.out hb)
  replace HX1 := Lib.hid (entryK_ok.keep HX1.out (fun b hB => hb.block b (Nat.lt_trans hB.2 (row_lt HRX1.out))) (fun _ h => h))
  replace HRX1 := Lib.hid ((hb.block _ (row_lt HRX1.out)).trans HRX1.out)
  replace HX2 := Lib.hid (entryK_ok.keep HX2.out (fun b hB => hb.block b (hB.2)) (fun _ h => h))
  have HRX2 := Lib.hid (show ((v2.alloc (.cells #[.int .u64 0, .int .u64 0, .int .i64 0, .int .i64 0, .slice none 0 0] 25)).setRow v2.heap.size vs2).heap[v2.heap.size]? = some (.cells vs2 25 (0, 0)) from setRow_heap _ _ _ _ _ _ (heap_alloc_new v2 _))
  clear hb
  go_upto_region 3 with (with_reducible refine wpList_store_row rfl 25 (.tmp 5) (.tmp 29) rfl v2.heap.size vs2 rfl rfl 25 #[.int .u64 0, .int .u64 0, .int .i64 0, .int .i64 0, .slice none 0 0] (heap_alloc_new v2 _) HI.out HV1.out HV2.out ?_)
  generalize (v2.alloc (.cells #[.int .u64 0, .int .u64 0, .int .i64 0, .int .i64 0, .slice none 0 0] 25)).setRow v2.heap.size vs2 = w2 at *
  generalize v2.heap.size = g2 at *
  clear HI HV1 
  have HO2 := HV2
  clear HV2
  have hoa := Own.made w2 w2.heap.size #[] 0 (Nat.le_refl _) (by decide) rfl
  go_wp2_with (at_builtin; refine wpList_app rfl (.tmp 32) (.tmp 33) rfl rfl hoa rfl HN.out (HR.out.alloc (Nat.le_refl _) (.cells #[] 5)) (by have := HN.out; have := HM.out; rw [List.length_nil]; omega) (by rw [World.size_alloc]; exact Nat.le_succ _) ?_)
  intro va3 u3 ho hbq _
  try rw [List.nil_append] at ho
  have hb := (((Below.refl w2.heap.size w2).alloc (Nat.le_refl _) (.cells #[] 5)).trans hbq)
  obtain ⟨A3, c3, rfl, hc3, _, _, hr3, _⟩ := ho.form
  rw [← HN.out] at hc3 ⊢
  have H3 := Lib.hid hr3
  replace HR := Lib.hid (lext HR.out hb)
  replace HB := Lib.hid (ext HB.out hb)
  replace HX1 := Lib.hid (entryK_ok.keep HX1.out (fun b hB => hb.block b (Nat.lt_trans hB.2 (row_lt HRX1.out))) (fun _ h => h))
  replace HRX1 := Lib.hid ((hb.block _ (row_lt HRX1.out)).trans HRX1.out)
  replace HX2 := Lib.hid (entryK_ok.keep HX2.out (fun b hB => hb.block b (Nat.lt_trans hB.2 (row_lt HRX2.out))) (fun _ h => h))
  replace HRX2 := Lib.hid ((hb.block _ (row_lt HRX2.out)).trans HRX2.out)
  clear hb hbq ho hoa hr3
  have HL3 := Lib.hid (row_lt HRX2.out)
  go_wp2_with fail
  refine (msgToConf_any _ HN.out hc3 (by have := HM.out; omega) H3.out).mono ?_
  rintro e v3 hrd
  obtain ⟨vs3, E1, rfl, hE, hv1, hv2, hrx, hb⟩ := ReadsK.both2 confK_ok ties_conf (fun _ h => h) confZ_rep HQ1.out hrd
  have HE1 := Lib.hid hE
  clear hE
  have HG3 := Lib.hid hb.size
  replace HR := Lib.hid (lext HR.out hb)
  replace HB := Lib.hid (ext HB.out hb)
  replace HX1 := Lib.hid (entryK_ok.keep HX1.out (fun b hB => hb.block b (Nat.lt_trans hB.2 (row_lt HRX1.out))) (fun _ h => h))
  replace HRX1 := Lib.hid ((hb.block _ (row_lt HRX1.out)).trans HRX1.out)
  replace HX2 := Lib.hid (entryK_ok.keep HX2.out (fun b hB => hb.block b (Nat.lt_trans hB.2 (row_lt HRX2.out))) (fun _ h => h))
  replace HRX2 := Lib.hid ((hb.block _ (row_lt HRX2.out)).trans HRX2.out)
  have HX3 := Lib.hid hrx
  have HI := Lib.hid (show (Tryz.prog.info? 28).map (·.size) = some vs3.size by rw [hv1]; exact xt_Conf.i)
  have HV1 := Lib.hid (show (#[.slice none 0 0, .slice none 0 0] : Array Value).size = vs3.size by rw [hv1]; rfl)
  have HV2 := Lib.hid hv2
  have HS3 := Lib.hid (show vs3.size = 2 by rw [hv1]; rfl)
  clear hrd hv1 hv2 hrx hb H3 hc3
  have hb : Below v3.heap.size v3 ((v3.alloc (.cells #[.slice none 0 0, .slice none 0 0] 28)).setRow v3.heap.size vs3) := below_setRow ((Below.refl _ _).alloc (Nat.le_refl _) _) (Nat.le_refl _) _
  replace HR := Lib.hid (lext HR.out hb)
  replace HB := Lib.hid (ext HB.out hb)
  replace HX1 := Lib.hid (entryK_ok.keep HX1.out (fun b hB => hb.block b (Nat.lt_trans hB.2 (row_lt HRX1.out))) (fun _ h => h))
  replace HRX1 := Lib.hid ((hb.block _ (row_lt HRX1.out)).trans HRX1.out)
  replace HX2 := Lib.hid (entryK_ok.keep HX2.out (fun b hB => hb.block b (Nat.lt_trans hB.2 (row_lt HRX2.out))) (fun _ h => h))
  replace HRX2 := Lib.hid ((hb.block _ (row_lt HRX2.out)).trans HRX2.out)
  replace HX3 := Lib.hid (confK_ok.keep HX3.out (fun b hB => hb.block b (hB.2)) (fun _ h => h))
  have HRX3 := Lib.hid (show ((v3.alloc (.cells #[.slice none 0 0, .slice none 0 0] 28)).setRow v3.heap.size vs3).heap[v3.heap.size]? = some (.cells vs3 28 (0, 0)) from setRow_heap _ _ _ _ _ _ (heap_alloc_new v3 _))
  clear hb
  go_upto_region 4 with (with_reducible refine wpList_store_row rfl 28 (.tmp 7) (.tmp 36) rfl v3.heap.size vs3 rfl rfl 28 #[.slice none 0 0, .slice none 0 0] (heap_alloc_new v3 _) HI.out HV1.out HV2.out ?_)
  generalize (v3.alloc (.cells #[.slice none 0 0, .slice none 0 0] 28)).setRow v3.heap.size vs3 = w3 at *
  generalize v3.heap.size = g3 at *
  clear HI HV1 
  have HO3 := HV2
  clear HV2
  have HL4 := Lib.hid (row_lt HRX3.out)
  go_wp2_with fail
  refine (refToConf_any _ HN.out HNC.out (by have := HM.out; omega) HR.out).mono ?_
  rintro e v4 hrd
  obtain ⟨vs4, rfl, hv1, hv2, hrx, hb⟩ := RefTo.both2 confK_ok HQ1.out hrd
  have HG4 := Lib.hid hb.size
  replace HR := Lib.hid (lext HR.out hb)
  replace HB := Lib.hid (ext HB.out hb)
  replace HX1 := Lib.hid (entryK_ok.keep HX1.out (fun b hB => hb.block b (Nat.lt_trans hB.2 (row_lt HRX1.out))) (fun _ h => h))
  replace HRX1 := Lib.hid ((hb.block _ (row_lt HRX1.out)).trans HRX1.out)
  replace HX2 := Lib.hid (entryK_ok.keep HX2.out (fun b hB => hb.block b (Nat.lt_trans hB.2 (row_lt HRX2.out))) (fun _ h => h))
  replace HRX2 := Lib.hid ((hb.block _ (row_lt HRX2.out)).trans HRX2.out)
  replace HX3 := Lib.hid (confK_ok.keep HX3.out (fun b hB => hb.block b (Nat.lt_trans hB.2 (row_lt HRX3.out))) (fun _ h => h))
  replace HRX3 := Lib.hid ((hb.block _ (row_lt HRX3.out)).trans HRX3.out)
  have HX4 := Lib.hid hrx
  have HI := Lib.hid (show (Tryz.prog.info? 28).map (·.size) = some vs4.size by rw [hv1]; exact xt_Conf.i)
  have HV1 := Lib.hid (show (#[.slice none 0 0, .slice none 0 0] : Array Value).size = vs4.size by rw [hv1]; rfl)
  have HV2 := Lib.hid hv2
  have HS4 := Lib.hid (show vs4.size = 2 by rw [hv1]; rfl)
  clear hrd hv1 hv2 hrx hb
  have hb : Below v4.heap.size v4 ((v4.alloc (.cells #[.slice none 0 0, .slice none 0 0] 28)).setRow v4.heap.size vs4) := below_setRow ((Below.refl _ _).alloc (Nat.le_refl _) _) (Nat.le_refl _) _
  replace HR := Lib.hid (lext HR.out hb)
  replace HB := Lib.hid (ext HB.out hb)
  replace HX1 := Lib.hid (entryK_ok.keep HX1.out (fun b hB => hb.block b (Nat.lt_trans hB.2 (row_lt HRX1.out))) (fun _ h => h))
  replace HRX1 := Lib.hid ((hb.block _ (row_lt HRX1.out)).trans HRX1.out)
  replace HX2 := Lib.hid (entryK_ok.keep HX2.out (fun b hB => hb.block b (Nat.lt_trans hB.2 (row_lt HRX2.out))) (fun _ h => h))
  replace HRX2 := Lib.hid ((hb.block _ (row_lt HRX2.out)).trans HRX2.out)
  replace HX3 := Lib.hid (confK_ok.keep HX3.out (fun b hB => hb.block b (Nat.lt_trans hB.2 (row_lt HRX3.out))) (fun _ h => h))
  replace HRX3 := Lib.hid ((hb.block _ (row_lt HRX3.out)).trans HRX3.out)
  replace HX4 := Lib.hid (confK_ok.keep HX4.out (fun b hB => hb.block b (hB.2)) (fun _ h => h))
  have HRX4 := Lib.hid (show ((v4.alloc (.cells #[.slice none 0 0, .slice none 0 0] 28)).setRow v4.heap.size vs4).heap[v4.heap.size]? = some (.cells vs4 28 (0, 0)) from setRow_heap _ _ _ _ _ _ (heap_alloc_new v4 _))
  clear hb
  go_upto_region 5 with (with_reducible refine wpList_store_row rfl 28 (.tmp 9) (.tmp 41) rfl v4.heap.size vs4 rfl rfl 28 #[.slice none 0 0, .slice none 0 0] (heap_alloc_new v4 _) HI.out HV1.out HV2.out ?_)
  generalize (v4.alloc (.cells #[.slice none 0 0, .slice none 0 0] 28)).setRow v4.heap.size vs4 = w4 at *
  generalize v4.heap.size = g4 at *
  clear HI HV1 
  have HO4 := HV2
  clear HV2
  have hoa := Own.made w4 w4.heap.size #[] 0 (Nat.le_refl _) (by decide) rfl
  go_wp2_with (at_builtin; refine wpList_app rfl (.tmp 44) (.tmp 45) rfl rfl hoa rfl HN.out (HR.out.alloc (Nat.le_refl _) (.cells #[] 5)) (by have := HN.out; have := HM.out; rw [List.length_nil]; omega) (by rw [World.size_alloc]; exact Nat.le_succ _) ?_)
  intro va5 u5 ho hbq _
  try rw [List.nil_append] at ho
  have hb := (((Below.refl w4.heap.size w4).alloc (Nat.le_refl _) (.cells #[] 5)).trans hbq)
  obtain ⟨A5, c5, rfl, hc5, _, _, hr5, _⟩ := ho.form
  rw [← HN.out] at hc5 ⊢
  have H5 := Lib.hid hr5
  replace HR := Lib.hid (lext HR.out hb)
  replace HB := Lib.hid (ext HB.out hb)
  replace HX1 := Lib.hid (entryK_ok.keep HX1.out (fun b hB => hb.block b (Nat.lt_trans hB.2 (row_lt HRX1.out))) (fun _ h => h))
  replace HRX1 := Lib.hid ((hb.block _ (row_lt HRX1.out)).trans HRX1.out)
  replace HX2 := Lib.hid (entryK_ok.keep HX2.out (fun b hB => hb.block b (Nat.lt_trans hB.2 (row_lt HRX2.out))) (fun _ h => h))
  replace HRX2 := Lib.hid ((hb.block _ (row_lt HRX2.out)).trans HRX2.out)
  replace HX3 := Lib.hid (confK_ok.keep HX3.out (fun b hB => hb.block b (Nat.lt_trans hB.2 (row_lt HRX3.out))) (fun _ h => h))
  replace HRX3 := Lib.hid ((hb.block _ (row_lt HRX3.out)).trans HRX3.out)
  replace HX4 := Lib.hid (confK_ok.keep HX4.out (fun b hB => hb.block b (Nat.lt_trans hB.2 (row_lt HRX4.out))) (fun _ h => h))
  replace HRX4 := Lib.hid ((hb.block _ (row_lt HRX4.out)).trans HRX4.out)
  clear hb hbq ho hoa hr5
  have HL5 := Lib.hid (row_lt HRX4.out)
  go_wp2_with fail
  refine (msgToShot_any _ HN.out hc5 (by have := HM.out; omega) H5.out).mono ?_
  rintro e v5 hrd
  obtain ⟨vs5, E2, rfl, hE, hv1, hv2, hrx, hb⟩ := ReadsK.both2 shotK_ok ties_shot ask_shot shotZ_rep HQ2.out hrd
  have HE2 := Lib.hid hE
  clear hE
  have HG5 := Lib.hid hb.size
  replace HR := Lib.hid (lext HR.out hb)
  replace HB := Lib.hid (ext HB.out hb)
  replace HX1 := Lib.hid (entryK_ok.keep HX1.out (fun b hB => hb.block b (Nat.lt_trans hB.2 (row_lt HRX1.out))) (fun _ h => h))
  replace HRX1 := Lib.hid ((hb.block _ (row_lt HRX1.out)).trans HRX1.out)
  replace HX2 := Lib.hid (entryK_ok.keep HX2.out (fun b hB => hb.block b (Nat.lt_trans hB.2 (row_lt HRX2.out))) (fun _ h => h))
  replace HRX2 := Lib.hid ((hb.block _ (row_lt HRX2.out)).trans HRX2.out)
  replace HX3 := Lib.hid (confK_ok.keep HX3.out (fun b hB => hb.block b (Nat.lt_trans hB.2 (row_lt HRX3.out))) (fun _ h => h))
  replace HRX3 := Lib.hid ((hb.block _ (row_lt HRX3.out)).trans HRX3.out)
  replace HX4 := Lib.hid (confK_ok.keep HX4.out (fun b hB => hb.block b (Nat.lt_trans hB.2 (row_lt HRX4.out))) (fun _ h => h))
  replace HRX4 := Lib.hid ((hb.block _ (row_lt HRX4.out)).trans HRX4.out)
  have HX5 := Lib.hid hrx
  have HI := Lib.hid (show (Tryz.prog.info? 30).map (·.size) = some vs5.size by rw [hv1]; exact xt_Shot.i)
  have HV1 := Lib.hid (show (#[.int .u64 0, .int .u64 0, .slice none 0 0, .slice none 0 0, .slice none 0 0] : Array Value).size = vs5.size by rw [hv1]; rfl)
  have HV2 := Lib.hid hv2
  have HS5 := Lib.hid (show vs5.size = 5 by rw [hv1]; rfl)
  clear hrd hv1 hv2 hrx hb H5 hc5
  have hb : Below v5.heap.size v5 ((v5.alloc (.cells #[.int .u64 0, .int .u64 0, .slice none 0 0, .slice none 0 0, .slice none 0 0] 30)).setRow v5.heap.size vs5) := below_setRow ((Below.refl _ _).alloc (Nat.le_refl _) _) (Nat.le_refl _) _
  replace HR := Lib.hid (lext HR.out hb)
  replace HB := Lib.hid (ext HB.out hb)
  replace HX1 := Lib.hid (entryK_ok.keep HX1.out (fun b hB => hb.block b (Nat.lt_trans hB.2 (row_lt HRX1.out))) (fun _ h => h))
  replace HRX1 := Lib.hid ((hb.block _ (row_lt HRX1.out)).trans HRX1.out)
  replace HX2 := Lib.hid (entryK_ok.keep HX2.out (fun b hB => hb.block b (Nat.lt_trans hB.2 (row_lt HRX2.out))) (fun _ h => h))
  replace HRX2 := Lib.hid ((hb.block _ (row_lt HRX2.out)).trans HRX2.out)
  replace HX3 := Lib.hid (confK_ok.keep HX3.out (fun b hB => hb.block b (Nat.lt_trans hB.2 (row_lt HRX3.out))) (fun _ h => h))
  replace HRX3 := Lib.hid ((hb.block _ (row_lt HRX3.out)).trans HRX3.out)
  replace HX4 := Lib.hid (confK_ok.keep HX4.out (fun b hB => hb.block b (Nat.lt_trans hB.2 (row_lt HRX4.out))) (fun _ h => h))
  replace HRX4 := Lib.hid ((hb.block _ (row_lt HRX4.out)).trans HRX4.out)
  replace HX5 := Lib.hid (shotK_ok.keep HX5.out (fun b hB => hb.block b (hB.2)) (fun _ h => h))
  have HRX5 := Lib.hid (show ((v5.alloc (.cells #[.int .u64 0, .int .u64 0, .slice none 0 0, .slice none 0 0, .slice none 0 0] 30)).setRow v5.heap.size vs5).heap[v5.heap.size]? = some (.cells vs5 30 (0, 0)) from setRow_heap _ _ _ _ _ _ (heap_alloc_new v5 _))
  clear hb
  go_upto_region 6 with (with_reducible refine wpList_store_row rfl 30 (.tmp 11) (.tmp 48) rfl v5.heap.size vs5 rfl rfl 30 #[.int .u64 0, .int .u64 0, .slice none 0 0, .slice none 0 0, .slice none 0 0] (heap_alloc_new v5 _) HI.out HV1.out HV2.out ?_)
  generalize (v5.alloc (.cells #[.int .u64 0, .int .u64 0, .slice none 0 0, .slice none 0 0, .slice none 0 0] 30)).setRow v5.heap.size vs5 = w5 at *
  generalize v5.heap.size = g5 at *
  clear HI HV1 
  have HO5 := HV2
  clear HV2
  have HL6 := Lib.hid (row_lt HRX5.out)
  go_wp2_with fail
  refine (refToShot_any _ HN.out HNC.out (by have := HM.out; omega) HR.out).mono ?_
  rintro e v6 hrd
  obtain ⟨vs6, rfl, hv1, hv2, hrx, hb⟩ := RefTo.both2 shotK_ok HQ2.out hrd
  have HG6 := Lib.hid hb.size
  replace HR := Lib.hid (lext HR.out hb)
  replace HB := Lib.hid (ext HB.out hb)
  replace HX1 := Lib.hid (entryK_ok.keep HX1.out (fun b hB => hb.block b (Nat.lt_trans hB.2 (row_lt HRX1.out))) (fun _ h => h))
  replace HRX1 := Lib.hid ((hb.block _ (row_lt HRX1.out)).trans HRX1.out)
  replace HX2 := Lib.hid (entryK_ok.keep HX2.out (fun b hB => hb.block b (Nat.lt_trans hB.2 (row_lt HRX2.out))) (fun _ h => h))
  replace HRX2 := Lib.hid ((hb.block _ (row_lt HRX2.out)).trans HRX2.out)
  replace HX3 := Lib.hid (confK_ok.keep HX3.out (fun b hB => hb.block b (Nat.lt_trans hB.2 (row_lt HRX3.out))) (fun _ h => h))
  replace HRX3 := Lib.hid ((hb.block _ (row_lt HRX3.out)).trans HRX3.out)
  replace HX4 := Lib.hid (confK_ok.keep HX4.out (fun b hB => hb.block b (Nat.lt_trans hB.2 (row_lt HRX4.out))) (fun _ h => h))
  replace HRX4 := Lib.hid ((hb.block _ (row_lt HRX4.out)).trans HRX4.out)
  replace HX5 := Lib.hid (shotK_ok.keep HX5.out (fun b hB => hb.block b (Nat.lt_trans hB.2 (row_lt HRX5.out))) (fun _ h => h))
  replace HRX5 := Lib.hid ((hb.block _ (row_lt HRX5.out)).trans HRX5.out)
  have HX6 := Lib.hid hrx
  have HI := Lib.hid (show (Tryz.prog.info? 30).map (·.size) = some vs6.size by rw [hv1]; exact xt_Shot.i)
  have HV1 := Lib.hid (show (#[.int .u64 0, .int .u64 0, .slice none 0 0, .slice none 0 0, .slice none 0 0] : Array Value).size = vs6.size by rw [hv1]; rfl)
  have HV2 := Lib.hid hv2
  have HS6 := Lib.hid (show vs6.size = 5 by rw [hv1]; rfl)
  clear hrd hv1 hv2 hrx hb
  have hb : Below v6.heap.size v6 ((v6.alloc (.cells #[.int .u64 0, .int .u64 0, .slice none 0 0, .slice none 0 0, .slice none 0 0] 30)).setRow v6.heap.size vs6) := below_setRow ((Below.refl _ _).alloc (Nat.le_refl _) _) (Nat.le_refl _) _
  replace HR := Lib.hid (lext HR.out hb)
  replace HB := Lib.hid (ext HB.out hb)
  replace HX1 := Lib.hid (entryK_ok.keep HX1.out (fun b hB => hb.block b (Nat.lt_trans hB.2 (row_lt HRX1.out))) (fun _ h => h))
  replace HRX1 := Lib.hid ((hb.block _ (row_lt HRX1.out)).trans HRX1.out)
  replace HX2 := Lib.hid (entryK_ok.keep HX2.out (fun b hB => hb.block b (Nat.lt_trans hB.2 (row_lt HRX2.out))) (fun _ h => h))
  replace HRX2 := Lib.hid ((hb.block _ (row_lt HRX2.out)).trans HRX2.out)
  replace HX3 := Lib.hid (confK_ok.keep HX3.out (fun b hB => hb.block b (Nat.lt_trans hB.2 (row_lt HRX3.out))) (fun _ h => h))
  replace HRX3 := Lib.hid ((hb.block _ (row_lt HRX3.out)).trans HRX3.out)
  replace HX4 := Lib.hid (confK_ok.keep HX4.out (fun b hB => hb.block b (Nat.lt_trans hB.2 (row_lt HRX4.out))) (fun _ h => h))
  replace HRX4 := Lib.hid ((hb.block _ (row_lt HRX4.out)).trans HRX4.out)
  replace HX5 := Lib.hid (shotK_ok.keep HX5.out (fun b hB => hb.block b (Nat.lt_trans hB.2 (row_lt HRX5.out))) (fun _ h => h))
  replace HRX5 := Lib.hid ((hb.block _ (row_lt HRX5.out)).trans HRX5.out)
  replace HX6 := Lib.hid (shotK_ok.keep HX6.out (fun b hB => hb.block b (hB.2)) (fun _ h => h))
  have HRX6 := Lib.hid (show ((v6.alloc (.cells #[.int .u64 0, .int .u64 0, .slice none 0 0, .slice none 0 0, .slice none 0 0] 30)).setRow v6.heap.size vs6).heap[v6.heap.size]? = some (.cells vs6 30 (0, 0)) from setRow_heap _ _ _ _ _ _ (heap_alloc_new v6 _))
  clear hb
  go_upto_region 7 with (with_reducible refine wpList_store_row rfl 30 (.tmp 13) (.tmp 53) rfl v6.heap.size vs6 rfl rfl 30 #[.int .u64 0, .int .u64 0, .slice none 0 0, .slice none 0 0, .slice none 0 0] (heap_alloc_new v6 _) HI.out HV1.out HV2.out ?_)
  generalize (v6.alloc (.cells #[.int .u64 0, .int .u64 0, .slice none 0 0, .slice none 0 0, .slice none 0 0] 30)).setRow v6.heap.size vs6 = w6 at *
  generalize v6.heap.size = g6 at *
  clear HI HV1 
  have HO6 := HV2
  clear HV2
  have hoa := Own.made w6 w6.heap.size #[] 0 (Nat.le_refl _) (by decide) rfl
  go_wp2_with (at_builtin; refine wpList_app rfl (.tmp 56) (.tmp 57) rfl rfl hoa rfl HN.out (HR.out.alloc (Nat.le_refl _) (.cells #[] 5)) (by have := HN.out; have := HM.out; rw [List.length_nil]; omega) (by rw [World.size_alloc]; exact Nat.le_succ _) ?_)
  intro va7 u7 ho hbq _
  try rw [List.nil_append] at ho
  have hb := (((Below.refl w6.heap.size w6).alloc (Nat.le_refl _) (.cells #[] 5)).trans hbq)
  obtain ⟨A7, c7, rfl, hc7, _, _, hr7, _⟩ := ho.form
  rw [← HN.out] at hc7 ⊢
  have H7 := Lib.hid hr7
  replace HR := Lib.hid (lext HR.out hb)
  replace HB := Lib.hid (ext HB.out hb)
  replace HX1 := Lib.hid (entryK_ok.keep HX1.out (fun b hB => hb.block b (Nat.lt_trans hB.2 (row_lt HRX1.out))) (fun _ h => h))
  replace HRX1 := Lib.hid ((hb.block _ (row_lt HRX1.out)).trans HRX1.out)
  replace HX2 := Lib.hid (entryK_ok.keep HX2.out (fun b hB => hb.block b (Nat.lt_trans hB.2 (row_lt HRX2.out))) (fun _ h => h))
  replace HRX2 := Lib.hid ((hb.block _ (row_lt HRX2.out)).trans HRX2.out)
  replace HX3 := Lib.hid (confK_ok.keep HX3.out (fun b hB => hb.block b (Nat.lt_trans hB.2 (row_lt HRX3.out))) (fun _ h => h))
  replace HRX3 := Lib.hid ((hb.block _ (row_lt HRX3.out)).trans HRX3.out)
  replace HX4 := Lib.hid (confK_ok.keep HX4.out (fun b hB => hb.block b (Nat.lt_trans hB.2 (row_lt HRX4.out))) (fun _ h => h))
  replace HRX4 := Lib.hid ((hb.block _ (row_lt HRX4.out)).trans HRX4.out)
  replace HX5 := Lib.hid (shotK_ok.keep HX5.out (fun b hB => hb.block b (Nat.lt_trans hB.2 (row_lt HRX5.out))) (fun _ h => h))
  replace HRX5 := Lib.hid ((hb.block _ (row_lt HRX5.out)).trans HRX5.out)
  replace HX6 := Lib.hid (shotK_ok.keep HX6.out (fun b hB => hb.block b (Nat.lt_trans hB.2 (row_lt HRX6.out))) (fun _ h => h))
  replace HRX6 := Lib.hid ((hb.block _ (row_lt HRX6.out)).trans HRX6.out)
  clear hb hbq ho hoa hr7
  have HL7 := Lib.hid (row_lt HRX6.out)
  go_wp2_with fail
  refine (msgToHard_any _ HN.out hc7 (by have := HM.out; omega) H7.out).mono ?_
  rintro e v7 hrd
  obtain ⟨vs7, E3, rfl, hE, hv1, hv2, hrx, hb⟩ := ReadsK.both2 hardK_ok ties_hard ask_hard hardZ_rep HQ3.out hrd
  have HE3 := Lib.hid hE
  clear hE
  have HG7 := Lib.hid hb.size
  replace HR := Lib.hid (lext HR.out hb)
  replace HB := Lib.hid (ext HB.out hb)
  replace HX1 := Lib.hid (entryK_ok.keep HX1.out (fun b hB => hb.block b (Nat.lt_trans hB.2 (row_lt HRX1.out))) (fun _ h => h))
  replace HRX1 := Lib.hid ((hb.block _ (row_lt HRX1.out)).trans HRX1.out)
  replace HX2 := Lib.hid (entryK_ok.keep HX2.out (fun b hB => hb.block b (Nat.lt_trans hB.2 (row_lt HRX2.out))) (fun _ h => h))
  replace HRX2 := Lib.hid ((hb.block _ (row_lt HRX2.out)).trans HRX2.out)
  replace HX3 := Lib.hid (confK_ok.keep HX3.out (fun b hB => hb.block b (Nat.lt_trans hB.2 (row_lt HRX3.out))) (fun _ h => h))
  replace HRX3 := Lib.hid ((hb.block _ (row_lt HRX3.out)).trans HRX3.out)
  replace HX4 := Lib.hid (confK_ok.keep HX4.out (fun b hB => hb.block b (Nat.lt_trans hB.2 (row_lt HRX4.out))) (fun _ h => h))
  replace HRX4 := Lib.hid ((hb.block _ (row_lt HRX4.out)).trans HRX4.out)
  replace HX5 := Lib.hid (shotK_ok.keep HX5.out (fun b hB => hb.block b (Nat.lt_trans hB.2 (row_lt HRX5.out))) (fun _ h => h))
  replace HRX5 := Lib.hid ((hb.block _ (row_lt HRX5.out)).trans HRX5.out)
  replace HX6 := Lib.hid (shotK_ok.keep HX6.out (fun b hB => hb.block b (Nat.lt_trans hB.2 (row_lt HRX6.out))) (fun _ h => h))
  replace HRX6 := Lib.hid ((hb.block _ (row_lt HRX6.out)).trans HRX6.out)
  have HX7 := Lib.hid hrx
  have HI := Lib.hid (show (Tryz.prog.info? 32).map (·.size) = some vs7.size by rw [hv1]; exact xt_Hard.i)
  have HV1 := Lib.hid (show (#[.int .u64 0, .int .i64 0] : Array Value).size = vs7.size by rw [hv1]; rfl)
  have HV2 := Lib.hid hv2
  have HS7 := Lib.hid (show vs7.size = 2 by rw [hv1]; rfl)
  clear hrd hv1 hv2 hrx hb H7 hc7
  have hb : Below v7.heap.size v7 ((v7.alloc (.cells #[.int .u64 0, .int .i64 0] 32)).setRow v7.heap.size vs7) := below_setRow ((Below.refl _ _).alloc (Nat.le_refl _) _) (Nat.le_refl _) _
  replace HR := Lib.hid (lext HR.out hb)
  replace HB := Lib.hid (ext HB.out hb)
  replace HX1 := Lib.hid (entryK_ok.keep HX1.out (fun b hB => hb.block b (Nat.lt_trans hB.2 (row_lt HRX1.out))) (fun _ h => h))
  replace HRX1 := Lib.hid ((hb.block _ (row_lt HRX1.out)).trans HRX1.out)
  replace HX2 := Lib.hid (entryK_ok.keep HX2.out (fun b hB => hb.block b (Nat.lt_trans hB.2 (row_lt HRX2.out))) (fun _ h => h))
  replace HRX2 := Lib.hid ((hb.block _ (row_lt HRX2.out)).trans HRX2.out)
  replace HX3 := Lib.hid (confK_ok.keep HX3.out (fun b hB => hb.block b (Nat.lt_trans hB.2 (row_lt HRX3.out))) (fun _ h => h))
  replace HRX3 := Lib.hid ((hb.block _ (row_lt HRX3.out)).trans HRX3.out)
  replace HX4 := Lib.hid (confK_ok.keep HX4.out (fun b hB => hb.block b (Nat.lt_trans hB.2 (row_lt HRX4.out))) (fun _ h => h))
  replace HRX4 := Lib.hid ((hb.block _ (row_lt HRX4.out)).trans HRX4.out)
  replace HX5 := Lib.hid (shotK_ok.keep HX5.out (fun b hB => hb.block b (Nat.lt_trans hB.2 (row_lt HRX5.out))) (fun _ h => h))
  replace HRX5 := Lib.hid ((hb.block _ (row_lt HRX5.out)).trans HRX5.out)
  replace HX6 := Lib.hid (shotK_ok.keep HX6.out (fun b hB => hb.block b (Nat.lt_trans hB.2 (row_lt HRX6.out))) (fun _ h => h))
  replace HRX6 := Lib.hid ((hb.block _ (row_lt HRX6.out)).trans HRX6.out)
  replace HX7 := Lib.hid (hardK_ok.keep HX7.out (fun b hB => hb.block b (hB.2)) (fun _ h => h))
  have HRX7 := Lib.hid (show ((v7.alloc (.cells #[.int .u64 0, .int .i64 0] 32)).setRow v7.heap.size vs7).heap[v7.heap.size]? = some (.cells vs7 32 (0, 0)) from setRow_heap _ _ _ _ _ _ (heap_alloc_new v7 _))
  clear hb
  go_upto_region 8 with (with_reducible refine wpList_store_row rfl 32 (.tmp 15) (.tmp 60) rfl v7.heap.size vs7 rfl rfl 32 #[.int .u64 0, .int .i64 0] (heap_alloc_new v7 _) HI.out HV1.out HV2.out ?_)
  generalize (v7.alloc (.cells #[.int .u64 0, .int .i64 0] 32)).setRow v7.heap.size vs7 = w7 at *
  generalize v7.heap.size = g7 at *
  clear HI HV1 
  have HO7 := HV2
  clear HV2
  have HL8 := Lib.hid (row_lt HRX7.out)
  go_wp2_with fail
  refine (refToHard_any _ HN.out HNC.out (by have := HM.out; omega) HR.out).mono ?_
  rintro e v8 hrd
  obtain ⟨vs8, rfl, hv1, hv2, hrx, hb⟩ := RefTo.both2 hardK_ok HQ3.out hrd
  have HG8 := Lib.hid hb.size
  replace HR := Lib.hid (lext HR.out hb)
  replace HB := Lib.hid (ext HB.out hb)
  replace HX1 := Lib.hid (entryK_ok.keep HX1.out (fun b hB => hb.block b (Nat.lt_trans hB.2 (row_lt HRX1.out))) (fun _ h => h))
  replace HRX1 := Lib.hid ((hb.block _ (row_lt HRX1.out)).trans HRX1.out)
  replace HX2 := Lib.hid (entryK_ok.keep HX2.out (fun b hB => hb.block b (Nat.lt_trans hB.2 (row_lt HRX2.out))) (fun _ h => h))
  replace HRX2 := Lib.hid ((hb.block _ (row_lt HRX2.out)).trans HRX2.out)
  replace HX3 := Lib.hid (confK_ok.keep HX3.out (fun b hB => hb.block b (Nat.lt_trans hB.2 (row_lt HRX3.out))) (fun _ h => h))
  replace HRX3 := Lib.hid ((hb.block _ (row_lt HRX3.out)).trans HRX3.out)
  replace HX4 := Lib.hid (confK_ok.keep HX4.out (fun b hB => hb.block b (Nat.lt_trans hB.2 (row_lt HRX4.out))) (fun _ h => h))
  replace HRX4 := Lib.hid ((hb.block _ (row_lt HRX4.out)).trans HRX4.out)
  replace HX5 := Lib.hid (shotK_ok.keep HX5.out (fun b hB => hb.block b (Nat.lt_trans hB.2 (row_lt HRX5.out))) (fun _ h => h))
  replace HRX5 := Lib.hid ((hb.block _ (row_lt HRX5.out)).trans HRX5.out)
  replace HX6 := Lib.hid (shotK_ok.keep HX6.out (fun b hB => hb.block b (Nat.lt_trans hB.2 (row_lt HRX6.out))) (fun _ h => h))
  replace HRX6 := Lib.hid ((hb.block _ (row_lt HRX6.out)).trans HRX6.out)
  replace HX7 := Lib.hid (hardK_ok.keep HX7.out (fun b hB => hb.block b (Nat.lt_trans hB.2 (row_lt HRX7.out))) (fun _ h => h))
  replace HRX7 := Lib.hid ((hb.block _ (row_lt HRX7.out)).trans HRX7.out)
  have HX8 := Lib.hid hrx
  have HI := Lib.hid (show (Tryz.prog.info? 32).map (·.size) = some vs8.size by rw [hv1]; exact xt_Hard.i)
  have HV1 := Lib.hid (show (#[.int .u64 0, .int .i64 0] : Array Value).size = vs8.size by rw [hv1]; rfl)
  have HV2 := Lib.hid hv2
  have HS8 := Lib.hid (show vs8.size = 2 by rw [hv1]; rfl)
  clear hrd hv1 hv2 hrx hb
  have hb : Below v8.heap.size v8 ((v8.alloc (.cells #[.int .u64 0, .int .i64 0] 32)).setRow v8.heap.size vs8) := below_setRow ((Below.refl _ _).alloc (Nat.le_refl _) _) (Nat.le_refl _) _
  replace HR := Lib.hid (lext HR.out hb)
  replace HB := Lib.hid (ext HB.out hb)
  replace HX1 := Lib.hid (entryK_ok.keep HX1.out (fun b hB => hb.block b (Nat.lt_trans hB.2 (row_lt HRX1.out))) (fun _ h => h))
  replace HRX1 := Lib.hid ((hb.block _ (row_lt HRX1.out)).trans HRX1.out)
  replace HX2 := Lib.hid (entryK_ok.keep HX2.out (fun b hB => hb.block b (Nat.lt_trans hB.2 (row_lt HRX2.out))) (fun _ h => h))
  replace HRX2 := Lib.hid ((hb.block _ (row_lt HRX2.out)).trans HRX2.out)
  replace HX3 := Lib.hid (confK_ok.keep HX3.out (fun b hB => hb.block b (Nat.lt_trans hB.2 (row_lt HRX3.out))) (fun _ h => h))
  replace HRX3 := Lib.hid ((hb.block _ (row_lt HRX3.out)).trans HRX3.out)
  replace HX4 := Lib.hid (confK_ok.keep HX4.out (fun b hB => hb.block b (Nat.lt_trans hB.2 (row_lt HRX4.out))) (fun _ h => h))
  replace HRX4 := Lib.hid ((hb.block _ (row_lt HRX4.out)).trans HRX4.out)
  replace HX5 := Lib.hid (shotK_ok.keep HX5.out (fun b hB => hb.block b (Nat.lt_trans hB.2 (row_lt HRX5.out))) (fun _ h => h))
  replace HRX5 := Lib.hid ((hb.block _ (row_lt HRX5.out)).trans HRX5.out)
  replace HX6 := Lib.hid (shotK_ok.keep HX6.out (fun b hB => hb.block b (Nat.lt_trans hB.2 (row_lt HRX6.out))) (fun _ h => h))
  replace HRX6 := Lib.hid ((hb.block _ (row_lt HRX6.out)).trans HRX6.out)
  replace HX7 := Lib.hid (hardK_ok.keep HX7.out (fun b hB => hb.block b (Nat.lt_trans hB.2 (row_lt HRX7.out))) (fun _ h => h))
  replace HRX7 := Lib.hid ((hb.block _ (row_lt HRX7.out)).trans HRX7.out)
  replace HX8 := Lib.hid (hardK_ok.keep HX8.out (fun b hB => hb.block b (hB.2)) (fun _ h => h))
  have HRX8 := Lib.hid (show ((v8.alloc (.cells #[.int .u64 0, .int .i64 0] 32)).setRow v8.heap.size vs8).heap[v8.heap.size]? = some (.cells vs8 32 (0, 0)) from setRow_heap _ _ _ _ _ _ (heap_alloc_new v8 _))
  clear hb
  go_upto_region 9 with (with_reducible refine wpList_store_row rfl 32 (.tmp 17) (.tmp 65) rfl v8.heap.size vs8 rfl rfl 32 #[.int .u64 0, .int .i64 0] (heap_alloc_new v8 _) HI.out HV1.out HV2.out ?_)
  generalize (v8.alloc (.cells #[.int .u64 0, .int .i64 0] 32)).setRow v8.heap.size vs8 = w8 at *
  generalize v8.heap.size = g8 at *
  clear HI HV1 
  have HO8 := HV2
  clear HV2
  clear HR
  have HGE := Lib.hid (show w.heap.size ≤ g2 by have oa1 := HL1.out; have ob1 := HG1.out; have oa2 := HL2.out; have ob2 := HG2.out; have oa3 := HL3.out; have ob3 := HG3.out; have oa4 := HL4.out; have ob4 := HG4.out; have oa5 := HL5.out; have ob5 := HG5.out; have oa6 := HL6.out; have ob6 := HG6.out; have oa7 := HL7.out; have ob7 := HG7.out; have oa8 := HL8.out; have ob8 := HG8.out; omega)
  have HI := Lib.hid (show (Tryz.prog.info? 25).map (·.size) = some (#[.int .u64 0, .int .u64 0, .int .i64 0, .int .i64 0, .slice none 0 0] : Array Value).size from xt_Entry.i)
  have HV1 := Lib.hid (show vs2.size = (#[.int .u64 0, .int .u64 0, .int .i64 0, .int .i64 0, .slice none 0 0] : Array Value).size from HS2.out)
  have HV3 := Lib.hid (show (#[.int .u64 0, .int .u64 0, .int .i64 0, .int .i64 0, .slice none 0 0] : Array Value).all (·.oneCell') = true from zone_all entryK_ok)
  go_upto_if 68 with fail
  go_cut [5] (fun s wx => s = .pointer (some ⟨g2, 0, none⟩) ∧ Below w.heap.size w wx ∧ (∀ b, b ≠ g2 → wx.heap[b]? = w8.heap[b]?) ∧ ∃ ys : Array Value, wx.heap[g2]? = some (.cells ys 25 (0, 0)) ∧ ys.size = 5 ∧ entryK.rep wx (Btw w1.heap.size g2) ys.toList (readD entryK pEntryD entryZ b))
  case first =>
    cases hR : R0 with
    | true =>
      have HD := Lib.hid (readD_yes (z := entryZ) (HQ0.out.trans hR))
      replace HB := HB
      subst hR
      go_wp2_with fail
      go_meet
      exact ⟨rfl, HB.out, fun _ _ => rfl, vs2, HRX2.out, HS2.out, by rw [HD.out]; exact HX2.out⟩
    | false =>
      have HD := Lib.hid (readD_no (z := entryZ) (HQ0.out.trans hR))
      subst hR
      go_wp2_with (with_reducible refine wpList_store_row rfl 25 (.tmp 5) (.tmp 69) rfl g2 #[.int .u64 0, .int .u64 0, .int .i64 0, .int .i64 0, .slice none 0 0] rfl rfl 25 vs2 HRX2.out HI.out HV1.out HV3.out ?_)
      go_meet
      exact ⟨rfl, below_setRow HB.out HGE.out _, fun b hb => setRow_other _ _ b _ hb, #[.int .u64 0, .int .u64 0, .int .i64 0, .int .i64 0, .slice none 0 0], setRow_heap _ _ _ _ _ _ HRX2.out, rfl, by rw [HD.out]; exact entryZ_rep _ _⟩
  obtain ⟨rfl, hb, hE, ys2, hrow, hsz, hrep⟩ := hcut
  have oa1 := HL1.out; have ob1 := HG1.out; have oa2 := HL2.out; have ob2 := HG2.out; have oa3 := HL3.out; have ob3 := HG3.out; have oa4 := HL4.out; have ob4 := HG4.out; have oa5 := HL5.out; have ob5 := HG5.out; have oa6 := HL6.out; have ob6 := HG6.out; have oa7 := HL7.out; have ob7 := HG7.out; have oa8 := HL8.out; have ob8 := HG8.out;
  replace HX1 := Lib.hid (entryK_ok.keep HX1.out (fun b hB => hE b (by have h1 := hB.1; have h2 := hB.2; omega)) (fun _ h => h))
  replace HRX1 := Lib.hid ((hE g1 (by omega)).trans HRX1.out)
  replace HX3 := Lib.hid (confK_ok.keep HX3.out (fun b hB => hE b (by have h1 := hB.1; have h2 := hB.2; omega)) (fun _ h => h))
  replace HRX3 := Lib.hid ((hE g3 (by omega)).trans HRX3.out)
  replace HX4 := Lib.hid (confK_ok.keep HX4.out (fun b hB => hE b (by have h1 := hB.1; have h2 := hB.2; omega)) (fun _ h => h))
  replace HRX4 := Lib.hid ((hE g4 (by omega)).trans HRX4.out)
  replace HX5 := Lib.hid (shotK_ok.keep HX5.out (fun b hB => hE b (by have h1 := hB.1; have h2 := hB.2; omega)) (fun _ h => h))
  replace HRX5 := Lib.hid ((hE g5 (by omega)).trans HRX5.out)
  replace HX6 := Lib.hid (shotK_ok.keep HX6.out (fun b hB => hE b (by have h1 := hB.1; have h2 := hB.2; omega)) (fun _ h => h))
  replace HRX6 := Lib.hid ((hE g6 (by omega)).trans HRX6.out)
  replace HX7 := Lib.hid (hardK_ok.keep HX7.out (fun b hB => hE b (by have h1 := hB.1; have h2 := hB.2; omega)) (fun _ h => h))
  replace HRX7 := Lib.hid ((hE g7 (by omega)).trans HRX7.out)
  replace HX8 := Lib.hid (hardK_ok.keep HX8.out (fun b hB => hE b (by have h1 := hB.1; have h2 := hB.2; omega)) (fun _ h => h))
  replace HRX8 := Lib.hid ((hE g8 (by omega)).trans HRX8.out)
  replace HX2 := Lib.hid hrep
  replace HRX2 := Lib.hid hrow
  replace HS2 := Lib.hid hsz
  replace HB := Lib.hid hb
  clear hb hE hrow hsz hrep HGE HI HV1 HV3 oa1 ob1 oa2 ob2 oa3 ob3 oa4 ob4 oa5 ob5 oa6 ob6 oa7 ob7 oa8 ob8
  generalize wc = x0 at *
  have HGE := Lib.hid (show w.heap.size ≤ g4 by have oa1 := HL1.out; have ob1 := HG1.out; have oa2 := HL2.out; have ob2 := HG2.out; have oa3 := HL3.out; have ob3 := HG3.out; have oa4 := HL4.out; have ob4 := HG4.out; have oa5 := HL5.out; have ob5 := HG5.out; have oa6 := HL6.out; have ob6 := HG6.out; have oa7 := HL7.out; have ob7 := HG7.out; have oa8 := HL8.out; have ob8 := HG8.out; omega)
  have HI := Lib.hid (show (Tryz.prog.info? 28).map (·.size) = some (#[.slice none 0 0, .slice none 0 0] : Array Value).size from xt_Conf.i)
  have HV1 := Lib.hid (show vs4.size = (#[.slice none 0 0, .slice none 0 0] : Array Value).size from HS4.out)
  have HV3 := Lib.hid (show (#[.slice none 0 0, .slice none 0 0] : Array Value).all (·.oneCell') = true from zone_all confK_ok)
  go_upto_if 71 with fail
  go_cut [9] (fun s wx => s = .pointer (some ⟨g4, 0, none⟩) ∧ Below w.heap.size w wx ∧ (∀ b, b ≠ g4 → wx.heap[b]? = x0.heap[b]?) ∧ ∃ ys : Array Value, wx.heap[g4]? = some (.cells ys 28 (0, 0)) ∧ ys.size = 2 ∧ confK.rep wx (Btw w3.heap.size g4) ys.toList (readD confK pConfD confZ b))
  case first =>
    cases hR : R1 with
    | true =>
      have HD := Lib.hid (readD_yes (z := confZ) (HQ1.out.trans hR))
      replace HB := HB
      subst hR
      go_wp2_with fail
      go_meet
      exact ⟨rfl, HB.out, fun _ _ => rfl, vs4, HRX4.out, HS4.out, by rw [HD.out]; exact HX4.out⟩
    | false =>
      have HD := Lib.hid (readD_no (z := confZ) (HQ1.out.trans hR))
      subst hR
      go_wp2_with (with_reducible refine wpList_store_row rfl 28 (.tmp 9) (.tmp 72) rfl g4 #[.slice none 0 0, .slice none 0 0] rfl rfl 28 vs4 HRX4.out HI.out HV1.out HV3.out ?_)
      go_meet
      exact ⟨rfl, below_setRow HB.out HGE.out _, fun b hb => setRow_other _ _ b _ hb, #[.slice none 0 0, .slice none 0 0], setRow_heap _ _ _ _ _ _ HRX4.out, rfl, by rw [HD.out]; exact confZ_rep _ _⟩
  obtain ⟨rfl, hb, hE, ys4, hrow, hsz, hrep⟩ := hcut
  have oa1 := HL1.out; have ob1 := HG1.out; have oa2 := HL2.out; have ob2 := HG2.out; have oa3 := HL3.out; have ob3 := HG3.out; have oa4 := HL4.out; have ob4 := HG4.out; have oa5 := HL5.out; have ob5 := HG5.out; have oa6 := HL6.out; have ob6 := HG6.out; have oa7 := HL7.out; have ob7 := HG7.out; have oa8 := HL8.out; have ob8 := HG8.out;
  replace HX1 := Lib.hid (entryK_ok.keep HX1.out (fun b hB => hE b (by have h1 := hB.1; have h2 := hB.2; omega)) (fun _ h => h))
  replace HRX1 := Lib.hid ((hE g1 (by omega)).trans HRX1.out)
  replace HX2 := Lib.hid (entryK_ok.keep HX2.out (fun b hB => hE b (by have h1 := hB.1; have h2 := hB.2; omega)) (fun _ h => h))
  replace HRX2 := Lib.hid ((hE g2 (by omega)).trans HRX2.out)
  replace HX3 := Lib.hid (confK_ok.keep HX3.out (fun b hB => hE b (by have h1 := hB.1; have h2 := hB.2; omega)) (fun _ h => h))
  replace HRX3 := Lib.hid ((hE g3 (by omega)).trans HRX3.out)
  replace HX5 := Lib.hid (shotK_ok.keep HX5.out (fun b hB => hE b (by have h1 := hB.1; have h2 := hB.2; omega)) (fun _ h => h))
  replace HRX5 := Lib.hid ((hE g5 (by omega)).trans HRX5.out)
  replace HX6 := Lib.hid (shotK_ok.keep HX6.out (fun b hB => hE b (by have h1 := hB.1; have h2 := hB.2; omega)) (fun _ h => h))
  replace HRX6 := Lib.hid ((hE g6 (by omega)).trans HRX6.out)
  replace HX7 := Lib.hid (hardK_ok.keep HX7.out (fun b hB => hE b (by have h1 := hB.1; have h2 := hB.2; omega)) (fun _ h => h))
  replace HRX7 := Lib.hid ((hE g7 (by omega)).trans HRX7.out)
  replace HX8 := Lib.hid (hardK_ok.keep HX8.out (fun b hB => hE b (by have h1 := hB.1; have h2 := hB.2; omega)) (fun _ h => h))
  replace HRX8 := Lib.hid ((hE g8 (by omega)).trans HRX8.out)
  replace HX4 := Lib.hid hrep
  replace HRX4 := Lib.hid hrow
  replace HS4 := Lib.hid hsz
  replace HB := Lib.hid hb
  clear hb hE hrow hsz hrep HGE HI HV1 HV3 oa1 ob1 oa2 ob2 oa3 ob3 oa4 ob4 oa5 ob5 oa6 ob6 oa7 ob7 oa8 ob8
  generalize wc = x1 at *
  have HGE := Lib.hid (show w.heap.size ≤ g6 by have oa1 := HL1.out; have ob1 := HG1.out; have oa2 := HL2.out; have ob2 := HG2.out; have oa3 := HL3.out; have ob3 := HG3.out; have oa4 := HL4.out; have ob4 := HG4.out; have oa5 := HL5.out; have ob5 := HG5.out; have oa6 := HL6.out; have ob6 := HG6.out; have oa7 := HL7.out; have ob7 := HG7.out; have oa8 := HL8.out; have ob8 := HG8.out; omega)
  have HI := Lib.hid (show (Tryz.prog.info? 30).map (·.size) = some (#[.int .u64 0, .int .u64 0, .slice none 0 0, .slice none 0 0, .slice none 0 0] : Array Value).size from xt_Shot.i)
  have HV1 := Lib.hid (show vs6.size = (#[.int .u64 0, .int .u64 0, .slice none 0 0, .slice none 0 0, .slice none 0 0] : Array Value).size from HS6.out)
  have HV3 := Lib.hid (show (#[.int .u64 0, .int .u64 0, .slice none 0 0, .slice none 0 0, .slice none 0 0] : Array Value).all (·.oneCell') = true from zone_all shotK_ok)
  go_upto_if 74 with fail
  go_cut [13] (fun s wx => s = .pointer (some ⟨g6, 0, none⟩) ∧ Below w.heap.size w wx ∧ (∀ b, b ≠ g6 → wx.heap[b]? = x1.heap[b]?) ∧ ∃ ys : Array Value, wx.heap[g6]? = some (.cells ys 30 (0, 0)) ∧ ys.size = 5 ∧ shotK.rep wx (Btw w5.heap.size g6) ys.toList (readD shotK pShotD shotZ b))
  case first =>
    cases hR : R2 with
    | true =>
      have HD := Lib.hid (readD_yes (z := shotZ) (HQ2.out.trans hR))
      replace HB := HB
      subst hR
      go_wp2_with fail
      go_meet
      exact ⟨rfl, HB.out, fun _ _ => rfl, vs6, HRX6.out, HS6.out, by rw [HD.out]; exact HX6.out⟩
    | false =>
      have HD := Lib.hid (readD_no (z := shotZ) (HQ2.out.trans hR))
      subst hR
      go_wp2_with (with_reducible refine wpList_store_row rfl 30 (.tmp 13) (.tmp 75) rfl g6 #[.int .u64 0, .int .u64 0, .slice none 0 0, .slice none 0 0, .slice none 0 0] rfl rfl 30 vs6 HRX6.out HI.out HV1.out HV3.out ?_)
      go_meet
      exact ⟨rfl, below_setRow HB.out HGE.out _, fun b hb => setRow_other _ _ b _ hb, #[.int .u64 0, .int .u64 0, .slice none 0 0, .slice none 0 0, .slice none 0 0], setRow_heap _ _ _ _ _ _ HRX6.out, rfl, by rw [HD.out]; exact shotZ_rep _ _⟩
  obtain ⟨rfl, hb, hE, ys6, hrow, hsz, hrep⟩ := hcut
  have oa1 := HL1.out; have ob1 := HG1.out; have oa2 := HL2.out; have ob2 := HG2.out; have oa3 := HL3.out; have ob3 := HG3.out; have oa4 := HL4.out; have ob4 := HG4.out; have oa5 := HL5.out; have ob5 := HG5.out; have oa6 := HL6.out; have ob6 := HG6.out; have oa7 := HL7.out; have ob7 := HG7.out; have oa8 := HL8.out; have ob8 := HG8.out;
  replace HX1 := Lib.hid (entryK_ok.keep HX1.out (fun b hB => hE b (by have h1 := hB.1; have h2 := hB.2; omega)) (fun _ h => h))
  replace HRX1 := Lib.hid ((hE g1 (by omega)).trans HRX1.out)
  replace HX2 := Lib.hid (entryK_ok.keep HX2.out (fun b hB => hE b (by have h1 := hB.1; have h2 := hB.2; omega)) (fun _ h => h))
  replace HRX2 := Lib.hid ((hE g2 (by omega)).trans HRX2.out)
  replace HX3 := Lib.hid (confK_ok.keep HX3.out (fun b hB => hE b (by have h1 := hB.1; have h2 := hB.2; omega)) (fun _ h => h))
  replace HRX3 := Lib.hid ((hE g3 (by omega)).trans HRX3.out)
  replace HX4 := Lib.hid (confK_ok.keep HX4.out (fun b hB => hE b (by have h1 := hB.1; have h2 := hB.2; omega)) (fun _ h => h))
  replace HRX4 := Lib.hid ((hE g4 (by omega)).trans HRX4.out)
  replace HX5 := Lib.hid (shotK_ok.keep HX5.out (fun b hB => hE b (by have h1 := hB.1; have h2 := hB.2; omega)) (fun _ h => h))
  replace HRX5 := Lib.hid ((hE g5 (by omega)).trans HRX5.out)
  replace HX7 := Lib.hid (hardK_ok.keep HX7.out (fun b hB => hE b (by have h1 := hB.1; have h2 := hB.2; omega)) (fun _ h => h))
  replace HRX7 := Lib.hid ((hE g7 (by omega)).trans HRX7.out)
  replace HX8 := Lib.hid (hardK_ok.keep HX8.out (fun b hB => hE b (by have h1 := hB.1; have h2 := hB.2; omega)) (fun _ h => h))
  replace HRX8 := Lib.hid ((hE g8 (by omega)).trans HRX8.out)
  replace HX6 := Lib.hid hrep
  replace HRX6 := Lib.hid hrow
  replace HS6 := Lib.hid hsz
  replace HB := Lib.hid hb
  clear hb hE hrow hsz hrep HGE HI HV1 HV3 oa1 ob1 oa2 ob2 oa3 ob3 oa4 ob4 oa5 ob5 oa6 ob6 oa7 ob7 oa8 ob8
  generalize wc = x2 at *
  have HGE := Lib.hid (show w.heap.size ≤ g8 by have oa1 := HL1.out; have ob1 := HG1.out; have oa2 := HL2.out; have ob2 := HG2.out; have oa3 := HL3.out; have ob3 := HG3.out; have oa4 := HL4.out; have ob4 := HG4.out; have oa5 := HL5.out; have ob5 := HG5.out; have oa6 := HL6.out; have ob6 := HG6.out; have oa7 := HL7.out; have ob7 := HG7.out; have oa8 := HL8.out; have ob8 := HG8.out; omega)
  have HI := Lib.hid (show (Tryz.prog.info? 32).map (·.size) = some (#[.int .u64 0, .int .i64 0] : Array Value).size from xt_Hard.i)
  have HV1 := Lib.hid (show vs8.size = (#[.int .u64 0, .int .i64 0] : Array Value).size from HS8.out)
  have HV3 := Lib.hid (show (#[.int .u64 0, .int .i64 0] : Array Value).all (·.oneCell') = true from zone_all hardK_ok)
  go_upto_if 77 with fail
  go_cut [17] (fun s wx => s = .pointer (some ⟨g8, 0, none⟩) ∧ Below w.heap.size w wx ∧ (∀ b, b ≠ g8 → wx.heap[b]? = x2.heap[b]?) ∧ ∃ ys : Array Value, wx.heap[g8]? = some (.cells ys 32 (0, 0)) ∧ ys.size = 2 ∧ hardK.rep wx (Btw w7.heap.size g8) ys.toList (readD hardK pHardD hardZ b))
  case first =>
    cases hR : R3 with
    | true =>
      have HD := Lib.hid (readD_yes (z := hardZ) (HQ3.out.trans hR))
      replace HB := HB
      subst hR
      go_wp2_with fail
      go_meet
      exact ⟨rfl, HB.out, fun _ _ => rfl, vs8, HRX8.out, HS8.out, by rw [HD.out]; exact HX8.out⟩
    | false =>
      have HD := Lib.hid (readD_no (z := hardZ) (HQ3.out.trans hR))
      subst hR
      go_wp2_with (with_reducible refine wpList_store_row rfl 32 (.tmp 17) (.tmp 78) rfl g8 #[.int .u64 0, .int .i64 0] rfl rfl 32 vs8 HRX8.out HI.out HV1.out HV3.out ?_)
      go_meet
      exact ⟨rfl, below_setRow HB.out HGE.out _, fun b hb => setRow_other _ _ b _ hb, #[.int .u64 0, .int .i64 0], setRow_heap _ _ _ _ _ _ HRX8.out, rfl, by rw [HD.out]; exact hardZ_rep _ _⟩
  obtain ⟨rfl, hb, hE, ys8, hrow, hsz, hrep⟩ := hcut
  have oa1 := HL1.out; have ob1 := HG1.out; have oa2 := HL2.out; have ob2 := HG2.out; have oa3 := HL3.out; have ob3 := HG3.out; have oa4 := HL4.out; have ob4 := HG4.out; have oa5 := HL5.out; have ob5 := HG5.out; have oa6 := HL6.out; have ob6 := HG6.out; have oa7 := HL7.out; have ob7 := HG7.out; have oa8 := HL8.out; have ob8 := HG8.out;
  replace HX1 := Lib.hid (entryK_ok.keep HX1.out (fun b hB => hE b (by have h1 := hB.1; have h2 := hB.2; omega)) (fun _ h => h))
  replace HRX1 := Lib.hid ((hE g1 (by omega)).trans HRX1.out)
  replace HX2 := Lib.hid (entryK_ok.keep HX2.out (fun b hB => hE b (by have h1 := hB.1; have h2 := hB.2; omega)) (fun _ h => h))
  replace HRX2 := Lib.hid ((hE g2 (by omega)).trans HRX2.out)
  replace HX3 := Lib.hid (confK_ok.keep HX3.out (fun b hB => hE b (by have h1 := hB.1; have h2 := hB.2; omega)) (fun _ h => h))
  replace HRX3 := Lib.hid ((hE g3 (by omega)).trans HRX3.out)
  replace HX4 := Lib.hid (confK_ok.keep HX4.out (fun b hB => hE b (by have h1 := hB.1; have h2 := hB.2; omega)) (fun _ h => h))
  replace HRX4 := Lib.hid ((hE g4 (by omega)).trans HRX4.out)
  replace HX5 := Lib.hid (shotK_ok.keep HX5.out (fun b hB => hE b (by have h1 := hB.1; have h2 := hB.2; omega)) (fun _ h => h))
  replace HRX5 := Lib.hid ((hE g5 (by omega)).trans HRX5.out)
  replace HX6 := Lib.hid (shotK_ok.keep HX6.out (fun b hB => hE b (by have h1 := hB.1; have h2 := hB.2; omega)) (fun _ h => h))
  replace HRX6 := Lib.hid ((hE g6 (by omega)).trans HRX6.out)
  replace HX7 := Lib.hid (hardK_ok.keep HX7.out (fun b hB => hE b (by have h1 := hB.1; have h2 := hB.2; omega)) (fun _ h => h))
  replace HRX7 := Lib.hid ((hE g7 (by omega)).trans HRX7.out)
  replace HX8 := Lib.hid hrep
  replace HRX8 := Lib.hid hrow
  replace HS8 := Lib.hid hsz
  replace HB := Lib.hid hb
  clear hb hE hrow hsz hrep HGE HI HV1 HV3 oa1 ob1 oa2 ob2 oa3 ob3 oa4 ob4 oa5 ob5 oa6 ob6 oa7 ob7 oa8 ob8
  generalize wc = x3 at *
  obtain ⟨l1⟩ := vs1
  obtain ⟨y1x0, y1x1, y1x2, y1x3, y1x4, hvl⟩ := list5 (show l1.length = 5 from HS1.out)
  have hvl' : l1 = [y1x0, y1x1, y1x2, y1x3, y1x4] := hvl
  subst hvl'
  clear hvl
  obtain ⟨l2⟩ := ys2
  obtain ⟨y2x0, y2x1, y2x2, y2x3, y2x4, hvl⟩ := list5 (show l2.length = 5 from HS2.out)
  have hvl' : l2 = [y2x0, y2x1, y2x2, y2x3, y2x4] := hvl
  subst hvl'
  clear hvl
  obtain ⟨l3⟩ := vs3
  obtain ⟨y3x0, y3x1, hvl⟩ := list2 (show l3.length = 2 from HS3.out)
  have hvl' : l3 = [y3x0, y3x1] := hvl
  subst hvl'
  clear hvl
  obtain ⟨l4⟩ := ys4
  obtain ⟨y4x0, y4x1, hvl⟩ := list2 (show l4.length = 2 from HS4.out)
  have hvl' : l4 = [y4x0, y4x1] := hvl
  subst hvl'
  clear hvl
  obtain ⟨l5⟩ := vs5
  obtain ⟨y5x0, y5x1, y5x2, y5x3, y5x4, hvl⟩ := list5 (show l5.length = 5 from HS5.out)
  have hvl' : l5 = [y5x0, y5x1, y5x2, y5x3, y5x4] := hvl
  subst hvl'
  clear hvl
  obtain ⟨l6⟩ := ys6
  obtain ⟨y6x0, y6x1, y6x2, y6x3, y6x4, hvl⟩ := list5 (show l6.length = 5 from HS6.out)
  have hvl' : l6 = [y6x0, y6x1, y6x2, y6x3, y6x4] := hvl
  subst hvl'
  clear hvl
  have htw := hard_twin HX7.out HX8.out
  obtain ⟨tm, vo, hv7, _, _⟩ := hard_shape HX7.out
  obtain ⟨l7⟩ := vs7
  obtain ⟨l8⟩ := ys8
  have htw' : l8 = l7 := htw
  have hv7' : l7 = [.int .u64 (tm : Int), .int .i64 vo] := hv7
  subst htw'
  subst hv7'
  clear htw hv7
  have HC := Lib.hid (fun w' (_ : Below x3.heap.size x3 w') => answers3_yes w')
  go_wp2_with fail
  refine (answers3_yes _).mono ?_
  rintro e z0 ⟨rfl, hb⟩
  replace HB := Lib.hid (ext HB.out hb)
  replace HX1 := Lib.hid (entryK_ok.keep HX1.out (fun b hB => hb.block b (Nat.lt_trans hB.2 (row_lt HRX1.out))) (fun _ h => h))
  replace HRX1 := Lib.hid ((hb.block _ (row_lt HRX1.out)).trans HRX1.out)
  replace HX2 := Lib.hid (entryK_ok.keep HX2.out (fun b hB => hb.block b (Nat.lt_trans hB.2 (row_lt HRX2.out))) (fun _ h => h))
  replace HRX2 := Lib.hid ((hb.block _ (row_lt HRX2.out)).trans HRX2.out)
  replace HX3 := Lib.hid (confK_ok.keep HX3.out (fun b hB => hb.block b (Nat.lt_trans hB.2 (row_lt HRX3.out))) (fun _ h => h))
  replace HRX3 := Lib.hid ((hb.block _ (row_lt HRX3.out)).trans HRX3.out)
  replace HX4 := Lib.hid (confK_ok.keep HX4.out (fun b hB => hb.block b (Nat.lt_trans hB.2 (row_lt HRX4.out))) (fun _ h => h))
  replace HRX4 := Lib.hid ((hb.block _ (row_lt HRX4.out)).trans HRX4.out)
  replace HX5 := Lib.hid (shotK_ok.keep HX5.out (fun b hB => hb.block b (Nat.lt_trans hB.2 (row_lt HRX5.out))) (fun _ h => h))
  replace HRX5 := Lib.hid ((hb.block _ (row_lt HRX5.out)).trans HRX5.out)
  replace HX6 := Lib.hid (shotK_ok.keep HX6.out (fun b hB => hb.block b (Nat.lt_trans hB.2 (row_lt HRX6.out))) (fun _ h => h))
  replace HRX6 := Lib.hid ((hb.block _ (row_lt HRX6.out)).trans HRX6.out)
  replace HX7 := Lib.hid (hardK_ok.keep HX7.out (fun b hB => hb.block b (Nat.lt_trans hB.2 (row_lt HRX7.out))) (fun _ h => h))
  replace HRX7 := Lib.hid ((hb.block _ (row_lt HRX7.out)).trans HRX7.out)
  replace HX8 := Lib.hid (hardK_ok.keep HX8.out (fun b hB => hb.block b (Nat.lt_trans hB.2 (row_lt HRX8.out))) (fun _ h => h))
  replace HRX8 := Lib.hid ((hb.block _ (row_lt HRX8.out)).trans HRX8.out)
  clear hb
  clear HC
  go_wp2_with fail
  refine (reads_E HE0.out _).mono ?_
  rintro e z1 ⟨rfl, hb⟩
  replace HB := Lib.hid (ext HB.out hb)
  replace HX1 := Lib.hid (entryK_ok.keep HX1.out (fun b hB => hb.block b (Nat.lt_trans hB.2 (row_lt HRX1.out))) (fun _ h => h))
  replace HRX1 := Lib.hid ((hb.block _ (row_lt HRX1.out)).trans HRX1.out)
  replace HX2 := Lib.hid (entryK_ok.keep HX2.out (fun b hB => hb.block b (Nat.lt_trans hB.2 (row_lt HRX2.out))) (fun _ h => h))
  replace HRX2 := Lib.hid ((hb.block _ (row_lt HRX2.out)).trans HRX2.out)
  replace HX3 := Lib.hid (confK_ok.keep HX3.out (fun b hB => hb.block b (Nat.lt_trans hB.2 (row_lt HRX3.out))) (fun _ h => h))
  replace HRX3 := Lib.hid ((hb.block _ (row_lt HRX3.out)).trans HRX3.out)
  replace HX4 := Lib.hid (confK_ok.keep HX4.out (fun b hB => hb.block b (Nat.lt_trans hB.2 (row_lt HRX4.out))) (fun _ h => h))
  replace HRX4 := Lib.hid ((hb.block _ (row_lt HRX4.out)).trans HRX4.out)
  replace HX5 := Lib.hid (shotK_ok.keep HX5.out (fun b hB => hb.block b (Nat.lt_trans hB.2 (row_lt HRX5.out))) (fun _ h => h))
  replace HRX5 := Lib.hid ((hb.block _ (row_lt HRX5.out)).trans HRX5.out)
  replace HX6 := Lib.hid (shotK_ok.keep HX6.out (fun b hB => hb.block b (Nat.lt_trans hB.2 (row_lt HRX6.out))) (fun _ h => h))
  replace HRX6 := Lib.hid ((hb.block _ (row_lt HRX6.out)).trans HRX6.out)
  replace HX7 := Lib.hid (hardK_ok.keep HX7.out (fun b hB => hb.block b (Nat.lt_trans hB.2 (row_lt HRX7.out))) (fun _ h => h))
  replace HRX7 := Lib.hid ((hb.block _ (row_lt HRX7.out)).trans HRX7.out)
  replace HX8 := Lib.hid (hardK_ok.keep HX8.out (fun b hB => hb.block b (Nat.lt_trans hB.2 (row_lt HRX8.out))) (fun _ h => h))
  replace HRX8 := Lib.hid ((hb.block _ (row_lt HRX8.out)).trans HRX8.out)
  clear hb
  have k1x0 : z1.cell? ⟨g1, 0, none⟩ = some y1x0 := by rw [cell_of_row _ g1 0 _ _ _ HRX1.out]; rfl
  have k1x1 : z1.cell? ⟨g1, 1, none⟩ = some y1x1 := by rw [cell_of_row _ g1 1 _ _ _ HRX1.out]; rfl
  have k1x2 : z1.cell? ⟨g1, 2, none⟩ = some y1x2 := by rw [cell_of_row _ g1 2 _ _ _ HRX1.out]; rfl
  have k1x3 : z1.cell? ⟨g1, 3, none⟩ = some y1x3 := by rw [cell_of_row _ g1 3 _ _ _ HRX1.out]; rfl
  have k1x4 : z1.cell? ⟨g1, 4, none⟩ = some y1x4 := by rw [cell_of_row _ g1 4 _ _ _ HRX1.out]; rfl
  have k2x0 : z1.cell? ⟨g2, 0, none⟩ = some y2x0 := by rw [cell_of_row _ g2 0 _ _ _ HRX2.out]; rfl
  have k2x1 : z1.cell? ⟨g2, 1, none⟩ = some y2x1 := by rw [cell_of_row _ g2 1 _ _ _ HRX2.out]; rfl
  have k2x2 : z1.cell? ⟨g2, 2, none⟩ = some y2x2 := by rw [cell_of_row _ g2 2 _ _ _ HRX2.out]; rfl
  have k2x3 : z1.cell? ⟨g2, 3, none⟩ = some y2x3 := by rw [cell_of_row _ g2 3 _ _ _ HRX2.out]; rfl
  have k2x4 : z1.cell? ⟨g2, 4, none⟩ = some y2x4 := by rw [cell_of_row _ g2 4 _ _ _ HRX2.out]; rfl
  have hcall := same_entS (xs := [y1x0, y1x1, y1x2, y1x3, y1x4]) (ys := [y2x0, y2x1, y2x2, y2x3, y2x4]) z1 (entryK_ok.keep HX1.out (S' := Old z1) (fun _ _ => rfl) (fun b hB => Nat.lt_trans hB.2 (row_lt HRX1.out))) (entryK_ok.keep HX2.out (S' := Old z1) (fun _ _ => rfl) (fun b hB => Nat.lt_trans hB.2 (row_lt HRX2.out)))
  have HC := Lib.hid hcall
  clear hcall
  go_wp2_with fail
  refine HC.out.mono ?_
  rintro e z2 ⟨rfl, hb⟩
  clear HC k1x0 k1x1 k1x2 k1x3 k1x4 k2x0 k2x1 k2x2 k2x3 k2x4
  replace HB := Lib.hid (ext HB.out hb)
  replace HX1 := Lib.hid (entryK_ok.keep HX1.out (fun b hB => hb.block b (Nat.lt_trans hB.2 (row_lt HRX1.out))) (fun _ h => h))
  replace HRX1 := Lib.hid ((hb.block _ (row_lt HRX1.out)).trans HRX1.out)
  replace HX2 := Lib.hid (entryK_ok.keep HX2.out (fun b hB => hb.block b (Nat.lt_trans hB.2 (row_lt HRX2.out))) (fun _ h => h))
  replace HRX2 := Lib.hid ((hb.block _ (row_lt HRX2.out)).trans HRX2.out)
  replace HX3 := Lib.hid (confK_ok.keep HX3.out (fun b hB => hb.block b (Nat.lt_trans hB.2 (row_lt HRX3.out))) (fun _ h => h))
  replace HRX3 := Lib.hid ((hb.block _ (row_lt HRX3.out)).trans HRX3.out)
  replace HX4 := Lib.hid (confK_ok.keep HX4.out (fun b hB => hb.block b (Nat.lt_trans hB.2 (row_lt HRX4.out))) (fun _ h => h))
  replace HRX4 := Lib.hid ((hb.block _ (row_lt HRX4.out)).trans HRX4.out)
  replace HX5 := Lib.hid (shotK_ok.keep HX5.out (fun b hB => hb.block b (Nat.lt_trans hB.2 (row_lt HRX5.out))) (fun _ h => h))
  replace HRX5 := Lib.hid ((hb.block _ (row_lt HRX5.out)).trans HRX5.out)
  replace HX6 := Lib.hid (shotK_ok.keep HX6.out (fun b hB => hb.block b (Nat.lt_trans hB.2 (row_lt HRX6.out))) (fun _ h => h))
  replace HRX6 := Lib.hid ((hb.block _ (row_lt HRX6.out)).trans HRX6.out)
  replace HX7 := Lib.hid (hardK_ok.keep HX7.out (fun b hB => hb.block b (Nat.lt_trans hB.2 (row_lt HRX7.out))) (fun _ h => h))
  replace HRX7 := Lib.hid ((hb.block _ (row_lt HRX7.out)).trans HRX7.out)
  replace HX8 := Lib.hid (hardK_ok.keep HX8.out (fun b hB => hb.block b (Nat.lt_trans hB.2 (row_lt HRX8.out))) (fun _ h => h))
  replace HRX8 := Lib.hid ((hb.block _ (row_lt HRX8.out)).trans HRX8.out)
  clear hb
  go_wp2_with fail
  refine (reads_E HE1.out _).mono ?_
  rintro e z3 ⟨rfl, hb⟩
  replace HB := Lib.hid (ext HB.out hb)
  replace HX1 := Lib.hid (entryK_ok.keep HX1.out (fun b hB => hb.block b (Nat.lt_trans hB.2 (row_lt HRX1.out))) (fun _ h => h))
  replace HRX1 := Lib.hid ((hb.block _ (row_lt HRX1.out)).trans HRX1.out)
  replace HX2 := Lib.hid (entryK_ok.keep HX2.out (fun b hB => hb.block b (Nat.lt_trans hB.2 (row_lt HRX2.out))) (fun _ h => h))
  replace HRX2 := Lib.hid ((hb.block _ (row_lt HRX2.out)).trans HRX2.out)
  replace HX3 := Lib.hid (confK_ok.keep HX3.out (fun b hB => hb.block b (Nat.lt_trans hB.2 (row_lt HRX3.out))) (fun _ h => h))
  replace HRX3 := Lib.hid ((hb.block _ (row_lt HRX3.out)).trans HRX3.out)
  replace HX4 := Lib.hid (confK_ok.keep HX4.out (fun b hB => hb.block b (Nat.lt_trans hB.2 (row_lt HRX4.out))) (fun _ h => h))
  replace HRX4 := Lib.hid ((hb.block _ (row_lt HRX4.out)).trans HRX4.out)
  replace HX5 := Lib.hid (shotK_ok.keep HX5.out (fun b hB => hb.block b (Nat.lt_trans hB.2 (row_lt HRX5.out))) (fun _ h => h))
  replace HRX5 := Lib.hid ((hb.block _ (row_lt HRX5.out)).trans HRX5.out)
  replace HX6 := Lib.hid (shotK_ok.keep HX6.out (fun b hB => hb.block b (Nat.lt_trans hB.2 (row_lt HRX6.out))) (fun _ h => h))
  replace HRX6 := Lib.hid ((hb.block _ (row_lt HRX6.out)).trans HRX6.out)
  replace HX7 := Lib.hid (hardK_ok.keep HX7.out (fun b hB => hb.block b (Nat.lt_trans hB.2 (row_lt HRX7.out))) (fun _ h => h))
  replace HRX7 := Lib.hid ((hb.block _ (row_lt HRX7.out)).trans HRX7.out)
  replace HX8 := Lib.hid (hardK_ok.keep HX8.out (fun b hB => hb.block b (Nat.lt_trans hB.2 (row_lt HRX8.out))) (fun _ h => h))
  replace HRX8 := Lib.hid ((hb.block _ (row_lt HRX8.out)).trans HRX8.out)
  clear hb
  have k3x0 : z3.cell? ⟨g3, 0, none⟩ = some y3x0 := by rw [cell_of_row _ g3 0 _ _ _ HRX3.out]; rfl
  have k3x1 : z3.cell? ⟨g3, 1, none⟩ = some y3x1 := by rw [cell_of_row _ g3 1 _ _ _ HRX3.out]; rfl
  have k4x0 : z3.cell? ⟨g4, 0, none⟩ = some y4x0 := by rw [cell_of_row _ g4 0 _ _ _ HRX4.out]; rfl
  have k4x1 : z3.cell? ⟨g4, 1, none⟩ = some y4x1 := by rw [cell_of_row _ g4 1 _ _ _ HRX4.out]; rfl
  have hcall := same_confS (xs := [y3x0, y3x1]) (ys := [y4x0, y4x1]) z3 (confK_ok.keep HX3.out (S' := Old z3) (fun _ _ => rfl) (fun b hB => Nat.lt_trans hB.2 (row_lt HRX3.out))) (confK_ok.keep HX4.out (S' := Old z3) (fun _ _ => rfl) (fun b hB => Nat.lt_trans hB.2 (row_lt HRX4.out)))
  have HC := Lib.hid hcall
  clear hcall
  go_wp2_with fail
  refine HC.out.mono ?_
  rintro e z4 ⟨rfl, hb⟩
  clear HC k3x0 k3x1 k4x0 k4x1
  replace HB := Lib.hid (ext HB.out hb)
  replace HX1 := Lib.hid (entryK_ok.keep HX1.out (fun b hB => hb.block b (Nat.lt_trans hB.2 (row_lt HRX1.out))) (fun _ h => h))
  replace HRX1 := Lib.hid ((hb.block _ (row_lt HRX1.out)).trans HRX1.out)
  replace HX2 := Lib.hid (entryK_ok.keep HX2.out (fun b hB => hb.block b (Nat.lt_trans hB.2 (row_lt HRX2.out))) (fun _ h => h))
  replace HRX2 := Lib.hid ((hb.block _ (row_lt HRX2.out)).trans HRX2.out)
  replace HX3 := Lib.hid (confK_ok.keep HX3.out (fun b hB => hb.block b (Nat.lt_trans hB.2 (row_lt HRX3.out))) (fun _ h => h))
  replace HRX3 := Lib.hid ((hb.block _ (row_lt HRX3.out)).trans HRX3.out)
  replace HX4 := Lib.hid (confK_ok.keep HX4.out (fun b hB => hb.block b (Nat.lt_trans hB.2 (row_lt HRX4.out))) (fun _ h => h))
  replace HRX4 := Lib.hid ((hb.block _ (row_lt HRX4.out)).trans HRX4.out)
  replace HX5 := Lib.hid (shotK_ok.keep HX5.out (fun b hB => hb.block b (Nat.lt_trans hB.2 (row_lt HRX5.out))) (fun _ h => h))
  replace HRX5 := Lib.hid ((hb.block _ (row_lt HRX5.out)).trans HRX5.out)
  replace HX6 := Lib.hid (shotK_ok.keep HX6.out (fun b hB => hb.block b (Nat.lt_trans hB.2 (row_lt HRX6.out))) (fun _ h => h))
  replace HRX6 := Lib.hid ((hb.block _ (row_lt HRX6.out)).trans HRX6.out)
  replace HX7 := Lib.hid (hardK_ok.keep HX7.out (fun b hB => hb.block b (Nat.lt_trans hB.2 (row_lt HRX7.out))) (fun _ h => h))
  replace HRX7 := Lib.hid ((hb.block _ (row_lt HRX7.out)).trans HRX7.out)
  replace HX8 := Lib.hid (hardK_ok.keep HX8.out (fun b hB => hb.block b (Nat.lt_trans hB.2 (row_lt HRX8.out))) (fun _ h => h))
  replace HRX8 := Lib.hid ((hb.block _ (row_lt HRX8.out)).trans HRX8.out)
  clear hb
  go_wp2_with fail
  refine (reads_E HE2.out _).mono ?_
  rintro e z5 ⟨rfl, hb⟩
  replace HB := Lib.hid (ext HB.out hb)
  replace HX1 := Lib.hid (entryK_ok.keep HX1.out (fun b hB => hb.block b (Nat.lt_trans hB.2 (row_lt HRX1.out))) (fun _ h => h))
  replace HRX1 := Lib.hid ((hb.block _ (row_lt HRX1.out)).trans HRX1.out)
  replace HX2 := Lib.hid (entryK_ok.keep HX2.out (fun b hB => hb.block b (Nat.lt_trans hB.2 (row_lt HRX2.out))) (fun _ h => h))
  replace HRX2 := Lib.hid ((hb.block _ (row_lt HRX2.out)).trans HRX2.out)
  replace HX3 := Lib.hid (confK_ok.keep HX3.out (fun b hB => hb.block b (Nat.lt_trans hB.2 (row_lt HRX3.out))) (fun _ h => h))
  replace HRX3 := Lib.hid ((hb.block _ (row_lt HRX3.out)).trans HRX3.out)
  replace HX4 := Lib.hid (confK_ok.keep HX4.out (fun b hB => hb.block b (Nat.lt_trans hB.2 (row_lt HRX4.out))) (fun _ h => h))
  replace HRX4 := Lib.hid ((hb.block _ (row_lt HRX4.out)).trans HRX4.out)
  replace HX5 := Lib.hid (shotK_ok.keep HX5.out (fun b hB => hb.block b (Nat.lt_trans hB.2 (row_lt HRX5.out))) (fun _ h => h))
  replace HRX5 := Lib.hid ((hb.block _ (row_lt HRX5.out)).trans HRX5.out)
  replace HX6 := Lib.hid (shotK_ok.keep HX6.out (fun b hB => hb.block b (Nat.lt_trans hB.2 (row_lt HRX6.out))) (fun _ h => h))
  replace HRX6 := Lib.hid ((hb.block _ (row_lt HRX6.out)).trans HRX6.out)
  replace HX7 := Lib.hid (hardK_ok.keep HX7.out (fun b hB => hb.block b (Nat.lt_trans hB.2 (row_lt HRX7.out))) (fun _ h => h))
  replace HRX7 := Lib.hid ((hb.block _ (row_lt HRX7.out)).trans HRX7.out)
  replace HX8 := Lib.hid (hardK_ok.keep HX8.out (fun b hB => hb.block b (Nat.lt_trans hB.2 (row_lt HRX8.out))) (fun _ h => h))
  replace HRX8 := Lib.hid ((hb.block _ (row_lt HRX8.out)).trans HRX8.out)
  clear hb
  have k5x0 : z5.cell? ⟨g5, 0, none⟩ = some y5x0 := by rw [cell_of_row _ g5 0 _ _ _ HRX5.out]; rfl
  have k5x1 : z5.cell? ⟨g5, 1, none⟩ = some y5x1 := by rw [cell_of_row _ g5 1 _ _ _ HRX5.out]; rfl
  have k5x2 : z5.cell? ⟨g5, 2, none⟩ = some y5x2 := by rw [cell_of_row _ g5 2 _ _ _ HRX5.out]; rfl
  have k5x3 : z5.cell? ⟨g5, 3, none⟩ = some y5x3 := by rw [cell_of_row _ g5 3 _ _ _ HRX5.out]; rfl
  have k5x4 : z5.cell? ⟨g5, 4, none⟩ = some y5x4 := by rw [cell_of_row _ g5 4 _ _ _ HRX5.out]; rfl
  have k6x0 : z5.cell? ⟨g6, 0, none⟩ = some y6x0 := by rw [cell_of_row _ g6 0 _ _ _ HRX6.out]; rfl
  have k6x1 : z5.cell? ⟨g6, 1, none⟩ = some y6x1 := by rw [cell_of_row _ g6 1 _ _ _ HRX6.out]; rfl
  have k6x2 : z5.cell? ⟨g6, 2, none⟩ = some y6x2 := by rw [cell_of_row _ g6 2 _ _ _ HRX6.out]; rfl
  have k6x3 : z5.cell? ⟨g6, 3, none⟩ = some y6x3 := by rw [cell_of_row _ g6 3 _ _ _ HRX6.out]; rfl
  have k6x4 : z5.cell? ⟨g6, 4, none⟩ = some y6x4 := by rw [cell_of_row _ g6 4 _ _ _ HRX6.out]; rfl
  have hcall := same_shot (xs := [y5x0, y5x1, y5x2, y5x3, y5x4]) (ys := [y6x0, y6x1, y6x2, y6x3, y6x4]) z5 (shotK_ok.keep HX5.out (S' := Old z5) (fun _ _ => rfl) (fun b hB => Nat.lt_trans hB.2 (row_lt HRX5.out))) (shotK_ok.keep HX6.out (S' := Old z5) (fun _ _ => rfl) (fun b hB => Nat.lt_trans hB.2 (row_lt HRX6.out)))
  have HC := Lib.hid hcall
  clear hcall
  go_wp2_with fail
  refine HC.out.mono ?_
  rintro e z6 ⟨rfl, hb⟩
  clear HC k5x0 k5x1 k5x2 k5x3 k5x4 k6x0 k6x1 k6x2 k6x3 k6x4
  replace HB := Lib.hid (ext HB.out hb)
  replace HX1 := Lib.hid (entryK_ok.keep HX1.out (fun b hB => hb.block b (Nat.lt_trans hB.2 (row_lt HRX1.out))) (fun _ h => h))
  replace HRX1 := Lib.hid ((hb.block _ (row_lt HRX1.out)).trans HRX1.out)
  replace HX2 := Lib.hid (entryK_ok.keep HX2.out (fun b hB => hb.block b (Nat.lt_trans hB.2 (row_lt HRX2.out))) (fun _ h => h))
  replace HRX2 := Lib.hid ((hb.block _ (row_lt HRX2.out)).trans HRX2.out)
  replace HX3 := Lib.hid (confK_ok.keep HX3.out (fun b hB => hb.block b (Nat.lt_trans hB.2 (row_lt HRX3.out))) (fun _ h => h))
  replace HRX3 := Lib.hid ((hb.block _ (row_lt HRX3.out)).trans HRX3.out)
  replace HX4 := Lib.hid (confK_ok.keep HX4.out (fun b hB => hb.block b (Nat.lt_trans hB.2 (row_lt HRX4.out))) (fun _ h => h))
  replace HRX4 := Lib.hid ((hb.block _ (row_lt HRX4.out)).trans HRX4.out)
  replace HX5 := Lib.hid (shotK_ok.keep HX5.out (fun b hB => hb.block b (Nat.lt_trans hB.2 (row_lt HRX5.out))) (fun _ h => h))
  replace HRX5 := Lib.hid ((hb.block _ (row_lt HRX5.out)).trans HRX5.out)
  replace HX6 := Lib.hid (shotK_ok.keep HX6.out (fun b hB => hb.block b (Nat.lt_trans hB.2 (row_lt HRX6.out))) (fun _ h => h))
  replace HRX6 := Lib.hid ((hb.block _ (row_lt HRX6.out)).trans HRX6.out)
  replace HX7 := Lib.hid (hardK_ok.keep HX7.out (fun b hB => hb.block b (Nat.lt_trans hB.2 (row_lt HRX7.out))) (fun _ h => h))
  replace HRX7 := Lib.hid ((hb.block _ (row_lt HRX7.out)).trans HRX7.out)
  replace HX8 := Lib.hid (hardK_ok.keep HX8.out (fun b hB => hb.block b (Nat.lt_trans hB.2 (row_lt HRX8.out))) (fun _ h => h))
  replace HRX8 := Lib.hid ((hb.block _ (row_lt HRX8.out)).trans HRX8.out)
  clear hb
  go_wp2_with fail
  refine (reads_E HE3.out _).mono ?_
  rintro e z7 ⟨rfl, hb⟩
  replace HB := Lib.hid (ext HB.out hb)
  replace HX1 := Lib.hid (entryK_ok.keep HX1.out (fun b hB => hb.block b (Nat.lt_trans hB.2 (row_lt HRX1.out))) (fun _ h => h))
  replace HRX1 := Lib.hid ((hb.block _ (row_lt HRX1.out)).trans HRX1.out)
  replace HX2 := Lib.hid (entryK_ok.keep HX2.out (fun b hB => hb.block b (Nat.lt_trans hB.2 (row_lt HRX2.out))) (fun _ h => h))
  replace HRX2 := Lib.hid ((hb.block _ (row_lt HRX2.out)).trans HRX2.out)
  replace HX3 := Lib.hid (confK_ok.keep HX3.out (fun b hB => hb.block b (Nat.lt_trans hB.2 (row_lt HRX3.out))) (fun _ h => h))
  replace HRX3 := Lib.hid ((hb.block _ (row_lt HRX3.out)).trans HRX3.out)
  replace HX4 := Lib.hid (confK_ok.keep HX4.out (fun b hB => hb.block b (Nat.lt_trans hB.2 (row_lt HRX4.out))) (fun _ h => h))
  replace HRX4 := Lib.hid ((hb.block _ (row_lt HRX4.out)).trans HRX4.out)
  replace HX5 := Lib.hid (shotK_ok.keep HX5.out (fun b hB => hb.block b (Nat.lt_trans hB.2 (row_lt HRX5.out))) (fun _ h => h))
  replace HRX5 := Lib.hid ((hb.block _ (row_lt HRX5.out)).trans HRX5.out)
  replace HX6 := Lib.hid (shotK_ok.keep HX6.out (fun b hB => hb.block b (Nat.lt_trans hB.2 (row_lt HRX6.out))) (fun _ h => h))
  replace HRX6 := Lib.hid ((hb.block _ (row_lt HRX6.out)).trans HRX6.out)
  replace HX7 := Lib.hid (hardK_ok.keep HX7.out (fun b hB => hb.block b (Nat.lt_trans hB.2 (row_lt HRX7.out))) (fun _ h => h))
  replace HRX7 := Lib.hid ((hb.block _ (row_lt HRX7.out)).trans HRX7.out)
  replace HX8 := Lib.hid (hardK_ok.keep HX8.out (fun b hB => hb.block b (Nat.lt_trans hB.2 (row_lt HRX8.out))) (fun _ h => h))
  replace HRX8 := Lib.hid ((hb.block _ (row_lt HRX8.out)).trans HRX8.out)
  clear hb
  have k7a : z7.cell? ⟨g7, 0, none⟩ = some (.int .u64 (tm : Int)) := by rw [cell_of_row _ g7 0 _ _ _ HRX7.out]; rfl
  have k7b : z7.cell? ⟨g7, 1, none⟩ = some (.int .i64 vo) := by rw [cell_of_row _ g7 1 _ _ _ HRX7.out]; rfl
  have k8a : z7.cell? ⟨g8, 0, none⟩ = some (.int .u64 (tm : Int)) := by rw [cell_of_row _ g8 0 _ _ _ HRX8.out]; rfl
  have k8b : z7.cell? ⟨g8, 1, none⟩ = some (.int .i64 vo) := by rw [cell_of_row _ g8 1 _ _ _ HRX8.out]; rfl
  go_wp2
  go_ret
  exact ⟨rfl, HB.out⟩
end Go.Proofs.YtloieecpgndbhaaGreat.Kd
