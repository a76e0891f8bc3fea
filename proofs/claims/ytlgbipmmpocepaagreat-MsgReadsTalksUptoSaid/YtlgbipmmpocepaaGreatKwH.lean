/- The law MsgReadsTalks, walked. Written by genlaw7d.py. -/
import Derived.Test.YtlgbipmmpocepaaGreatKwF
import Derived.Test.YtlgbipmmpocepaaGreatGU
import Derived.Test.YtlgbipmmpocepaaGreatKqA
import Derived.Test.YtlgbipmmpocepaaGreatKnD
import Derived.Test.YtlgbipmmpocepaaGreatGN
import Derived.Deep.DeepCutAuto
namespace Go.Proofs.YtlgbipmmpocepaaGreat.Kd
open Go.RowKit By CoP Co Mo

def Btw (lo hi : Nat) : Nat → Prop := fun b => lo ≤ b ∧ b < hi
theorem ReadsK.both2 {k : Kd} (hk : k.Ok) {p : Rdr} {Q : Data → Prop} (ht : Ties k p Q) (hq : ∀ {b d u}, k.get b = some (d, u) → k.sound d = true → Q d) {z : Data} (hz : ∀ (w : World) (S : Nat → Prop), k.rep w S k.zero z) {b : List UInt8} {R : Bool} (hR : readB k p b = R) {w w' : World} {e : Ending} (h : ReadsK k b w e w') :
    ∃ (vs : Array Value) (E : Int), e = .returned (.tuple #[.agg vs, .int .i64 E]) ∧ E = (if R then 0 else 4) ∧ vs.size = k.zero.length ∧ vs.all (·.oneCell') = true ∧ k.rep w' (Btw w.heap.size w'.heap.size) vs.toList (readD k p z b) ∧ Below w.heap.size w w' := by
  obtain ⟨vs, h1, h2, h3, h4, h5⟩ := h.both hk ht hq hz
  rw [hR] at h1
  exact ⟨vs, _, h1, rfl, h2, h3, h4, h5⟩
theorem RefTo.both2 {k : Kd} (hk : k.Ok) {p : Rdr} {b : List UInt8} {R : Bool} (hR : readB k p b = R) {w w' : World} {e : Ending} (h : RefTo k p b w e w') :
    ∃ (vs : Array Value), e = .returned (.tuple #[.agg vs, .bool R]) ∧ vs.size = k.zero.length ∧ vs.all (·.oneCell') = true ∧ k.rep w' (Btw w.heap.size w'.heap.size) vs.toList (p (some b)).1 ∧ Below w.heap.size w w' := by
  obtain ⟨vs, h1, h2, h3⟩ := h
  subst hR
  refine ⟨vs, h1, ?_, ?_, h2, h3⟩
  · have := hk.len h2
    rw [Array.length_toList] at this
    exact this
  · rw [Array.all_eq_true_iff_forall_mem]
    intro v hv
    exact hk.one h2 v (by simpa using hv)
theorem list14 {l : List Value} (h : l.length = 14) : ∃ a b c d e f g i j k m n o p : Value, l = [a, b, c, d, e, f, g, i, j, k, m, n, o, p] := by
  match l, h with
  | [a, b, c, d, e, f, g, i, j, k, m, n, o, p], _ => exact ⟨a, b, c, d, e, f, g, i, j, k, m, n, o, p, rfl⟩
theorem zone_all {k : Kd} (hk : k.Ok) : k.zero.toArray.all (·.oneCell') = true := by
  rw [Array.all_eq_true_iff_forall_mem]
  intro v hv
  exact hk.zone v (by simpa using hv)
theorem readD_yes {k : Kd} {p : Rdr} {z : Data} {b : List UInt8} (h : readB k p b = true) : readD k p z b = (p (some b)).1 := if_pos h
theorem readD_no {k : Kd} {p : Rdr} {z : Data} {b : List UInt8} (h : readB k p b = false) : readD k p z b = z := if_neg (by
  have h' : (pWhole (p (some b)).2 && k.sound (p (some b)).1) = false := h
  rw [h']
  decide)
theorem reads_E {R : Bool} {E : Int} (h : E = (if R then 0 else 4)) (w : World) : Calls Tryz.prog 16 #[.int .i64 E, .bool R] w (Says true w) := by
  subst h
  exact reads_any R w
set_option maxRecDepth 100000 in
set_option maxHeartbeats 32000000 in
theorem msgReadsTalks_walk (w : World) (A : Option Addr) (n c : Nat) (b : List UInt8) (hn : n = b.length) (hnc : n ≤ c) (hm : n ≤ 140737488355328) (hr : Lies w w.heap.size A b) :
    Calls Tryz.prog 3 #[.slice A n c] w (True_ w) := by
  have HN := Lib.hid hn
  have HNC := Lib.hid hnc
  have HM := Lib.hid hm
  have HR := Lib.hid hr
  have HB := Lib.hid (Below.refl w.heap.size w)
  obtain ⟨R0, hR0⟩ : ∃ R, readB msgK pMsgD b = R := ⟨_, rfl⟩
  have HQ0 := Lib.hid hR0
  clear hR0
  obtain ⟨R1, hR1⟩ : ∃ R, readB commandK pCommandD b = R := ⟨_, rfl⟩
  have HQ1 := Lib.hid hR1
  clear hR1
  obtain ⟨R2, hR2⟩ : ∃ R, readB replyK pReplyD b = R := ⟨_, rfl⟩
  have HQ2 := Lib.hid hR2
  clear hR2
  obtain ⟨R3, hR3⟩ : ∃ R, readB askK pAskD b = R := ⟨_, rfl⟩
  have HQ3 := Lib.hid hR3
  clear hR3
  obtain ⟨R4, hR4⟩ : ∃ R, readB toldK pToldD b = R := ⟨_, rfl⟩
  have HQ4 := Lib.hid hR4
  clear hR4
  clear hn hnc hm hr
  go_enter Tryz.func3, Tryz.ntmps3
  have hoa := Own.made w w.heap.size #[] 0 (Nat.le_refl _) (by decide) rfl
  go_wp2_with (at_builtin; refine wpList_app rfl (.tmp 24) (.tmp 25) rfl rfl hoa rfl HN.out (HR.out.alloc (Nat.le_refl _) (.cells #[] 5)) (by have := HN.out; have := HM.out; rw [List.length_nil]; omega) (by rw [World.size_alloc]; exact Nat.le_succ _) ?_)
  intro va1 u1 ho hbq _
  try rw [List.nil_append] at ho
  have hb := (((Below.refl w.heap.size w).alloc (Nat.le_refl _) (.cells #[] 5)).trans hbq)
  obtain ⟨A1, c1, rfl, hc1, _, _, hr1, _⟩ := ho.form
  rw [← HN.out] at hc1 ⊢
  have H1 := Lib.hid hr1
  replace HR := Lib.hid (lext HR.out hb)
  replace HB := Lib.hid (ext HB.out hb)
  clear hb hbq ho hoa hr1
  have HL1 := Lib.hid HB.out.size
  go_wp2_with fail
  refine (msgToMsg_any _ HN.out hc1 (by have := HM.out; omega) H1.out).mono ?_
  rintro e v1 hrd
  obtain ⟨vs1, E0, rfl, hE, hv1, hv2, hrx, hb⟩ := ReadsK.both2 msgK_ok ties_msg ask_msg msgZ_rep HQ0.out hrd
  have HE0 := Lib.hid hE
  clear hE
  have HG1 := Lib.hid hb.size
  replace HR := Lib.hid (lext HR.out hb)
  replace HB := Lib.hid (ext HB.out hb)
  have HX1 := Lib.hid hrx
  have HI := Lib.hid (show (Tryz.prog.info? 29).map (·.size) = some vs1.size by rw [hv1]; exact xt_Msg.i)
  have HV1 := Lib.hid (show (#[.int .i64 0, .int .i64 0, .int .i64 0, .int .u64 0, .int .u64 0, .int .u64 0, .int .u64 0, .int .u64 0, .bool false, .slice none 0 0, .slice none 0 0, .slice none 0 0, .int .i64 0, .slice none 0 0] : Array Value).size = vs1.size by rw [hv1]; rfl)
  have HV2 := Lib.hid hv2
  have HS1 := Lib.hid (show vs1.size = 14 by rw [hv1]; rfl)
  clear hrd hv1 hv2 hrx hb H1 hc1
  have hb : Below v1.heap.size v1 ((v1.alloc (.cells #[.int .i64 0, .int .i64 0, .int .i64 0, .int .u64 0, .int .u64 0, .int .u64 0, .int .u64 0, .int .u64 0, .bool false, .slice none 0 0, .slice none 0 0, .slice none 0 0, .int .i64 0, .slice none 0 0] 29)).setRow v1.heap.size vs1) := below_setRow ((Below.refl _ _).alloc (Nat.le_refl _) _) (Nat.le_refl _) _
  replace HR := Lib.hid (lext HR.out hb)
  replace HB := Lib.hid (ext HB.out hb)
  replace HX1 := Lib.hid (msgK_ok.keep HX1.out (fun b hB => hb.block b (hB.2)) (fun _ h => h))
  have HRX1 := Lib.hid (show ((v1.alloc (.cells #[.int .i64 0, .int .i64 0, .int .i64 0, .int .u64 0, .int .u64 0, .int .u64 0, .int .u64 0, .int .u64 0, .bool false, .slice none 0 0, .slice none 0 0, .slice none 0 0, .int .i64 0, .slice none 0 0] 29)).setRow v1.heap.size vs1).heap[v1.heap.size]? = some (.cells vs1 29 (0, 0)) from setRow_heap _ _ _ _ _ _ (heap_alloc_new v1 _))
  clear hb
  go_upto_region 2 with (with_reducible refine wpList_store_row rfl 29 (.tmp 3) (.tmp 28) rfl v1.heap.size vs1 rfl rfl 29 #[.int .i64 0, .int .i64 0, .int .i64 0, .int .u64 0, .int .u64 0, .int .u64 0, .int .u64 0, .int .u64 0, .bool false, .slice none 0 0, .slice none 0 0, .slice none 0 0, .int .i64 0, .slice none 0 0] (heap_alloc_new v1 _) HI.out HV1.out HV2.out ?_)
  generalize (v1.alloc (.cells #[.int .i64 0, .int .i64 0, .int .i64 0, .int .u64 0, .int .u64 0, .int .u64 0, .int .u64 0, .int .u64 0, .bool false, .slice none 0 0, .slice none 0 0, .slice none 0 0, .int .i64 0, .slice none 0 0] 29)).setRow v1.heap.size vs1 = w1 at *
  generalize v1.heap.size = g1 at *
  clear HI HV1 
  have HO1 := HV2
  clear HV2
  have HL2 := Lib.hid (row_lt HRX1.out)
  go_wp2_with fail
  refine (refToMsg_any _ HN.out HNC.out (by have := HM.out; omega) HR.out).mono ?_
  rintro e v2 hrd
  obtain ⟨vs2, rfl, hv1, hv2, hrx, hb⟩ := RefTo.both2 msgK_ok HQ0.out hrd
  have HG2 := Lib.hid hb.size
  replace HR := Lib.hid (lext HR.out hb)
  replace HB := Lib.hid (ext HB.out hb)
  replace HX1 := Lib.hid (msgK_ok.keep HX1.out (fun b hB => hb.block b (Nat.lt_trans hB.2 (row_lt HRX1.out))) (fun _ h => h))
  replace HRX1 := Lib.hid ((hb.block _ (row_lt HRX1.out)).trans HRX1.out)
  have HX2 := Lib.hid hrx
  have HI := Lib.hid (show (Tryz.prog.info? 29).map (·.size) = some vs2.size by rw [hv1]; exact xt_Msg.i)
  have HV1 := Lib.hid (show (#[.int .i64 0, .int .i64 0, .int .i64 0, .int .u64 0, .int .u64 0, .int .u64 0, .int .u64 0, .int .u64 0, .bool false, .slice none 0 0, .slice none 0 0, .slice none 0 0, .int .i64 0, .slice none 0 0] : Array Value).size = vs2.size by rw [hv1]; rfl)
  have HV2 := Lib.hid hv2
  have HS2 := Lib.hid (show vs2.size = 14 by rw [hv1]; rfl)
  clear hrd hv1 hv2 hrx hb
  have hb : Below v2.heap.size v2 ((v2.alloc (.cells #[.int .i64 0, .int .i64 0, .int .i64 0, .int .u64 0, .int .u64 0, .int .u64 0, .int .u64 0, .int .u64 0, .bool false, .slice none 0 0, .slice none 0 0, .slice none 0 0, .int .i64 0, .slice none 0 0] 29)).setRow v2.heap.size vs2) := below_setRow ((Below.refl _ _).alloc (Nat.le_refl _) _) (Nat.le_refl _) _
  replace HR := Lib.hid (lext HR.out hb)
  replace HB := Lib.hid (ext HB.out hb)
  replace HX1 := Lib.hid (msgK_ok.keep HX1.out (fun b hB => hb.block b (Nat.lt_trans hB.2 (row_lt HRX1.out))) (fun _ h => h))
  replace HRX1 := Lib.hid ((hb.block _ (row_lt HRX1.out)).trans HRX1.out)
  replace HX2 := Lib.hid (msgK_ok.keep HX2.out (fun b hB => hb.block b (hB.2)) (fun _ h => h))
  have HRX2 := Lib.hid (show ((v2.alloc (.cells #[.int .i64 0, .int .i64 0, .int .i64 0, .int .u64 0, .int .u64 0, .int .u64 0, .int .u64 0, .int .u64 0, .bool false, .slice none 0 0, .slice none 0 0, .slice none 0 0, .int .i64 0, .slice none 0 0] 29)).setRow v2.heap.size vs2).heap[v2.heap.size]? = some (.cells vs2 29 (0, 0)) from setRow_heap _ _ _ _ _ _ (heap_alloc_new v2 _))
  clear hb
  go_upto_region 3 with (with_reducible refine wpList_store_row rfl 29 (.tmp 5) (.tmp 33) rfl v2.heap.size vs2 rfl rfl 29 #[.int .i64 0, .int .i64 0, .int .i64 0, .int .u64 0, .int .u64 0, .int .u64 0, .int .u64 0, .int .u64 0, .bool false, .slice none 0 0, .slice none 0 0, .slice none 0 0, .int .i64 0, .slice none 0 0] (heap_alloc_new v2 _) HI.out HV1.out HV2.out ?_)
  generalize (v2.alloc (.cells #[.int .i64 0, .int .i64 0, .int .i64 0, .int .u64 0, .int .u64 0, .int .u64 0, .int .u64 0, .int .u64 0, .bool false, .slice none 0 0, .slice none 0 0, .slice none 0 0, .int .i64 0, .slice none 0 0] 29)).setRow v2.heap.size vs2 = w2 at *
  generalize v2.heap.size = g2 at *
  clear HI HV1 
  have HO2 := HV2
  clear HV2
  have hoa := Own.made w2 w2.heap.size #[] 0 (Nat.le_refl _) (by decide) rfl
  go_wp2_with (at_builtin; refine wpList_app rfl (.tmp 36) (.tmp 37) rfl rfl hoa rfl HN.out (HR.out.alloc (Nat.le_refl _) (.cells #[] 5)) (by have := HN.out; have := HM.out; rw [List.length_nil]; omega) (by rw [World.size_alloc]; exact Nat.le_succ _) ?_)
  intro va3 u3 ho hbq _
  try rw [List.nil_append] at ho
  have hb := (((Below.refl w2.heap.size w2).alloc (Nat.le_refl _) (.cells #[] 5)).trans hbq)
  obtain ⟨A3, c3, rfl, hc3, _, _, hr3, _⟩ := ho.form
  rw [← HN.out] at hc3 ⊢
  have H3 := Lib.hid hr3
  replace HR := Lib.hid (lext HR.out hb)
  replace HB := Lib.hid (ext HB.out hb)
  replace HX1 := Lib.hid (msgK_ok.keep HX1.out (fun b hB => hb.block b (Nat.lt_trans hB.2 (row_lt HRX1.out))) (fun _ h => h))
  replace HRX1 := Lib.hid ((hb.block _ (row_lt HRX1.out)).trans HRX1.out)
  replace HX2 := Lib.hid (msgK_ok.keep HX2.out (fun b hB => hb.block b (Nat.lt_trans hB.2 (row_lt HRX2.out))) (fun _ h => h))
  replace HRX2 := Lib.hid ((hb.block _ (row_lt HRX2.out)).trans HRX2.out)
  clear hb hbq ho hoa hr3
  have HL3 := Lib.hid (row_lt HRX2.out)
  go_wp2_with fail
  refine (msgToCommand_any _ HN.out hc3 (by have := HM.out; omega) H3.out).mono ?_
  rintro e v3 hrd
  obtain ⟨vs3, E1, rfl, hE, hv1, hv2, hrx, hb⟩ := ReadsK.both2 commandK_ok ties_command ask_command commandZ_rep HQ1.out hrd
  have HE1 := Lib.hid hE
  clear hE
  have HG3 := Lib.hid hb.size
  replace HR := Lib.hid (lext HR.out hb)
  replace HB := Lib.hid (ext HB.out hb)
  replace HX1 := Lib.hid (msgK_ok.keep HX1.out (fun b hB => hb.block b (Nat.lt_trans hB.2 (row_lt HRX1.out))) (fun _ h => h))
  replace HRX1 := Lib.hid ((hb.block _ (row_lt HRX1.out)).trans HRX1.out)
  replace HX2 := Lib.hid (msgK_ok.keep HX2.out (fun b hB => hb.block b (Nat.lt_trans hB.2 (row_lt HRX2.out))) (fun _ h => h))
  replace HRX2 := Lib.hid ((hb.block _ (row_lt HRX2.out)).trans HRX2.out)
  have HX3 := Lib.hid hrx
  have HI := Lib.hid (show (Tryz.prog.info? 36).map (·.size) = some vs3.size by rw [hv1]; exact xt_Command.i)
  have HV1 := Lib.hid (show (#[.int .u64 0, .int .u64 0, .int .i64 0, .string ⟨#[]⟩, .int .i64 0, .int .i64 0, .int .u64 0] : Array Value).size = vs3.size by rw [hv1]; rfl)
  have HV2 := Lib.hid hv2
  have HS3 := Lib.hid (show vs3.size = 7 by rw [hv1]; rfl)
  clear hrd hv1 hv2 hrx hb H3 hc3
  have hb : Below v3.heap.size v3 ((v3.alloc (.cells #[.int .u64 0, .int .u64 0, .int .i64 0, .string ⟨#[]⟩, .int .i64 0, .int .i64 0, .int .u64 0] 36)).setRow v3.heap.size vs3) := below_setRow ((Below.refl _ _).alloc (Nat.le_refl _) _) (Nat.le_refl _) _
  replace HR := Lib.hid (lext HR.out hb)
  replace HB := Lib.hid (ext HB.out hb)
  replace HX1 := Lib.hid (msgK_ok.keep HX1.out (fun b hB => hb.block b (Nat.lt_trans hB.2 (row_lt HRX1.out))) (fun _ h => h))
  replace HRX1 := Lib.hid ((hb.block _ (row_lt HRX1.out)).trans HRX1.out)
  replace HX2 := Lib.hid (msgK_ok.keep HX2.out (fun b hB => hb.block b (Nat.lt_trans hB.2 (row_lt HRX2.out))) (fun _ h => h))
  replace HRX2 := Lib.hid ((hb.block _ (row_lt HRX2.out)).trans HRX2.out)
  replace HX3 := Lib.hid (commandK_ok.keep HX3.out (fun b hB => hb.block b (hB.2)) (fun _ h => h))
  have HRX3 := Lib.hid (show ((v3.alloc (.cells #[.int .u64 0, .int .u64 0, .int .i64 0, .string ⟨#[]⟩, .int .i64 0, .int .i64 0, .int .u64 0] 36)).setRow v3.heap.size vs3).heap[v3.heap.size]? = some (.cells vs3 36 (0, 0)) from setRow_heap _ _ _ _ _ _ (heap_alloc_new v3 _))
  clear hb
  go_upto_region 4 with (with_reducible refine wpList_store_row rfl 36 (.tmp 7) (.tmp 40) rfl v3.heap.size vs3 rfl rfl 36 #[.int .u64 0, .int .u64 0, .int .i64 0, .string ⟨#[]⟩, .int .i64 0, .int .i64 0, .int .u64 0] (heap_alloc_new v3 _) HI.out HV1.out HV2.out ?_)
  generalize (v3.alloc (.cells #[.int .u64 0, .int .u64 0, .int .i64 0, .string ⟨#[]⟩, .int .i64 0, .int .i64 0, .int .u64 0] 36)).setRow v3.heap.size vs3 = w3 at *
  generalize v3.heap.size = g3 at *
  clear HI HV1 
  have HO3 := HV2
  clear HV2
  have HL4 := Lib.hid (row_lt HRX3.out)
  go_wp2_with fail
  refine (refToCommand_any _ HN.out HNC.out (by have := HM.out; omega) HR.out).mono ?_
  rintro e v4 hrd
  obtain ⟨vs4, rfl, hv1, hv2, hrx, hb⟩ := RefTo.both2 commandK_ok HQ1.out hrd
  have HG4 := Lib.hid hb.size
  replace HR := Lib.hid (lext HR.out hb)
  replace HB := Lib.hid (ext HB.out hb)
  replace HX1 := Lib.hid (msgK_ok.keep HX1.out (fun b hB => hb.block b (Nat.lt_trans hB.2 (row_lt HRX1.out))) (fun _ h => h))
  replace HRX1 := Lib.hid ((hb.block _ (row_lt HRX1.out)).trans HRX1.out)
  replace HX2 := Lib.hid (msgK_ok.keep HX2.out (fun b hB => hb.block b (Nat.lt_trans hB.2 (row_lt HRX2.out))) (fun _ h => h))
  replace HRX2 := Lib.hid ((hb.block _ (row_lt HRX2.out)).trans HRX2.out)
  replace HX3 := Lib.hid (commandK_ok.keep HX3.out (fun b hB => hb.block b (Nat.lt_trans hB.2 (row_lt HRX3.out))) (fun _ h => h))
  replace HRX3 := Lib.hid ((hb.block _ (row_lt HRX3.out)).trans HRX3.out)
  have HX4 := Lib.hid hrx
  have HI := Lib.hid (show (Tryz.prog.info? 36).map (·.size) = some vs4.size by rw [hv1]; exact xt_Command.i)
  have HV1 := Lib.hid (show (#[.int .u64 0, .int .u64 0, .int .i64 0, .string ⟨#[]⟩, .int .i64 0, .int .i64 0, .int .u64 0] : Array Value).size = vs4.size by rw [hv1]; rfl)
  have HV2 := Lib.hid hv2
  have HS4 := Lib.hid (show vs4.size = 7 by rw [hv1]; rfl)
  clear hrd hv1 hv2 hrx hb
  have hb : Below v4.heap.size v4 ((v4.alloc (.cells #[.int .u64 0, .int .u64 0, .int .i64 0, .string ⟨#[]⟩, .int .i64 0, .int .i64 0, .int .u64 0] 36)).setRow v4.heap.size vs4) := below_setRow ((Below.refl _ _).alloc (Nat.le_refl _) _) (Nat.le_refl _) _
  replace HR := Lib.hid (lext HR.out hb)
  replace HB := Lib.hid (ext HB.out hb)
  replace HX1 := Lib.hid (msgK_ok.keep HX1.out (fun b hB => hb.block b (Nat.lt_trans hB.2 (row_lt HRX1.out))) (fun _ h => h))
  replace HRX1 := Lib.hid ((hb.block _ (row_lt HRX1.out)).trans HRX1.out)
  replace HX2 := Lib.hid (msgK_ok.keep HX2.out (fun b hB => hb.block b (Nat.lt_trans hB.2 (row_lt HRX2.out))) (fun _ h => h))
  replace HRX2 := Lib.hid ((hb.block _ (row_lt HRX2.out)).trans HRX2.out)
  replace HX3 := Lib.hid (commandK_ok.keep HX3.out (fun b hB => hb.block b (Nat.lt_trans hB.2 (row_lt HRX3.out))) (fun _ h => h))
  replace HRX3 := Lib.hid ((hb.block _ (row_lt HRX3.out)).trans HRX3.out)
  replace HX4 := Lib.hid (commandK_ok.keep HX4.out (fun b hB => hb.block b (hB.2)) (fun _ h => h))
  have HRX4 := Lib.hid (show ((v4.alloc (.cells #[.int .u64 0, .int .u64 0, .int .i64 0, .string ⟨#[]⟩, .int .i64 0, .int .i64 0, .int .u64 0] 36)).setRow v4.heap.size vs4).heap[v4.heap.size]? = some (.cells vs4 36 (0, 0)) from setRow_heap _ _ _ _ _ _ (heap_alloc_new v4 _))
  clear hb
  go_upto_region 5 with (with_reducible refine wpList_store_row rfl 36 (.tmp 9) (.tmp 45) rfl v4.heap.size vs4 rfl rfl 36 #[.int .u64 0, .int .u64 0, .int .i64 0, .string ⟨#[]⟩, .int .i64 0, .int .i64 0, .int .u64 0] (heap_alloc_new v4 _) HI.out HV1.out HV2.out ?_)
  generalize (v4.alloc (.cells #[.int .u64 0, .int .u64 0, .int .i64 0, .string ⟨#[]⟩, .int .i64 0, .int .i64 0, .int .u64 0] 36)).setRow v4.heap.size vs4 = w4 at *
  generalize v4.heap.size = g4 at *
  clear HI HV1 
  have HO4 := HV2
  clear HV2
  have hoa := Own.made w4 w4.heap.size #[] 0 (Nat.le_refl _) (by decide) rfl
  go_wp2_with (at_builtin; refine wpList_app rfl (.tmp 48) (.tmp 49) rfl rfl hoa rfl HN.out (HR.out.alloc (Nat.le_refl _) (.cells #[] 5)) (by have := HN.out; have := HM.out; rw [List.length_nil]; omega) (by rw [World.size_alloc]; exact Nat.le_succ _) ?_)
  intro va5 u5 ho hbq _
  try rw [List.nil_append] at ho
  have hb := (((Below.refl w4.heap.size w4).alloc (Nat.le_refl _) (.cells #[] 5)).trans hbq)
  obtain ⟨A5, c5, rfl, hc5, _, _, hr5, _⟩ := ho.form
  rw [← HN.out] at hc5 ⊢
  have H5 := Lib.hid hr5
  replace HR := Lib.hid (lext HR.out hb)
  replace HB := Lib.hid (ext HB.out hb)
  replace HX1 := Lib.hid (msgK_ok.keep HX1.out (fun b hB => hb.block b (Nat.lt_trans hB.2 (row_lt HRX1.out))) (fun _ h => h))
  replace HRX1 := Lib.hid ((hb.block _ (row_lt HRX1.out)).trans HRX1.out)
  replace HX2 := Lib.hid (msgK_ok.keep HX2.out (fun b hB => hb.block b (Nat.lt_trans hB.2 (row_lt HRX2.out))) (fun _ h => h))
  replace HRX2 := Lib.hid ((hb.block _ (row_lt HRX2.out)).trans HRX2.out)
  replace HX3 := Lib.hid (commandK_ok.keep HX3.out (fun b hB => hb.block b (Nat.lt_trans hB.2 (row_lt HRX3.out))) (fun _ h => h))
  replace HRX3 := Lib.hid ((hb.block _ (row_lt HRX3.out)).trans HRX3.out)
  replace HX4 := Lib.hid (commandK_ok.keep HX4.out (fun b hB => hb.block b (Nat.lt_trans hB.2 (row_lt HRX4.out))) (fun _ h => h))
  replace HRX4 := Lib.hid ((hb.block _ (row_lt HRX4.out)).trans HRX4.out)
  clear hb hbq ho hoa hr5
  have HL5 := Lib.hid (row_lt HRX4.out)
  go_wp2_with fail
  refine (msgToReply_any _ HN.out hc5 (by have := HM.out; omega) H5.out).mono ?_
  rintro e v5 hrd
  obtain ⟨vs5, E2, rfl, hE, hv1, hv2, hrx, hb⟩ := ReadsK.both2 replyK_ok ties_reply ask_reply replyZ_rep HQ2.out hrd
  have HE2 := Lib.hid hE
  clear hE
  have HG5 := Lib.hid hb.size
  replace HR := Lib.hid (lext HR.out hb)
  replace HB := Lib.hid (ext HB.out hb)
  replace HX1 := Lib.hid (msgK_ok.keep HX1.out (fun b hB => hb.block b (Nat.lt_trans hB.2 (row_lt HRX1.out))) (fun _ h => h))
  replace HRX1 := Lib.hid ((hb.block _ (row_lt HRX1.out)).trans HRX1.out)
  replace HX2 := Lib.hid (msgK_ok.keep HX2.out (fun b hB => hb.block b (Nat.lt_trans hB.2 (row_lt HRX2.out))) (fun _ h => h))
  replace HRX2 := Lib.hid ((hb.block _ (row_lt HRX2.out)).trans HRX2.out)
  replace HX3 := Lib.hid (commandK_ok.keep HX3.out (fun b hB => hb.block b (Nat.lt_trans hB.2 (row_lt HRX3.out))) (fun _ h => h))
  replace HRX3 := Lib.hid ((hb.block _ (row_lt HRX3.out)).trans HRX3.out)
  replace HX4 := Lib.hid (commandK_ok.keep HX4.out (fun b hB => hb.block b (Nat.lt_trans hB.2 (row_lt HRX4.out))) (fun _ h => h))
  replace HRX4 := Lib.hid ((hb.block _ (row_lt HRX4.out)).trans HRX4.out)
  have HX5 := Lib.hid hrx
  have HI := Lib.hid (show (Tryz.prog.info? 42).map (·.size) = some vs5.size by rw [hv1]; exact xt_Reply.i)
  have HV1 := Lib.hid (show (#[.int .u64 0, .int .u64 0, .int .i64 0, .int .u64 0, .int .i64 0, .int .i64 0] : Array Value).size = vs5.size by rw [hv1]; rfl)
  have HV2 := Lib.hid hv2
  have HS5 := Lib.hid (show vs5.size = 6 by rw [hv1]; rfl)
  clear hrd hv1 hv2 hrx hb H5 hc5
  have hb : Below v5.heap.size v5 ((v5.alloc (.cells #[.int .u64 0, .int .u64 0, .int .i64 0, .int .u64 0, .int .i64 0, .int .i64 0] 42)).setRow v5.heap.size vs5) := below_setRow ((Below.refl _ _).alloc (Nat.le_refl _) _) (Nat.le_refl _) _
  replace HR := Lib.hid (lext HR.out hb)
  replace HB := Lib.hid (ext HB.out hb)
  replace HX1 := Lib.hid (msgK_ok.keep HX1.out (fun b hB => hb.block b (Nat.lt_trans hB.2 (row_lt HRX1.out))) (fun _ h => h))
  replace HRX1 := Lib.hid ((hb.block _ (row_lt HRX1.out)).trans HRX1.out)
  replace HX2 := Lib.hid (msgK_ok.keep HX2.out (fun b hB => hb.block b (Nat.lt_trans hB.2 (row_lt HRX2.out))) (fun _ h => h))
  replace HRX2 := Lib.hid ((hb.block _ (row_lt HRX2.out)).trans HRX2.out)
  replace HX3 := Lib.hid (commandK_ok.keep HX3.out (fun b hB => hb.block b (Nat.lt_trans hB.2 (row_lt HRX3.out))) (fun _ h => h))
  replace HRX3 := Lib.hid ((hb.block _ (row_lt HRX3.out)).trans HRX3.out)
  replace HX4 := Lib.hid (commandK_ok.keep HX4.out (fun b hB => hb.block b (Nat.lt_trans hB.2 (row_lt HRX4.out))) (fun _ h => h))
  replace HRX4 := Lib.hid ((hb.block _ (row_lt HRX4.out)).trans HRX4.out)
  replace HX5 := Lib.hid (replyK_ok.keep HX5.out (fun b hB => hb.block b (hB.2)) (fun _ h => h))
  have HRX5 := Lib.hid (show ((v5.alloc (.cells #[.int .u64 0, .int .u64 0, .int .i64 0, .int .u64 0, .int .i64 0, .int .i64 0] 42)).setRow v5.heap.size vs5).heap[v5.heap.size]? = some (.cells vs5 42 (0, 0)) from setRow_heap _ _ _ _ _ _ (heap_alloc_new v5 _))
  clear hb
  go_upto_region 6 with (with_reducible refine wpList_store_row rfl 42 (.tmp 11) (.tmp 52) rfl v5.heap.size vs5 rfl rfl 42 #[.int .u64 0, .int .u64 0, .int .i64 0, .int .u64 0, .int .i64 0, .int .i64 0] (heap_alloc_new v5 _) HI.out HV1.out HV2.out ?_)
  generalize (v5.alloc (.cells #[.int .u64 0, .int .u64 0, .int .i64 0, .int .u64 0, .int .i64 0, .int .i64 0] 42)).setRow v5.heap.size vs5 = w5 at *
  generalize v5.heap.size = g5 at *
  clear HI HV1 
  have HO5 := HV2
  clear HV2
  have HL6 := Lib.hid (row_lt HRX5.out)
  go_wp2_with fail
  refine (refToReply_any _ HN.out HNC.out (by have := HM.out; omega) HR.out).mono ?_
  rintro e v6 hrd
  obtain ⟨vs6, rfl, hv1, hv2, hrx, hb⟩ := RefTo.both2 replyK_ok HQ2.out hrd
  have HG6 := Lib.hid hb.size
  replace HR := Lib.hid (lext HR.out hb)
  replace HB := Lib.hid (ext HB.out hb)
  replace HX1 := Lib.hid (msgK_ok.keep HX1.out (fun b hB => hb.block b (Nat.lt_trans hB.2 (row_lt HRX1.out))) (fun _ h => h))
  replace HRX1 := Lib.hid ((hb.block _ (row_lt HRX1.out)).trans HRX1.out)
  replace HX2 := Lib.hid (msgK_ok.keep HX2.out (fun b hB => hb.block b (Nat.lt_trans hB.2 (row_lt HRX2.out))) (fun _ h => h))
  replace HRX2 := Lib.hid ((hb.block _ (row_lt HRX2.out)).trans HRX2.out)
  replace HX3 := Lib.hid (commandK_ok.keep HX3.out (fun b hB => hb.block b (Nat.lt_trans hB.2 (row_lt HRX3.out))) (fun _ h => h))
  replace HRX3 := Lib.hid ((hb.block _ (row_lt HRX3.out)).trans HRX3.out)
  replace HX4 := Lib.hid (commandK_ok.keep HX4.out (fun b hB => hb.block b (Nat.lt_trans hB.2 (row_lt HRX4.out))) (fun _ h => h))
  replace HRX4 := Lib.hid ((hb.block _ (row_lt HRX4.out)).trans HRX4.out)
  replace HX5 := Lib.hid (replyK_ok.keep HX5.out (fun b hB => hb.block b (Nat.lt_trans hB.2 (row_lt HRX5.out))) (fun _ h => h))
  replace HRX5 := Lib.hid ((hb.block _ (row_lt HRX5.out)).trans HRX5.out)
  have HX6 := Lib.hid hrx
  have HI := Lib.hid (show (Tryz.prog.info? 42).map (·.size) = some vs6.size by rw [hv1]; exact xt_Reply.i)
  have HV1 := Lib.hid (show (#[.int .u64 0, .int .u64 0, .int .i64 0, .int .u64 0, .int .i64 0, .int .i64 0] : Array Value).size = vs6.size by rw [hv1]; rfl)
  have HV2 := Lib.hid hv2
  have HS6 := Lib.hid (show vs6.size = 6 by rw [hv1]; rfl)
  clear hrd hv1 hv2 hrx hb
  have hb : Below v6.heap.size v6 ((v6.alloc (.cells #[.int .u64 0, .int .u64 0, .int .i64 0, .int .u64 0, .int .i64 0, .int .i64 0] 42)).setRow v6.heap.size vs6) := below_setRow ((Below.refl _ _).alloc (Nat.le_refl _) _) (Nat.le_refl _) _
  replace HR := Lib.hid (lext HR.out hb)
  replace HB := Lib.hid (ext HB.out hb)
  replace HX1 := Lib.hid (msgK_ok.keep HX1.out (fun b hB => hb.block b (Nat.lt_trans hB.2 (row_lt HRX1.out))) (fun _ h => h))
  replace HRX1 := Lib.hid ((hb.block _ (row_lt HRX1.out)).trans HRX1.out)
  replace HX2 := Lib.hid (msgK_ok.keep HX2.out (fun b hB => hb.block b (Nat.lt_trans hB.2 (row_lt HRX2.out))) (fun _ h => h))
  replace HRX2 := Lib.hid ((hb.block _ (row_lt HRX2.out)).trans HRX2.out)
  replace HX3 := Lib.hid (commandK_ok.keep HX3.out (fun b hB => hb.block b (Nat.lt_trans hB.2 (row_lt HRX3.out))) (fun _ h => h))
  replace HRX3 := Lib.hid ((hb.block _ (row_lt HRX3.out)).trans HRX3.out)
  replace HX4 := Lib.hid (commandK_ok.keep HX4.out (fun b hB => hb.block b (Nat.lt_trans hB.2 (row_lt HRX4.out))) (fun _ h => h))
  replace HRX4 := Lib.hid ((hb.block _ (row_lt HRX4.out)).trans HRX4.out)
  replace HX5 := Lib.hid (replyK_ok.keep HX5.out (fun b hB => hb.block b (Nat.lt_trans hB.2 (row_lt HRX5.out))) (fun _ h => h))
  replace HRX5 := Lib.hid ((hb.block _ (row_lt HRX5.out)).trans HRX5.out)
  replace HX6 := Lib.hid (replyK_ok.keep HX6.out (fun b hB => hb.block b (hB.2)) (fun _ h => h))
  have HRX6 := Lib.hid (show ((v6.alloc (.cells #[.int .u64 0, .int .u64 0, .int .i64 0, .int .u64 0, .int .i64 0, .int .i64 0] 42)).setRow v6.heap.size vs6).heap[v6.heap.size]? = some (.cells vs6 42 (0, 0)) from setRow_heap _ _ _ _ _ _ (heap_alloc_new v6 _))
  clear hb
  go_upto_region 7 with (with_reducible refine wpList_store_row rfl 42 (.tmp 13) (.tmp 57) rfl v6.heap.size vs6 rfl rfl 42 #[.int .u64 0, .int .u64 0, .int .i64 0, .int .u64 0, .int .i64 0, .int .i64 0] (heap_alloc_new v6 _) HI.out HV1.out HV2.out ?_)
  generalize (v6.alloc (.cells #[.int .u64 0, .int .u64 0, .int .i64 0, .int .u64 0, .int .i64 0, .int .i64 0] 42)).setRow v6.heap.size vs6 = w6 at *
  generalize v6.heap.size = g6 at *
  clear HI HV1 
  have HO6 := HV2
  clear HV2
  have hoa := Own.made w6 w6.heap.size #[] 0 (Nat.le_refl _) (by decide) rfl
  go_wp2_with (at_builtin; refine wpList_app rfl (.tmp 60) (.tmp 61) rfl rfl hoa rfl HN.out (HR.out.alloc (Nat.le_refl _) (.cells #[] 5)) (by have := HN.out; have := HM.out; rw [List.length_nil]; omega) (by rw [World.size_alloc]; exact Nat.le_succ _) ?_)
  intro va7 u7 ho hbq _
  try rw [List.nil_append] at ho
  have hb := (((Below.refl w6.heap.size w6).alloc (Nat.le_refl _) (.cells #[] 5)).trans hbq)
  obtain ⟨A7, c7, rfl, hc7, _, _, hr7, _⟩ := ho.form
  rw [← HN.out] at hc7 ⊢
  have H7 := Lib.hid hr7
  replace HR := Lib.hid (lext HR.out hb)
  replace HB := Lib.hid (ext HB.out hb)
  replace HX1 := Lib.hid (msgK_ok.keep HX1.out (fun b hB => hb.block b (Nat.lt_trans hB.2 (row_lt HRX1.out))) (fun _ h => h))
  replace HRX1 := Lib.hid ((hb.block _ (row_lt HRX1.out)).trans HRX1.out)
  replace HX2 := Lib.hid (msgK_ok.keep HX2.out (fun b hB => hb.block b (Nat.lt_trans hB.2 (row_lt HRX2.out))) (fun _ h => h))
  replace HRX2 := Lib.hid ((hb.block _ (row_lt HRX2.out)).trans HRX2.out)
  replace HX3 := Lib.hid (commandK_ok.keep HX3.out (fun b hB => hb.block b (Nat.lt_trans hB.2 (row_lt HRX3.out))) (fun _ h => h))
  replace HRX3 := Lib.hid ((hb.block _ (row_lt HRX3.out)).trans HRX3.out)
  replace HX4 := Lib.hid (commandK_ok.keep HX4.out (fun b hB => hb.block b (Nat.lt_trans hB.2 (row_lt HRX4.out))) (fun _ h => h))
  replace HRX4 := Lib.hid ((hb.block _ (row_lt HRX4.out)).trans HRX4.out)
  replace HX5 := Lib.hid (replyK_ok.keep HX5.out (fun b hB => hb.block b (Nat.lt_trans hB.2 (row_lt HRX5.out))) (fun _ h => h))
  replace HRX5 := Lib.hid ((hb.block _ (row_lt HRX5.out)).trans HRX5.out)
  replace HX6 := Lib.hid (replyK_ok.keep HX6.out (fun b hB => hb.block b (Nat.lt_trans hB.2 (row_lt HRX6.out))) (fun _ h => h))
  replace HRX6 := Lib.hid ((hb.block _ (row_lt HRX6.out)).trans HRX6.out)
  clear hb hbq ho hoa hr7
  have HL7 := Lib.hid (row_lt HRX6.out)
  go_wp2_with fail
  refine (msgToAsk_any _ HN.out hc7 (by have := HM.out; omega) H7.out).mono ?_
  rintro e v7 hrd
  obtain ⟨vs7, E3, rfl, hE, hv1, hv2, hrx, hb⟩ := ReadsK.both2 askK_ok ties_ask ask_ask askZ_rep HQ3.out hrd
  have HE3 := Lib.hid hE
  clear hE
  have HG7 := Lib.hid hb.size
  replace HR := Lib.hid (lext HR.out hb)
  replace HB := Lib.hid (ext HB.out hb)
  replace HX1 := Lib.hid (msgK_ok.keep HX1.out (fun b hB => hb.block b (Nat.lt_trans hB.2 (row_lt HRX1.out))) (fun _ h => h))
  replace HRX1 := Lib.hid ((hb.block _ (row_lt HRX1.out)).trans HRX1.out)
  replace HX2 := Lib.hid (msgK_ok.keep HX2.out (fun b hB => hb.block b (Nat.lt_trans hB.2 (row_lt HRX2.out))) (fun _ h => h))
  replace HRX2 := Lib.hid ((hb.block _ (row_lt HRX2.out)).trans HRX2.out)
  replace HX3 := Lib.hid (commandK_ok.keep HX3.out (fun b hB => hb.block b (Nat.lt_trans hB.2 (row_lt HRX3.out))) (fun _ h => h))
  replace HRX3 := Lib.hid ((hb.block _ (row_lt HRX3.out)).trans HRX3.out)
  replace HX4 := Lib.hid (commandK_ok.keep HX4.out (fun b hB => hb.block b (Nat.lt_trans hB.2 (row_lt HRX4.out))) (fun _ h => h))
  replace HRX4 := Lib.hid ((hb.block _ (row_lt HRX4.out)).trans HRX4.out)
  replace HX5 := Lib.hid (replyK_ok.keep HX5.out (fun b hB => hb.block b (Nat.lt_trans hB.2 (row_lt HRX5.out))) (fun _ h => h))
  replace HRX5 := Lib.hid ((hb.block _ (row_lt HRX5.out)).trans HRX5.out)
  replace HX6 := Lib.hid (replyK_ok.keep HX6.out (fun b hB => hb.block b (Nat.lt_trans hB.2 (row_lt HRX6.out))) (fun _ h => h))
  replace HRX6 := Lib.hid ((hb.block _ (row_lt HRX6.out)).trans HRX6.out)
  have HX7 := Lib.hid hrx
  have HI := Lib.hid (show (Tryz.prog.info? 48).map (·.size) = some vs7.size by rw [hv1]; exact xt_Ask.i)
  have HV1 := Lib.hid (show (#[.bool false, .bool false, .int .u64 0, .int .u64 0, .int .u64 0, .int .i64 0, .string ⟨#[]⟩, .int .i64 0, .int .i64 0, .int .u64 0, .string ⟨#[]⟩] : Array Value).size = vs7.size by rw [hv1]; rfl)
  have HV2 := Lib.hid hv2
  have HS7 := Lib.hid (show vs7.size = 11 by rw [hv1]; rfl)
  clear hrd hv1 hv2 hrx hb H7 hc7
  have hb : Below v7.heap.size v7 ((v7.alloc (.cells #[.bool false, .bool false, .int .u64 0, .int .u64 0, .int .u64 0, .int .i64 0, .string ⟨#[]⟩, .int .i64 0, .int .i64 0, .int .u64 0, .string ⟨#[]⟩] 48)).setRow v7.heap.size vs7) := below_setRow ((Below.refl _ _).alloc (Nat.le_refl _) _) (Nat.le_refl _) _
  replace HR := Lib.hid (lext HR.out hb)
  replace HB := Lib.hid (ext HB.out hb)
  replace HX1 := Lib.hid (msgK_ok.keep HX1.out (fun b hB => hb.block b (Nat.lt_trans hB.2 (row_lt HRX1.out))) (fun _ h => h))
  replace HRX1 := Lib.hid ((hb.block _ (row_lt HRX1.out)).trans HRX1.out)
  replace HX2 := Lib.hid (msgK_ok.keep HX2.out (fun b hB => hb.block b (Nat.lt_trans hB.2 (row_lt HRX2.out))) (fun _ h => h))
  replace HRX2 := Lib.hid ((hb.block _ (row_lt HRX2.out)).trans HRX2.out)
  replace HX3 := Lib.hid (commandK_ok.keep HX3.out (fun b hB => hb.block b (Nat.lt_trans hB.2 (row_lt HRX3.out))) (fun _ h => h))
  replace HRX3 := Lib.hid ((hb.block _ (row_lt HRX3.out)).trans HRX3.out)
  replace HX4 := Lib.hid (commandK_ok.keep HX4.out (fun b hB => hb.block b (Nat.lt_trans hB.2 (row_lt HRX4.out))) (fun _ h => h))
  replace HRX4 := Lib.hid ((hb.block _ (row_lt HRX4.out)).trans HRX4.out)
  replace HX5 := Lib.hid (replyK_ok.keep HX5.out (fun b hB => hb.block b (Nat.lt_trans hB.2 (row_lt HRX5.out))) (fun _ h => h))
  replace HRX5 := Lib.hid ((hb.block _ (row_lt HRX5.out)).trans HRX5.out)
  replace HX6 := Lib.hid (replyK_ok.keep HX6.out (fun b hB => hb.block b (Nat.lt_trans hB.2 (row_lt HRX6.out))) (fun _ h => h))
  replace HRX6 := Lib.hid ((hb.block _ (row_lt HRX6.out)).trans HRX6.out)
  replace HX7 := Lib.hid (askK_ok.keep HX7.out (fun b hB => hb.block b (hB.2)) (fun _ h => h))
  have HRX7 := Lib.hid (show ((v7.alloc (.cells #[.bool false, .bool false, .int .u64 0, .int .u64 0, .int .u64 0, .int .i64 0, .string ⟨#[]⟩, .int .i64 0, .int .i64 0, .int .u64 0, .string ⟨#[]⟩] 48)).setRow v7.heap.size vs7).heap[v7.heap.size]? = some (.cells vs7 48 (0, 0)) from setRow_heap _ _ _ _ _ _ (heap_alloc_new v7 _))
  clear hb
  go_upto_region 8 with (with_reducible refine wpList_store_row rfl 48 (.tmp 15) (.tmp 64) rfl v7.heap.size vs7 rfl rfl 48 #[.bool false, .bool false, .int .u64 0, .int .u64 0, .int .u64 0, .int .i64 0, .string ⟨#[]⟩, .int .i64 0, .int .i64 0, .int .u64 0, .string ⟨#[]⟩] (heap_alloc_new v7 _) HI.out HV1.out HV2.out ?_)
  generalize (v7.alloc (.cells #[.bool false, .bool false, .int .u64 0, .int .u64 0, .int .u64 0, .int .i64 0, .string ⟨#[]⟩, .int .i64 0, .int .i64 0, .int .u64 0, .string ⟨#[]⟩] 48)).setRow v7.heap.size vs7 = w7 at *
  generalize v7.heap.size = g7 at *
  clear HI HV1 
  have HO7 := HV2
  clear HV2
  have HL8 := Lib.hid (row_lt HRX7.out)
  go_wp2_with fail
  refine (refToAsk_any _ HN.out HNC.out (by have := HM.out; omega) HR.out).mono ?_
  rintro e v8 hrd
  obtain ⟨vs8, rfl, hv1, hv2, hrx, hb⟩ := RefTo.both2 askK_ok HQ3.out hrd
  have HG8 := Lib.hid hb.size
  replace HR := Lib.hid (lext HR.out hb)
  replace HB := Lib.hid (ext HB.out hb)
  replace HX1 := Lib.hid (msgK_ok.keep HX1.out (fun b hB => hb.block b (Nat.lt_trans hB.2 (row_lt HRX1.out))) (fun _ h => h))
  replace HRX1 := Lib.hid ((hb.block _ (row_lt HRX1.out)).trans HRX1.out)
  replace HX2 := Lib.hid (msgK_ok.keep HX2.out (fun b hB => hb.block b (Nat.lt_trans hB.2 (row_lt HRX2.out))) (fun _ h => h))
  replace HRX2 := Lib.hid ((hb.block _ (row_lt HRX2.out)).trans HRX2.out)
  replace HX3 := Lib.hid (commandK_ok.keep HX3.out (fun b hB => hb.block b (Nat.lt_trans hB.2 (row_lt HRX3.out))) (fun _ h => h))
  replace HRX3 := Lib.hid ((hb.block _ (row_lt HRX3.out)).trans HRX3.out)
  replace HX4 := Lib.hid (commandK_ok.keep HX4.out (fun b hB => hb.block b (Nat.lt_trans hB.2 (row_lt HRX4.out))) (fun _ h => h))
  replace HRX4 := Lib.hid ((hb.block _ (row_lt HRX4.out)).trans HRX4.out)
  replace HX5 := Lib.hid (replyK_ok.keep HX5.out (fun b hB => hb.block b (Nat.lt_trans hB.2 (row_lt HRX5.out))) (fun _ h => h))
  replace HRX5 := Lib.hid ((hb.block _ (row_lt HRX5.out)).trans HRX5.out)
  replace HX6 := Lib.hid (replyK_ok.keep HX6.out (fun b hB => hb.block b (Nat.lt_trans hB.2 (row_lt HRX6.out))) (fun _ h => h))
  replace HRX6 := Lib.hid ((hb.block _ (row_lt HRX6.out)).trans HRX6.out)
  replace HX7 := Lib.hid (askK_ok.keep HX7.out (fun b hB => hb.block b (Nat.lt_trans hB.2 (row_lt HRX7.out))) (fun _ h => h))
  replace HRX7 := Lib.hid ((hb.block _ (row_lt HRX7.out)).trans HRX7.out)
  have HX8 := Lib.hid hrx
  have HI := Lib.hid (show (Tryz.prog.info? 48).map (·.size) = some vs8.size by rw [hv1]; exact xt_Ask.i)
  have HV1 := Lib.hid (show (#[.bool false, .bool false, .int .u64 0, .int .u64 0, .int .u64 0, .int .i64 0, .string ⟨#[]⟩, .int .i64 0, .int .i64 0, .int .u64 0, .string ⟨#[]⟩] : Array Value).size = vs8.size by rw [hv1]; rfl)
  have HV2 := Lib.hid hv2
  have HS8 := Lib.hid (show vs8.size = 11 by rw [hv1]; rfl)
  clear hrd hv1 hv2 hrx hb
  have hb : Below v8.heap.size v8 ((v8.alloc (.cells #[.bool false, .bool false, .int .u64 0, .int .u64 0, .int .u64 0, .int .i64 0, .string ⟨#[]⟩, .int .i64 0, .int .i64 0, .int .u64 0, .string ⟨#[]⟩] 48)).setRow v8.heap.size vs8) := below_setRow ((Below.refl _ _).alloc (Nat.le_refl _) _) (Nat.le_refl _) _
  replace HR := Lib.hid (lext HR.out hb)
  replace HB := Lib.hid (ext HB.out hb)
  replace HX1 := Lib.hid (msgK_ok.keep HX1.out (fun b hB => hb.block b (Nat.lt_trans hB.2 (row_lt HRX1.out))) (fun _ h => h))
  replace HRX1 := Lib.hid ((hb.block _ (row_lt HRX1.out)).trans HRX1.out)
  replace HX2 := Lib.hid (msgK_ok.keep HX2.out (fun b hB => hb.block b (Nat.lt_trans hB.2 (row_lt HRX2.out))) (fun _ h => h))
  replace HRX2 := Lib.hid ((hb.block _ (row_lt HRX2.out)).trans HRX2.out)
  replace HX3 := Lib.hid (commandK_ok.keep HX3.out (fun b hB => hb.block b (Nat.lt_trans hB.2 (row_lt HRX3.out))) (fun _ h => h))
  replace HRX3 := Lib.hid ((hb.block _ (row_lt HRX3.out)).trans HRX3.out)
  replace HX4 := Lib.hid (commandK_ok.keep HX4.out (fun b hB => hb.block b (Nat.lt_trans hB.2 (row_lt HRX4.out))) (fun _ h => h))
  replace HRX4 := Lib.hid ((hb.block _ (row_lt HRX4.out)).trans HRX4.out)
  replace HX5 := Lib.hid (replyK_ok.keep HX5.out (fun b hB => hb.block b (Nat.lt_trans hB.2 (row_lt HRX5.out))) (fun _ h => h))
  replace HRX5 := Lib.hid ((hb.block _ (row_lt HRX5.out)).trans HRX5.out)
  replace HX6 := Lib.hid (replyK_ok.keep HX6.out (fun b hB => hb.block b (Nat.lt_trans hB.2 (row_lt HRX6.out))) (fun _ h => h))
  replace HRX6 := Lib.hid ((hb.block _ (row_lt HRX6.out)).trans HRX6.out)
  replace HX7 := Lib.hid (askK_ok.keep HX7.out (fun b hB => hb.block b (Nat.lt_trans hB.2 (row_lt HRX7.out))) (fun _ h => h))
  replace HRX7 := Lib.hid ((hb.block _ (row_lt HRX7.out)).trans HRX7.out)
  replace HX8 := Lib.hid (askK_ok.keep HX8.out (fun b hB => hb.block b (hB.2)) (fun _ h => h))
  have HRX8 := Lib.hid (show ((v8.alloc (.cells #[.bool false, .bool false, .int .u64 0, .int .u64 0, .int .u64 0, .int .i64 0, .string ⟨#[]⟩, .int .i64 0, .int .i64 0, .int .u64 0, .string ⟨#[]⟩] 48)).setRow v8.heap.size vs8).heap[v8.heap.size]? = some (.cells vs8 48 (0, 0)) from setRow_heap _ _ _ _ _ _ (heap_alloc_new v8 _))
  clear hb
  go_upto_region 9 with (with_reducible refine wpList_store_row rfl 48 (.tmp 17) (.tmp 69) rfl v8.heap.size vs8 rfl rfl 48 #[.bool false, .bool false, .int .u64 0, .int .u64 0, .int .u64 0, .int .i64 0, .string ⟨#[]⟩, .int .i64 0, .int .i64 0, .int .u64 0, .string ⟨#[]⟩] (heap_alloc_new v8 _) HI.out HV1.out HV2.out ?_)
  generalize (v8.alloc (.cells #[.bool false, .bool false, .int .u64 0, .int .u64 0, .int .u64 0, .int .i64 0, .string ⟨#[]⟩, .int .i64 0, .int .i64 0, .int .u64 0, .string ⟨#[]⟩] 48)).setRow v8.heap.size vs8 = w8 at *
  generalize v8.heap.size = g8 at *
  clear HI HV1 
  have HO8 := HV2
  clear HV2
  have hoa := Own.made w8 w8.heap.size #[] 0 (Nat.le_refl _) (by decide) rfl
  go_wp2_with (at_builtin; refine wpList_app rfl (.tmp 72) (.tmp 73) rfl rfl hoa rfl HN.out (HR.out.alloc (Nat.le_refl _) (.cells #[] 5)) (by have := HN.out; have := HM.out; rw [List.length_nil]; omega) (by rw [World.size_alloc]; exact Nat.le_succ _) ?_)
  intro va9 u9 ho hbq _
  try rw [List.nil_append] at ho
  have hb := (((Below.refl w8.heap.size w8).alloc (Nat.le_refl _) (.cells #[] 5)).trans hbq)
  obtain ⟨A9, c9, rfl, hc9, _, _, hr9, _⟩ := ho.form
  rw [← HN.out] at hc9 ⊢
  have H9 := Lib.hid hr9
  replace HR := Lib.hid (lext HR.out hb)
  replace HB := Lib.hid (ext HB.out hb)
  replace HX1 := Lib.hid (msgK_ok.keep HX1.out (fun b hB => hb.block b (Nat.lt_trans hB.2 (row_lt HRX1.out))) (fun _ h => h))
  replace HRX1 := Lib.hid ((hb.block _ (row_lt HRX1.out)).trans HRX1.out)
  replace HX2 := Lib.hid (msgK_ok.keep HX2.out (fun b hB => hb.block b (Nat.lt_trans hB.2 (row_lt HRX2.out))) (fun _ h => h))
  replace HRX2 := Lib.hid ((hb.block _ (row_lt HRX2.out)).trans HRX2.out)
  replace HX3 := Lib.hid (commandK_ok.keep HX3.out (fun b hB => hb.block b (Nat.lt_trans hB.2 (row_lt HRX3.out))) (fun _ h => h))
  replace HRX3 := Lib.hid ((hb.block _ (row_lt HRX3.out)).trans HRX3.out)
  replace HX4 := Lib.hid (commandK_ok.keep HX4.out (fun b hB => hb.block b (Nat.lt_trans hB.2 (row_lt HRX4.out))) (fun _ h => h))
  replace HRX4 := Lib.hid ((hb.block _ (row_lt HRX4.out)).trans HRX4.out)
  replace HX5 := Lib.hid (replyK_ok.keep HX5.out (fun b hB => hb.block b (Nat.lt_trans hB.2 (row_lt HRX5.out))) (fun _ h => h))
  replace HRX5 := Lib.hid ((hb.block _ (row_lt HRX5.out)).trans HRX5.out)
  replace HX6 := Lib.hid (replyK_ok.keep HX6.out (fun b hB => hb.block b (Nat.lt_trans hB.2 (row_lt HRX6.out))) (fun _ h => h))
  replace HRX6 := Lib.hid ((hb.block _ (row_lt HRX6.out)).trans HRX6.out)
  replace HX7 := Lib.hid (askK_ok.keep HX7.out (fun b hB => hb.block b (Nat.lt_trans hB.2 (row_lt HRX7.out))) (fun _ h => h))
  replace HRX7 := Lib.hid ((hb.block _ (row_lt HRX7.out)).trans HRX7.out)
  replace HX8 := Lib.hid (askK_ok.keep HX8.out (fun b hB => hb.block b (Nat.lt_trans hB.2 (row_lt HRX8.out))) (fun _ h => h))
  replace HRX8 := Lib.hid ((hb.block _ (row_lt HRX8.out)).trans HRX8.out)
  clear hb hbq ho hoa hr9
  have HL9 := Lib.hid (row_lt HRX8.out)
  go_wp2_with fail
  refine (msgToTold_any _ HN.out hc9 (by have := HM.out; omega) H9.out).mono ?_
  rintro e v9 hrd
  obtain ⟨vs9, E4, rfl, hE, hv1, hv2, hrx, hb⟩ := ReadsK.both2 toldK_ok ties_told ask_told toldZ_rep HQ4.out hrd
  have HE4 := Lib.hid hE
  clear hE
  have HG9 := Lib.hid hb.size
  replace HR := Lib.hid (lext HR.out hb)
  replace HB := Lib.hid (ext HB.out hb)
  replace HX1 := Lib.hid (msgK_ok.keep HX1.out (fun b hB => hb.block b (Nat.lt_trans hB.2 (row_lt HRX1.out))) (fun _ h => h))
  replace HRX1 := Lib.hid ((hb.block _ (row_lt HRX1.out)).trans HRX1.out)
  replace HX2 := Lib.hid (msgK_ok.keep HX2.out (fun b hB => hb.block b (Nat.lt_trans hB.2 (row_lt HRX2.out))) (fun _ h => h))
  replace HRX2 := Lib.hid ((hb.block _ (row_lt HRX2.out)).trans HRX2.out)
  replace HX3 := Lib.hid (commandK_ok.keep HX3.out (fun b hB => hb.block b (Nat.lt_trans hB.2 (row_lt HRX3.out))) (fun _ h => h))
  replace HRX3 := Lib.hid ((hb.block _ (row_lt HRX3.out)).trans HRX3.out)
  replace HX4 := Lib.hid (commandK_ok.keep HX4.out (fun b hB => hb.block b (Nat.lt_trans hB.2 (row_lt HRX4.out))) (fun _ h => h))
  replace HRX4 := Lib.hid ((hb.block _ (row_lt HRX4.out)).trans HRX4.out)
  replace HX5 := Lib.hid (replyK_ok.keep HX5.out (fun b hB => hb.block b (Nat.lt_trans hB.2 (row_lt HRX5.out))) (fun _ h => h))
  replace HRX5 := Lib.hid ((hb.block _ (row_lt HRX5.out)).trans HRX5.out)
  replace HX6 := Lib.hid (replyK_ok.keep HX6.out (fun b hB => hb.block b (Nat.lt_trans hB.2 (row_lt HRX6.out))) (fun _ h => h))
  replace HRX6 := Lib.hid ((hb.block _ (row_lt HRX6.out)).trans HRX6.out)
  replace HX7 := Lib.hid (askK_ok.keep HX7.out (fun b hB => hb.block b (Nat.lt_trans hB.2 (row_lt HRX7.out))) (fun _ h => h))
  replace HRX7 := Lib.hid ((hb.block _ (row_lt HRX7.out)).trans HRX7.out)
  replace HX8 := Lib.hid (askK_ok.keep HX8.out (fun b hB => hb.block b (Nat.lt_trans hB.2 (row_lt HRX8.out))) (fun _ h => h))
  replace HRX8 := Lib.hid ((hb.block _ (row_lt HRX8.out)).trans HRX8.out)
  have HX9 := Lib.hid hrx
  have HI := Lib.hid (show (Tryz.prog.info? 54).map (·.size) = some vs9.size by rw [hv1]; exact xt_Told.i)
  have HV1 := Lib.hid (show (#[.int .u64 0, .bool false, .int .i64 0, .int .u64 0, .int .u64 0, .int .i64 0, .int .u64 0, .int .i64 0, .int .i64 0, .int .i64 0, .int .i64 0] : Array Value).size = vs9.size by rw [hv1]; rfl)
  have HV2 := Lib.hid hv2
  have HS9 := Lib.hid (show vs9.size = 11 by rw [hv1]; rfl)
  clear hrd hv1 hv2 hrx hb H9 hc9
  have hb : Below v9.heap.size v9 ((v9.alloc (.cells #[.int .u64 0, .bool false, .int .i64 0, .int .u64 0, .int .u64 0, .int .i64 0, .int .u64 0, .int .i64 0, .int .i64 0, .int .i64 0, .int .i64 0] 54)).setRow v9.heap.size vs9) := below_setRow ((Below.refl _ _).alloc (Nat.le_refl _) _) (Nat.le_refl _) _
  replace HR := Lib.hid (lext HR.out hb)
  replace HB := Lib.hid (ext HB.out hb)
  replace HX1 := Lib.hid (msgK_ok.keep HX1.out (fun b hB => hb.block b (Nat.lt_trans hB.2 (row_lt HRX1.out))) (fun _ h => h))
  replace HRX1 := Lib.hid ((hb.block _ (row_lt HRX1.out)).trans HRX1.out)
  replace HX2 := Lib.hid (msgK_ok.keep HX2.out (fun b hB => hb.block b (Nat.lt_trans hB.2 (row_lt HRX2.out))) (fun _ h => h))
  replace HRX2 := Lib.hid ((hb.block _ (row_lt HRX2.out)).trans HRX2.out)
  replace HX3 := Lib.hid (commandK_ok.keep HX3.out (fun b hB => hb.block b (Nat.lt_trans hB.2 (row_lt HRX3.out))) (fun _ h => h))
  replace HRX3 := Lib.hid ((hb.block _ (row_lt HRX3.out)).trans HRX3.out)
  replace HX4 := Lib.hid (commandK_ok.keep HX4.out (fun b hB => hb.block b (Nat.lt_trans hB.2 (row_lt HRX4.out))) (fun _ h => h))
  replace HRX4 := Lib.hid ((hb.block _ (row_lt HRX4.out)).trans HRX4.out)
  replace HX5 := Lib.hid (replyK_ok.keep HX5.out (fun b hB => hb.block b (Nat.lt_trans hB.2 (row_lt HRX5.out))) (fun _ h => h))
  replace HRX5 := Lib.hid ((hb.block _ (row_lt HRX5.out)).trans HRX5.out)
  replace HX6 := Lib.hid (replyK_ok.keep HX6.out (fun b hB => hb.block b (Nat.lt_trans hB.2 (row_lt HRX6.out))) (fun _ h => h))
  replace HRX6 := Lib.hid ((hb.block _ (row_lt HRX6.out)).trans HRX6.out)
  replace HX7 := Lib.hid (askK_ok.keep HX7.out (fun b hB => hb.block b (Nat.lt_trans hB.2 (row_lt HRX7.out))) (fun _ h => h))
  replace HRX7 := Lib.hid ((hb.block _ (row_lt HRX7.out)).trans HRX7.out)
  replace HX8 := Lib.hid (askK_ok.keep HX8.out (fun b hB => hb.block b (Nat.lt_trans hB.2 (row_lt HRX8.out))) (fun _ h => h))
  replace HRX8 := Lib.hid ((hb.block _ (row_lt HRX8.out)).trans HRX8.out)
  replace HX9 := Lib.hid (toldK_ok.keep HX9.out (fun b hB => hb.block b (hB.2)) (fun _ h => h))
  have HRX9 := Lib.hid (show ((v9.alloc (.cells #[.int .u64 0, .bool false, .int .i64 0, .int .u64 0, .int .u64 0, .int .i64 0, .int .u64 0, .int .i64 0, .int .i64 0, .int .i64 0, .int .i64 0] 54)).setRow v9.heap.size vs9).heap[v9.heap.size]? = some (.cells vs9 54 (0, 0)) from setRow_heap _ _ _ _ _ _ (heap_alloc_new v9 _))
  clear hb
  go_upto_region 10 with (with_reducible refine wpList_store_row rfl 54 (.tmp 19) (.tmp 76) rfl v9.heap.size vs9 rfl rfl 54 #[.int .u64 0, .bool false, .int .i64 0, .int .u64 0, .int .u64 0, .int .i64 0, .int .u64 0, .int .i64 0, .int .i64 0, .int .i64 0, .int .i64 0] (heap_alloc_new v9 _) HI.out HV1.out HV2.out ?_)
  generalize (v9.alloc (.cells #[.int .u64 0, .bool false, .int .i64 0, .int .u64 0, .int .u64 0, .int .i64 0, .int .u64 0, .int .i64 0, .int .i64 0, .int .i64 0, .int .i64 0] 54)).setRow v9.heap.size vs9 = w9 at *
  generalize v9.heap.size = g9 at *
  clear HI HV1 
  have HO9 := HV2
  clear HV2
  have HL10 := Lib.hid (row_lt HRX9.out)
  go_wp2_with fail
  refine (refToTold_any _ HN.out HNC.out (by have := HM.out; omega) HR.out).mono ?_
  rintro e v10 hrd
  obtain ⟨vs10, rfl, hv1, hv2, hrx, hb⟩ := RefTo.both2 toldK_ok HQ4.out hrd
  have HG10 := Lib.hid hb.size
  replace HR := Lib.hid (lext HR.out hb)
  replace HB := Lib.hid (ext HB.out hb)
  replace HX1 := Lib.hid (msgK_ok.keep HX1.out (fun b hB => hb.block b (Nat.lt_trans hB.2 (row_lt HRX1.out))) (fun _ h => h))
  replace HRX1 := Lib.hid ((hb.block _ (row_lt HRX1.out)).trans HRX1.out)
  replace HX2 := Lib.hid (msgK_ok.keep HX2.out (fun b hB => hb.block b (Nat.lt_trans hB.2 (row_lt HRX2.out))) (fun _ h => h))
  replace HRX2 := Lib.hid ((hb.block _ (row_lt HRX2.out)).trans HRX2.out)
  replace HX3 := Lib.hid (commandK_ok.keep HX3.out (fun b hB => hb.block b (Nat.lt_trans hB.2 (row_lt HRX3.out))) (fun _ h => h))
  replace HRX3 := Lib.hid ((hb.block _ (row_lt HRX3.out)).trans HRX3.out)
  replace HX4 := Lib.hid (commandK_ok.keep HX4.out (fun b hB => hb.block b (Nat.lt_trans hB.2 (row_lt HRX4.out))) (fun _ h => h))
  replace HRX4 := Lib.hid ((hb.block _ (row_lt HRX4.out)).trans HRX4.out)
  replace HX5 := Lib.hid (replyK_ok.keep HX5.out (fun b hB => hb.block b (Nat.lt_trans hB.2 (row_lt HRX5.out))) (fun _ h => h))
  replace HRX5 := Lib.hid ((hb.block _ (row_lt HRX5.out)).trans HRX5.out)
  replace HX6 := Lib.hid (replyK_ok.keep HX6.out (fun b hB => hb.block b (Nat.lt_trans hB.2 (row_lt HRX6.out))) (fun _ h => h))
  replace HRX6 := Lib.hid ((hb.block _ (row_lt HRX6.out)).trans HRX6.out)
  replace HX7 := Lib.hid (askK_ok.keep HX7.out (fun b hB => hb.block b (Nat.lt_trans hB.2 (row_lt HRX7.out))) (fun _ h => h))
  replace HRX7 := Lib.hid ((hb.block _ (row_lt HRX7.out)).trans HRX7.out)
  replace HX8 := Lib.hid (askK_ok.keep HX8.out (fun b hB => hb.block b (Nat.lt_trans hB.2 (row_lt HRX8.out))) (fun _ h => h))
  replace HRX8 := Lib.hid ((hb.block _ (row_lt HRX8.out)).trans HRX8.out)
  replace HX9 := Lib.hid (toldK_ok.keep HX9.out (fun b hB => hb.block b (Nat.lt_trans hB.2 (row_lt HRX9.out))) (fun _ h => h))
  replace HRX9 := Lib.hid ((hb.block _ (row_lt HRX9.out)).trans HRX9.out)
  have HX10 := Lib.hid hrx
  have HI := Lib.hid (show (Tryz.prog.info? 54).map (·.size) = some vs10.size by rw [hv1]; exact xt_Told.i)
  have HV1 := Lib.hid (show (#[.int .u64 0, .bool false, .int .i64 0, .int .u64 0, .int .u64 0, .int .i64 0, .int .u64 0, .int .i64 0, .int .i64 0, .int .i64 0, .int .i64 0] : Array Value).size = vs10.size by rw [hv1]; rfl)
  have HV2 := Lib.hid hv2
  have HS10 := Lib.hid (show vs10.size = 11 by rw [hv1]; rfl)
  clear hrd hv1 hv2 hrx hb
  have hb : Below v10.heap.size v10 ((v10.alloc (.cells #[.int .u64 0, .bool false, .int .i64 0, .int .u64 0, .int .u64 0, .int .i64 0, .int .u64 0, .int .i64 0, .int .i64 0, .int .i64 0, .int .i64 0] 54)).setRow v10.heap.size vs10) := below_setRow ((Below.refl _ _).alloc (Nat.le_refl _) _) (Nat.le_refl _) _
  replace HR := Lib.hid (lext HR.out hb)
  replace HB := Lib.hid (ext HB.out hb)
  replace HX1 := Lib.hid (msgK_ok.keep HX1.out (fun b hB => hb.block b (Nat.lt_trans hB.2 (row_lt HRX1.out))) (fun _ h => h))
  replace HRX1 := Lib.hid ((hb.block _ (row_lt HRX1.out)).trans HRX1.out)
  replace HX2 := Lib.hid (msgK_ok.keep HX2.out (fun b hB => hb.block b (Nat.lt_trans hB.2 (row_lt HRX2.out))) (fun _ h => h))
  replace HRX2 := Lib.hid ((hb.block _ (row_lt HRX2.out)).trans HRX2.out)
  replace HX3 := Lib.hid (commandK_ok.keep HX3.out (fun b hB => hb.block b (Nat.lt_trans hB.2 (row_lt HRX3.out))) (fun _ h => h))
  replace HRX3 := Lib.hid ((hb.block _ (row_lt HRX3.out)).trans HRX3.out)
  replace HX4 := Lib.hid (commandK_ok.keep HX4.out (fun b hB => hb.block b (Nat.lt_trans hB.2 (row_lt HRX4.out))) (fun _ h => h))
  replace HRX4 := Lib.hid ((hb.block _ (row_lt HRX4.out)).trans HRX4.out)
  replace HX5 := Lib.hid (replyK_ok.keep HX5.out (fun b hB => hb.block b (Nat.lt_trans hB.2 (row_lt HRX5.out))) (fun _ h => h))
  replace HRX5 := Lib.hid ((hb.block _ (row_lt HRX5.out)).trans HRX5.out)
  replace HX6 := Lib.hid (replyK_ok.keep HX6.out (fun b hB => hb.block b (Nat.lt_trans hB.2 (row_lt HRX6.out))) (fun _ h => h))
  replace HRX6 := Lib.hid ((hb.block _ (row_lt HRX6.out)).trans HRX6.out)
  replace HX7 := Lib.hid (askK_ok.keep HX7.out (fun b hB => hb.block b (Nat.lt_trans hB.2 (row_lt HRX7.out))) (fun _ h => h))
  replace HRX7 := Lib.hid ((hb.block _ (row_lt HRX7.out)).trans HRX7.out)
  replace HX8 := Lib.hid (askK_ok.keep HX8.out (fun b hB => hb.block b (Nat.lt_trans hB.2 (row_lt HRX8.out))) (fun _ h => h))
  replace HRX8 := Lib.hid ((hb.block _ (row_lt HRX8.out)).trans HRX8.out)
  replace HX9 := Lib.hid (toldK_ok.keep HX9.out (fun b hB => hb.block b (Nat.lt_trans hB.2 (row_lt HRX9.out))) (fun _ h => h))
  replace HRX9 := Lib.hid ((hb.block _ (row_lt HRX9.out)).trans HRX9.out)
  replace HX10 := Lib.hid (toldK_ok.keep HX10.out (fun b hB => hb.block b (hB.2)) (fun _ h => h))
  have HRX10 := Lib.hid (show ((v10.alloc (.cells #[.int .u64 0, .bool false, .int .i64 0, .int .u64 0, .int .u64 0, .int .i64 0, .int .u64 0, .int .i64 0, .int .i64 0, .int .i64 0, .int .i64 0] 54)).setRow v10.heap.size vs10).heap[v10.heap.size]? = some (.cells vs10 54 (0, 0)) from setRow_heap _ _ _ _ _ _ (heap_alloc_new v10 _))
  clear hb
  go_upto_region 11 with (with_reducible refine wpList_store_row rfl 54 (.tmp 21) (.tmp 81) rfl v10.heap.size vs10 rfl rfl 54 #[.int .u64 0, .bool false, .int .i64 0, .int .u64 0, .int .u64 0, .int .i64 0, .int .u64 0, .int .i64 0, .int .i64 0, .int .i64 0, .int .i64 0] (heap_alloc_new v10 _) HI.out HV1.out HV2.out ?_)
  generalize (v10.alloc (.cells #[.int .u64 0, .bool false, .int .i64 0, .int .u64 0, .int .u64 0, .int .i64 0, .int .u64 0, .int .i64 0, .int .i64 0, .int .i64 0, .int .i64 0] 54)).setRow v10.heap.size vs10 = w10 at *
  generalize v10.heap.size = g10 at *
  clear HI HV1 
  have HO10 := HV2
  clear HV2
  clear HR
  have HGE := Lib.hid (show w.heap.size ≤ g2 by have oa1 := HL1.out; have ob1 := HG1.out; have oa2 := HL2.out; have ob2 := HG2.out; have oa3 := HL3.out; have ob3 := HG3.out; have oa4 := HL4.out; have ob4 := HG4.out; have oa5 := HL5.out; have ob5 := HG5.out; have oa6 := HL6.out; have ob6 := HG6.out; have oa7 := HL7.out; have ob7 := HG7.out; have oa8 := HL8.out; have ob8 := HG8.out; have oa9 := HL9.out; have ob9 := HG9.out; have oa10 := HL10.out; have ob10 := HG10.out; omega)
  have HI := Lib.hid (show (Tryz.prog.info? 29).map (·.size) = some (#[.int .i64 0, .int .i64 0, .int .i64 0, .int .u64 0, .int .u64 0, .int .u64 0, .int .u64 0, .int .u64 0, .bool false, .slice none 0 0, .slice none 0 0, .slice none 0 0, .int .i64 0, .slice none 0 0] : Array Value).size from xt_Msg.i)
  have HV1 := Lib.hid (show vs2.size = (#[.int .i64 0, .int .i64 0, .int .i64 0, .int .u64 0, .int .u64 0, .int .u64 0, .int .u64 0, .int .u64 0, .bool false, .slice none 0 0, .slice none 0 0, .slice none 0 0, .int .i64 0, .slice none 0 0] : Array Value).size from HS2.out)
  have HV3 := Lib.hid (show (#[.int .i64 0, .int .i64 0, .int .i64 0, .int .u64 0, .int .u64 0, .int .u64 0, .int .u64 0, .int .u64 0, .bool false, .slice none 0 0, .slice none 0 0, .slice none 0 0, .int .i64 0, .slice none 0 0] : Array Value).all (·.oneCell') = true from zone_all msgK_ok)
  go_upto_if 84 with fail
  go_cut [5] (fun s wx => s = .pointer (some ⟨g2, 0, none⟩) ∧ Below w.heap.size w wx ∧ (∀ b, b ≠ g2 → wx.heap[b]? = w10.heap[b]?) ∧ ∃ ys : Array Value, wx.heap[g2]? = some (.cells ys 29 (0, 0)) ∧ ys.size = 14 ∧ msgK.rep wx (Btw w1.heap.size g2) ys.toList (readD msgK pMsgD msgZ b))
  case first =>
    cases hR : R0 with
    | true =>
      have HD := Lib.hid (readD_yes (z := msgZ) (HQ0.out.trans hR))
      replace HB := HB
      subst hR
      simp only [Bool.not_true]
      go_wp2_with fail
      go_meet
      exact ⟨rfl, HB.out, fun _ _ => rfl, vs2, HRX2.out, HS2.out, by rw [HD.out]; exact HX2.out⟩
    | false =>
      have HD := Lib.hid (readD_no (z := msgZ) (HQ0.out.trans hR))
      subst hR
      simp only [Bool.not_false]
      go_wp2_with (with_reducible refine wpList_store_row rfl 29 (.tmp 5) (.tmp 85) rfl g2 #[.int .i64 0, .int .i64 0, .int .i64 0, .int .u64 0, .int .u64 0, .int .u64 0, .int .u64 0, .int .u64 0, .bool false, .slice none 0 0, .slice none 0 0, .slice none 0 0, .int .i64 0, .slice none 0 0] rfl rfl 29 vs2 HRX2.out HI.out HV1.out HV3.out ?_)
      go_meet
      exact ⟨rfl, below_setRow HB.out HGE.out _, fun b hb => setRow_other _ _ b _ hb, #[.int .i64 0, .int .i64 0, .int .i64 0, .int .u64 0, .int .u64 0, .int .u64 0, .int .u64 0, .int .u64 0, .bool false, .slice none 0 0, .slice none 0 0, .slice none 0 0, .int .i64 0, .slice none 0 0], setRow_heap _ _ _ _ _ _ HRX2.out, rfl, by rw [HD.out]; exact msgZ_rep _ _⟩
  obtain ⟨rfl, hb, hE, ys2, hrow, hsz, hrep⟩ := hcut
  have oa1 := HL1.out; have ob1 := HG1.out; have oa2 := HL2.out; have ob2 := HG2.out; have oa3 := HL3.out; have ob3 := HG3.out; have oa4 := HL4.out; have ob4 := HG4.out; have oa5 := HL5.out; have ob5 := HG5.out; have oa6 := HL6.out; have ob6 := HG6.out; have oa7 := HL7.out; have ob7 := HG7.out; have oa8 := HL8.out; have ob8 := HG8.out; have oa9 := HL9.out; have ob9 := HG9.out; have oa10 := HL10.out; have ob10 := HG10.out;
  replace HX1 := Lib.hid (msgK_ok.keep HX1.out (fun b hB => hE b (by have h1 := hB.1; have h2 := hB.2; omega)) (fun _ h => h))
  replace HRX1 := Lib.hid ((hE g1 (by omega)).trans HRX1.out)
  replace HX3 := Lib.hid (commandK_ok.keep HX3.out (fun b hB => hE b (by have h1 := hB.1; have h2 := hB.2; omega)) (fun _ h => h))
  replace HRX3 := Lib.hid ((hE g3 (by omega)).trans HRX3.out)
  replace HX4 := Lib.hid (commandK_ok.keep HX4.out (fun b hB => hE b (by have h1 := hB.1; have h2 := hB.2; omega)) (fun _ h => h))
  replace HRX4 := Lib.hid ((hE g4 (by omega)).trans HRX4.out)
  replace HX5 := Lib.hid (replyK_ok.keep HX5.out (fun b hB => hE b (by have h1 := hB.1; have h2 := hB.2; omega)) (fun _ h => h))
  replace HRX5 := Lib.hid ((hE g5 (by omega)).trans HRX5.out)
  replace HX6 := Lib.hid (replyK_ok.keep HX6.out (fun b hB => hE b (by have h1 := hB.1; have h2 := hB.2; omega)) (fun _ h => h))
  replace HRX6 := Lib.hid ((hE g6 (by omega)).trans HRX6.out)
  replace HX7 := Lib.hid (askK_ok.keep HX7.out (fun b hB => hE b (by have h1 := hB.1; have h2 := hB.2; omega)) (fun _ h => h))
  replace HRX7 := Lib.hid ((hE g7 (by omega)).trans HRX7.out)
  replace HX8 := Lib.hid (askK_ok.keep HX8.out (fun b hB => hE b (by have h1 := hB.1; have h2 := hB.2; omega)) (fun _ h => h))
  replace HRX8 := Lib.hid ((hE g8 (by omega)).trans HRX8.out)
  replace HX9 := Lib.hid (toldK_ok.keep HX9.out (fun b hB => hE b (by have h1 := hB.1; have h2 := hB.2; omega)) (fun _ h => h))
  replace HRX9 := Lib.hid ((hE g9 (by omega)).trans HRX9.out)
  replace HX10 := Lib.hid (toldK_ok.keep HX10.out (fun b hB => hE b (by have h1 := hB.1; have h2 := hB.2; omega)) (fun _ h => h))
  replace HRX10 := Lib.hid ((hE g10 (by omega)).trans HRX10.out)
  replace HX2 := Lib.hid hrep
  replace HRX2 := Lib.hid hrow
  replace HS2 := Lib.hid hsz
  replace HB := Lib.hid hb
  clear hb hE hrow hsz hrep HGE HI HV1 HV3 oa1 ob1 oa2 ob2 oa3 ob3 oa4 ob4 oa5 ob5 oa6 ob6 oa7 ob7 oa8 ob8 oa9 ob9 oa10 ob10
  generalize wc = x0 at *
  have HGE := Lib.hid (show w.heap.size ≤ g4 by have oa1 := HL1.out; have ob1 := HG1.out; have oa2 := HL2.out; have ob2 := HG2.out; have oa3 := HL3.out; have ob3 := HG3.out; have oa4 := HL4.out; have ob4 := HG4.out; have oa5 := HL5.out; have ob5 := HG5.out; have oa6 := HL6.out; have ob6 := HG6.out; have oa7 := HL7.out; have ob7 := HG7.out; have oa8 := HL8.out; have ob8 := HG8.out; have oa9 := HL9.out; have ob9 := HG9.out; have oa10 := HL10.out; have ob10 := HG10.out; omega)
  have HI := Lib.hid (show (Tryz.prog.info? 36).map (·.size) = some (#[.int .u64 0, .int .u64 0, .int .i64 0, .string ⟨#[]⟩, .int .i64 0, .int .i64 0, .int .u64 0] : Array Value).size from xt_Command.i)
  have HV1 := Lib.hid (show vs4.size = (#[.int .u64 0, .int .u64 0, .int .i64 0, .string ⟨#[]⟩, .int .i64 0, .int .i64 0, .int .u64 0] : Array Value).size from HS4.out)
  have HV3 := Lib.hid (show (#[.int .u64 0, .int .u64 0, .int .i64 0, .string ⟨#[]⟩, .int .i64 0, .int .i64 0, .int .u64 0] : Array Value).all (·.oneCell') = true from zone_all commandK_ok)
  go_upto_if 87 with fail
  go_cut [9] (fun s wx => s = .pointer (some ⟨g4, 0, none⟩) ∧ Below w.heap.size w wx ∧ (∀ b, b ≠ g4 → wx.heap[b]? = x0.heap[b]?) ∧ ∃ ys : Array Value, wx.heap[g4]? = some (.cells ys 36 (0, 0)) ∧ ys.size = 7 ∧ commandK.rep wx (Btw w3.heap.size g4) ys.toList (readD commandK pCommandD commandZ b))
  case first =>
    cases hR : R1 with
    | true =>
      have HD := Lib.hid (readD_yes (z := commandZ) (HQ1.out.trans hR))
      replace HB := HB
      subst hR
      simp only [Bool.not_true]
      go_wp2_with fail
      go_meet
      exact ⟨rfl, HB.out, fun _ _ => rfl, vs4, HRX4.out, HS4.out, by rw [HD.out]; exact HX4.out⟩
    | false =>
      have HD := Lib.hid (readD_no (z := commandZ) (HQ1.out.trans hR))
      subst hR
      simp only [Bool.not_false]
      go_wp2_with (with_reducible refine wpList_store_row rfl 36 (.tmp 9) (.tmp 88) rfl g4 #[.int .u64 0, .int .u64 0, .int .i64 0, .string ⟨#[]⟩, .int .i64 0, .int .i64 0, .int .u64 0] rfl rfl 36 vs4 HRX4.out HI.out HV1.out HV3.out ?_)
      go_meet
      exact ⟨rfl, below_setRow HB.out HGE.out _, fun b hb => setRow_other _ _ b _ hb, #[.int .u64 0, .int .u64 0, .int .i64 0, .string ⟨#[]⟩, .int .i64 0, .int .i64 0, .int .u64 0], setRow_heap _ _ _ _ _ _ HRX4.out, rfl, by rw [HD.out]; exact commandZ_rep _ _⟩
  obtain ⟨rfl, hb, hE, ys4, hrow, hsz, hrep⟩ := hcut
  have oa1 := HL1.out; have ob1 := HG1.out; have oa2 := HL2.out; have ob2 := HG2.out; have oa3 := HL3.out; have ob3 := HG3.out; have oa4 := HL4.out; have ob4 := HG4.out; have oa5 := HL5.out; have ob5 := HG5.out; have oa6 := HL6.out; have ob6 := HG6.out; have oa7 := HL7.out; have ob7 := HG7.out; have oa8 := HL8.out; have ob8 := HG8.out; have oa9 := HL9.out; have ob9 := HG9.out; have oa10 := HL10.out; have ob10 := HG10.out;
  replace HX1 := Lib.hid (msgK_ok.keep HX1.out (fun b hB => hE b (by have h1 := hB.1; have h2 := hB.2; omega)) (fun _ h => h))
  replace HRX1 := Lib.hid ((hE g1 (by omega)).trans HRX1.out)
  replace HX2 := Lib.hid (msgK_ok.keep HX2.out (fun b hB => hE b (by have h1 := hB.1; have h2 := hB.2; omega)) (fun _ h => h))
  replace HRX2 := Lib.hid ((hE g2 (by omega)).trans HRX2.out)
  replace HX3 := Lib.hid (commandK_ok.keep HX3.out (fun b hB => hE b (by have h1 := hB.1; have h2 := hB.2; omega)) (fun _ h => h))
  replace HRX3 := Lib.hid ((hE g3 (by omega)).trans HRX3.out)
  replace HX5 := Lib.hid (replyK_ok.keep HX5.out (fun b hB => hE b (by have h1 := hB.1; have h2 := hB.2; omega)) (fun _ h => h))
  replace HRX5 := Lib.hid ((hE g5 (by omega)).trans HRX5.out)
  replace HX6 := Lib.hid (replyK_ok.keep HX6.out (fun b hB => hE b (by have h1 := hB.1; have h2 := hB.2; omega)) (fun _ h => h))
  replace HRX6 := Lib.hid ((hE g6 (by omega)).trans HRX6.out)
  replace HX7 := Lib.hid (askK_ok.keep HX7.out (fun b hB => hE b (by have h1 := hB.1; have h2 := hB.2; omega)) (fun _ h => h))
  replace HRX7 := Lib.hid ((hE g7 (by omega)).trans HRX7.out)
  replace HX8 := Lib.hid (askK_ok.keep HX8.out (fun b hB => hE b (by have h1 := hB.1; have h2 := hB.2; omega)) (fun _ h => h))
  replace HRX8 := Lib.hid ((hE g8 (by omega)).trans HRX8.out)
  replace HX9 := Lib.hid (toldK_ok.keep HX9.out (fun b hB => hE b (by have h1 := hB.1; have h2 := hB.2; omega)) (fun _ h => h))
  replace HRX9 := Lib.hid ((hE g9 (by omega)).trans HRX9.out)
  replace HX10 := Lib.hid (toldK_ok.keep HX10.out (fun b hB => hE b (by have h1 := hB.1; have h2 := hB.2; omega)) (fun _ h => h))
  replace HRX10 := Lib.hid ((hE g10 (by omega)).trans HRX10.out)
  replace HX4 := Lib.hid hrep
  replace HRX4 := Lib.hid hrow
  replace HS4 := Lib.hid hsz
  replace HB := Lib.hid hb
  clear hb hE hrow hsz hrep HGE HI HV1 HV3 oa1 ob1 oa2 ob2 oa3 ob3 oa4 ob4 oa5 ob5 oa6 ob6 oa7 ob7 oa8 ob8 oa9 ob9 oa10 ob10
  generalize wc = x1 at *
  have HGE := Lib.hid (show w.heap.size ≤ g6 by have oa1 := HL1.out; have ob1 := HG1.out; have oa2 := HL2.out; have ob2 := HG2.out; have oa3 := HL3.out; have ob3 := HG3.out; have oa4 := HL4.out; have ob4 := HG4.out; have oa5 := HL5.out; have ob5 := HG5.out; have oa6 := HL6.out; have ob6 := HG6.out; have oa7 := HL7.out; have ob7 := HG7.out; have oa8 := HL8.out; have ob8 := HG8.out; have oa9 := HL9.out; have ob9 := HG9.out; have oa10 := HL10.out; have ob10 := HG10.out; omega)
  have HI := Lib.hid (show (Tryz.prog.info? 42).map (·.size) = some (#[.int .u64 0, .int .u64 0, .int .i64 0, .int .u64 0, .int .i64 0, .int .i64 0] : Array Value).size from xt_Reply.i)
  have HV1 := Lib.hid (show vs6.size = (#[.int .u64 0, .int .u64 0, .int .i64 0, .int .u64 0, .int .i64 0, .int .i64 0] : Array Value).size from HS6.out)
  have HV3 := Lib.hid (show (#[.int .u64 0, .int .u64 0, .int .i64 0, .int .u64 0, .int .i64 0, .int .i64 0] : Array Value).all (·.oneCell') = true from zone_all replyK_ok)
  go_upto_if 90 with fail
  go_cut [13] (fun s wx => s = .pointer (some ⟨g6, 0, none⟩) ∧ Below w.heap.size w wx ∧ (∀ b, b ≠ g6 → wx.heap[b]? = x1.heap[b]?) ∧ ∃ ys : Array Value, wx.heap[g6]? = some (.cells ys 42 (0, 0)) ∧ ys.size = 6 ∧ replyK.rep wx (Btw w5.heap.size g6) ys.toList (readD replyK pReplyD replyZ b))
  case first =>
    cases hR : R2 with
    | true =>
      have HD := Lib.hid (readD_yes (z := replyZ) (HQ2.out.trans hR))
      replace HB := HB
      subst hR
      simp only [Bool.not_true]
      go_wp2_with fail
      go_meet
      exact ⟨rfl, HB.out, fun _ _ => rfl, vs6, HRX6.out, HS6.out, by rw [HD.out]; exact HX6.out⟩
    | false =>
      have HD := Lib.hid (readD_no (z := replyZ) (HQ2.out.trans hR))
      subst hR
      simp only [Bool.not_false]
      go_wp2_with (with_reducible refine wpList_store_row rfl 42 (.tmp 13) (.tmp 91) rfl g6 #[.int .u64 0, .int .u64 0, .int .i64 0, .int .u64 0, .int .i64 0, .int .i64 0] rfl rfl 42 vs6 HRX6.out HI.out HV1.out HV3.out ?_)
      go_meet
      exact ⟨rfl, below_setRow HB.out HGE.out _, fun b hb => setRow_other _ _ b _ hb, #[.int .u64 0, .int .u64 0, .int .i64 0, .int .u64 0, .int .i64 0, .int .i64 0], setRow_heap _ _ _ _ _ _ HRX6.out, rfl, by rw [HD.out]; exact replyZ_rep _ _⟩
  obtain ⟨rfl, hb, hE, ys6, hrow, hsz, hrep⟩ := hcut
  have oa1 := HL1.out; have ob1 := HG1.out; have oa2 := HL2.out; have ob2 := HG2.out; have oa3 := HL3.out; have ob3 := HG3.out; have oa4 := HL4.out; have ob4 := HG4.out; have oa5 := HL5.out; have ob5 := HG5.out; have oa6 := HL6.out; have ob6 := HG6.out; have oa7 := HL7.out; have ob7 := HG7.out; have oa8 := HL8.out; have ob8 := HG8.out; have oa9 := HL9.out; have ob9 := HG9.out; have oa10 := HL10.out; have ob10 := HG10.out;
  replace HX1 := Lib.hid (msgK_ok.keep HX1.out (fun b hB => hE b (by have h1 := hB.1; have h2 := hB.2; omega)) (fun _ h => h))
  replace HRX1 := Lib.hid ((hE g1 (by omega)).trans HRX1.out)
  replace HX2 := Lib.hid (msgK_ok.keep HX2.out (fun b hB => hE b (by have h1 := hB.1; have h2 := hB.2; omega)) (fun _ h => h))
  replace HRX2 := Lib.hid ((hE g2 (by omega)).trans HRX2.out)
  replace HX3 := Lib.hid (commandK_ok.keep HX3.out (fun b hB => hE b (by have h1 := hB.1; have h2 := hB.2; omega)) (fun _ h => h))
  replace HRX3 := Lib.hid ((hE g3 (by omega)).trans HRX3.out)
  replace HX4 := Lib.hid (commandK_ok.keep HX4.out (fun b hB => hE b (by have h1 := hB.1; have h2 := hB.2; omega)) (fun _ h => h))
  replace HRX4 := Lib.hid ((hE g4 (by omega)).trans HRX4.out)
  replace HX5 := Lib.hid (replyK_ok.keep HX5.out (fun b hB => hE b (by have h1 := hB.1; have h2 := hB.2; omega)) (fun _ h => h))
  replace HRX5 := Lib.hid ((hE g5 (by omega)).trans HRX5.out)
  replace HX7 := Lib.hid (askK_ok.keep HX7.out (fun b hB => hE b (by have h1 := hB.1; have h2 := hB.2; omega)) (fun _ h => h))
  replace HRX7 := Lib.hid ((hE g7 (by omega)).trans HRX7.out)
  replace HX8 := Lib.hid (askK_ok.keep HX8.out (fun b hB => hE b (by have h1 := hB.1; have h2 := hB.2; omega)) (fun _ h => h))
  replace HRX8 := Lib.hid ((hE g8 (by omega)).trans HRX8.out)
  replace HX9 := Lib.hid (toldK_ok.keep HX9.out (fun b hB => hE b (by have h1 := hB.1; have h2 := hB.2; omega)) (fun _ h => h))
  replace HRX9 := Lib.hid ((hE g9 (by omega)).trans HRX9.out)
  replace HX10 := Lib.hid (toldK_ok.keep HX10.out (fun b hB => hE b (by have h1 := hB.1; have h2 := hB.2; omega)) (fun _ h => h))
  replace HRX10 := Lib.hid ((hE g10 (by omega)).trans HRX10.out)
  replace HX6 := Lib.hid hrep
  replace HRX6 := Lib.hid hrow
  replace HS6 := Lib.hid hsz
  replace HB := Lib.hid hb
  clear hb hE hrow hsz hrep HGE HI HV1 HV3 oa1 ob1 oa2 ob2 oa3 ob3 oa4 ob4 oa5 ob5 oa6 ob6 oa7 ob7 oa8 ob8 oa9 ob9 oa10 ob10
  generalize wc = x2 at *
  have HGE := Lib.hid (show w.heap.size ≤ g8 by have oa1 := HL1.out; have ob1 := HG1.out; have oa2 := HL2.out; have ob2 := HG2.out; have oa3 := HL3.out; have ob3 := HG3.out; have oa4 := HL4.out; have ob4 := HG4.out; have oa5 := HL5.out; have ob5 := HG5.out; have oa6 := HL6.out; have ob6 := HG6.out; have oa7 := HL7.out; have ob7 := HG7.out; have oa8 := HL8.out; have ob8 := HG8.out; have oa9 := HL9.out; have ob9 := HG9.out; have oa10 := HL10.out; have ob10 := HG10.out; omega)
  have HI := Lib.hid (show (Tryz.prog.info? 48).map (·.size) = some (#[.bool false, .bool false, .int .u64 0, .int .u64 0, .int .u64 0, .int .i64 0, .string ⟨#[]⟩, .int .i64 0, .int .i64 0, .int .u64 0, .string ⟨#[]⟩] : Array Value).size from xt_Ask.i)
  have HV1 := Lib.hid (show vs8.size = (#[.bool false, .bool false, .int .u64 0, .int .u64 0, .int .u64 0, .int .i64 0, .string ⟨#[]⟩, .int .i64 0, .int .i64 0, .int .u64 0, .string ⟨#[]⟩] : Array Value).size from HS8.out)
  have HV3 := Lib.hid (show (#[.bool false, .bool false, .int .u64 0, .int .u64 0, .int .u64 0, .int .i64 0, .string ⟨#[]⟩, .int .i64 0, .int .i64 0, .int .u64 0, .string ⟨#[]⟩] : Array Value).all (·.oneCell') = true from zone_all askK_ok)
  go_upto_if 93 with fail
  go_cut [17] (fun s wx => s = .pointer (some ⟨g8, 0, none⟩) ∧ Below w.heap.size w wx ∧ (∀ b, b ≠ g8 → wx.heap[b]? = x2.heap[b]?) ∧ ∃ ys : Array Value, wx.heap[g8]? = some (.cells ys 48 (0, 0)) ∧ ys.size = 11 ∧ askK.rep wx (Btw w7.heap.size g8) ys.toList (readD askK pAskD askZ b))
  case first =>
    cases hR : R3 with
    | true =>
      have HD := Lib.hid (readD_yes (z := askZ) (HQ3.out.trans hR))
      replace HB := HB
      subst hR
      simp only [Bool.not_true]
      go_wp2_with fail
      go_meet
      exact ⟨rfl, HB.out, fun _ _ => rfl, vs8, HRX8.out, HS8.out, by rw [HD.out]; exact HX8.out⟩
    | false =>
      have HD := Lib.hid (readD_no (z := askZ) (HQ3.out.trans hR))
      subst hR
      simp only [Bool.not_false]
      go_wp2_with (with_reducible refine wpList_store_row rfl 48 (.tmp 17) (.tmp 94) rfl g8 #[.bool false, .bool false, .int .u64 0, .int .u64 0, .int .u64 0, .int .i64 0, .string ⟨#[]⟩, .int .i64 0, .int .i64 0, .int .u64 0, .string ⟨#[]⟩] rfl rfl 48 vs8 HRX8.out HI.out HV1.out HV3.out ?_)
      go_meet
      exact ⟨rfl, below_setRow HB.out HGE.out _, fun b hb => setRow_other _ _ b _ hb, #[.bool false, .bool false, .int .u64 0, .int .u64 0, .int .u64 0, .int .i64 0, .string ⟨#[]⟩, .int .i64 0, .int .i64 0, .int .u64 0, .string ⟨#[]⟩], setRow_heap _ _ _ _ _ _ HRX8.out, rfl, by rw [HD.out]; exact askZ_rep _ _⟩
  obtain ⟨rfl, hb, hE, ys8, hrow, hsz, hrep⟩ := hcut
  have oa1 := HL1.out; have ob1 := HG1.out; have oa2 := HL2.out; have ob2 := HG2.out; have oa3 := HL3.out; have ob3 := HG3.out; have oa4 := HL4.out; have ob4 := HG4.out; have oa5 := HL5.out; have ob5 := HG5.out; have oa6 := HL6.out; have ob6 := HG6.out; have oa7 := HL7.out; have ob7 := HG7.out; have oa8 := HL8.out; have ob8 := HG8.out; have oa9 := HL9.out; have ob9 := HG9.out; have oa10 := HL10.out; have ob10 := HG10.out;
  replace HX1 := Lib.hid (msgK_ok.keep HX1.out (fun b hB => hE b (by have h1 := hB.1; have h2 := hB.2; omega)) (fun _ h => h))
  replace HRX1 := Lib.hid ((hE g1 (by omega)).trans HRX1.out)
  replace HX2 := Lib.hid (msgK_ok.keep HX2.out (fun b hB => hE b (by have h1 := hB.1; have h2 := hB.2; omega)) (fun _ h => h))
  replace HRX2 := Lib.hid ((hE g2 (by omega)).trans HRX2.out)
  replace HX3 := Lib.hid (commandK_ok.keep HX3.out (fun b hB => hE b (by have h1 := hB.1; have h2 := hB.2; omega)) (fun _ h => h))
  replace HRX3 := Lib.hid ((hE g3 (by omega)).trans HRX3.out)
  replace HX4 := Lib.hid (commandK_ok.keep HX4.out (fun b hB => hE b (by have h1 := hB.1; have h2 := hB.2; omega)) (fun _ h => h))
  replace HRX4 := Lib.hid ((hE g4 (by omega)).trans HRX4.out)
  replace HX5 := Lib.hid (replyK_ok.keep HX5.out (fun b hB => hE b (by have h1 := hB.1; have h2 := hB.2; omega)) (fun _ h => h))
  replace HRX5 := Lib.hid ((hE g5 (by omega)).trans HRX5.out)
  replace HX6 := Lib.hid (replyK_ok.keep HX6.out (fun b hB => hE b (by have h1 := hB.1; have h2 := hB.2; omega)) (fun _ h => h))
  replace HRX6 := Lib.hid ((hE g6 (by omega)).trans HRX6.out)
  replace HX7 := Lib.hid (askK_ok.keep HX7.out (fun b hB => hE b (by have h1 := hB.1; have h2 := hB.2; omega)) (fun _ h => h))
  replace HRX7 := Lib.hid ((hE g7 (by omega)).trans HRX7.out)
  replace HX9 := Lib.hid (toldK_ok.keep HX9.out (fun b hB => hE b (by have h1 := hB.1; have h2 := hB.2; omega)) (fun _ h => h))
  replace HRX9 := Lib.hid ((hE g9 (by omega)).trans HRX9.out)
  replace HX10 := Lib.hid (toldK_ok.keep HX10.out (fun b hB => hE b (by have h1 := hB.1; have h2 := hB.2; omega)) (fun _ h => h))
  replace HRX10 := Lib.hid ((hE g10 (by omega)).trans HRX10.out)
  replace HX8 := Lib.hid hrep
  replace HRX8 := Lib.hid hrow
  replace HS8 := Lib.hid hsz
  replace HB := Lib.hid hb
  clear hb hE hrow hsz hrep HGE HI HV1 HV3 oa1 ob1 oa2 ob2 oa3 ob3 oa4 ob4 oa5 ob5 oa6 ob6 oa7 ob7 oa8 ob8 oa9 ob9 oa10 ob10
  generalize wc = x3 at *
  have HGE := Lib.hid (show w.heap.size ≤ g10 by have oa1 := HL1.out; have ob1 := HG1.out; have oa2 := HL2.out; have ob2 := HG2.out; have oa3 := HL3.out; have ob3 := HG3.out; have oa4 := HL4.out; have ob4 := HG4.out; have oa5 := HL5.out; have ob5 := HG5.out; have oa6 := HL6.out; have ob6 := HG6.out; have oa7 := HL7.out; have ob7 := HG7.out; have oa8 := HL8.out; have ob8 := HG8.out; have oa9 := HL9.out; have ob9 := HG9.out; have oa10 := HL10.out; have ob10 := HG10.out; omega)
  have HI := Lib.hid (show (Tryz.prog.info? 54).map (·.size) = some (#[.int .u64 0, .bool false, .int .i64 0, .int .u64 0, .int .u64 0, .int .i64 0, .int .u64 0, .int .i64 0, .int .i64 0, .int .i64 0, .int .i64 0] : Array Value).size from xt_Told.i)
  have HV1 := Lib.hid (show vs10.size = (#[.int .u64 0, .bool false, .int .i64 0, .int .u64 0, .int .u64 0, .int .i64 0, .int .u64 0, .int .i64 0, .int .i64 0, .int .i64 0, .int .i64 0] : Array Value).size from HS10.out)
  have HV3 := Lib.hid (show (#[.int .u64 0, .bool false, .int .i64 0, .int .u64 0, .int .u64 0, .int .i64 0, .int .u64 0, .int .i64 0, .int .i64 0, .int .i64 0, .int .i64 0] : Array Value).all (·.oneCell') = true from zone_all toldK_ok)
  go_upto_if 96 with fail
  go_cut [21] (fun s wx => s = .pointer (some ⟨g10, 0, none⟩) ∧ Below w.heap.size w wx ∧ (∀ b, b ≠ g10 → wx.heap[b]? = x3.heap[b]?) ∧ ∃ ys : Array Value, wx.heap[g10]? = some (.cells ys 54 (0, 0)) ∧ ys.size = 11 ∧ toldK.rep wx (Btw w9.heap.size g10) ys.toList (readD toldK pToldD toldZ b))
  case first =>
    cases hR : R4 with
    | true =>
      have HD := Lib.hid (readD_yes (z := toldZ) (HQ4.out.trans hR))
      replace HB := HB
      subst hR
      simp only [Bool.not_true]
      go_wp2_with fail
      go_meet
      exact ⟨rfl, HB.out, fun _ _ => rfl, vs10, HRX10.out, HS10.out, by rw [HD.out]; exact HX10.out⟩
    | false =>
      have HD := Lib.hid (readD_no (z := toldZ) (HQ4.out.trans hR))
      subst hR
      simp only [Bool.not_false]
      go_wp2_with (with_reducible refine wpList_store_row rfl 54 (.tmp 21) (.tmp 97) rfl g10 #[.int .u64 0, .bool false, .int .i64 0, .int .u64 0, .int .u64 0, .int .i64 0, .int .u64 0, .int .i64 0, .int .i64 0, .int .i64 0, .int .i64 0] rfl rfl 54 vs10 HRX10.out HI.out HV1.out HV3.out ?_)
      go_meet
      exact ⟨rfl, below_setRow HB.out HGE.out _, fun b hb => setRow_other _ _ b _ hb, #[.int .u64 0, .bool false, .int .i64 0, .int .u64 0, .int .u64 0, .int .i64 0, .int .u64 0, .int .i64 0, .int .i64 0, .int .i64 0, .int .i64 0], setRow_heap _ _ _ _ _ _ HRX10.out, rfl, by rw [HD.out]; exact toldZ_rep _ _⟩
  obtain ⟨rfl, hb, hE, ys10, hrow, hsz, hrep⟩ := hcut
  have oa1 := HL1.out; have ob1 := HG1.out; have oa2 := HL2.out; have ob2 := HG2.out; have oa3 := HL3.out; have ob3 := HG3.out; have oa4 := HL4.out; have ob4 := HG4.out; have oa5 := HL5.out; have ob5 := HG5.out; have oa6 := HL6.out; have ob6 := HG6.out; have oa7 := HL7.out; have ob7 := HG7.out; have oa8 := HL8.out; have ob8 := HG8.out; have oa9 := HL9.out; have ob9 := HG9.out; have oa10 := HL10.out; have ob10 := HG10.out;
  replace HX1 := Lib.hid (msgK_ok.keep HX1.out (fun b hB => hE b (by have h1 := hB.1; have h2 := hB.2; omega)) (fun _ h => h))
  replace HRX1 := Lib.hid ((hE g1 (by omega)).trans HRX1.out)
  replace HX2 := Lib.hid (msgK_ok.keep HX2.out (fun b hB => hE b (by have h1 := hB.1; have h2 := hB.2; omega)) (fun _ h => h))
  replace HRX2 := Lib.hid ((hE g2 (by omega)).trans HRX2.out)
  replace HX3 := Lib.hid (commandK_ok.keep HX3.out (fun b hB => hE b (by have h1 := hB.1; have h2 := hB.2; omega)) (fun _ h => h))
  replace HRX3 := Lib.hid ((hE g3 (by omega)).trans HRX3.out)
  replace HX4 := Lib.hid (commandK_ok.keep HX4.out (fun b hB => hE b (by have h1 := hB.1; have h2 := hB.2; omega)) (fun _ h => h))
  replace HRX4 := Lib.hid ((hE g4 (by omega)).trans HRX4.out)
  replace HX5 := Lib.hid (replyK_ok.keep HX5.out (fun b hB => hE b (by have h1 := hB.1; have h2 := hB.2; omega)) (fun _ h => h))
  replace HRX5 := Lib.hid ((hE g5 (by omega)).trans HRX5.out)
  replace HX6 := Lib.hid (replyK_ok.keep HX6.out (fun b hB => hE b (by have h1 := hB.1; have h2 := hB.2; omega)) (fun _ h => h))
  replace HRX6 := Lib.hid ((hE g6 (by omega)).trans HRX6.out)
  replace HX7 := Lib.hid (askK_ok.keep HX7.out (fun b hB => hE b (by have h1 := hB.1; have h2 := hB.2; omega)) (fun _ h => h))
  replace HRX7 := Lib.hid ((hE g7 (by omega)).trans HRX7.out)
  replace HX8 := Lib.hid (askK_ok.keep HX8.out (fun b hB => hE b (by have h1 := hB.1; have h2 := hB.2; omega)) (fun _ h => h))
  replace HRX8 := Lib.hid ((hE g8 (by omega)).trans HRX8.out)
  replace HX9 := Lib.hid (toldK_ok.keep HX9.out (fun b hB => hE b (by have h1 := hB.1; have h2 := hB.2; omega)) (fun _ h => h))
  replace HRX9 := Lib.hid ((hE g9 (by omega)).trans HRX9.out)
  replace HX10 := Lib.hid hrep
  replace HRX10 := Lib.hid hrow
  replace HS10 := Lib.hid hsz
  replace HB := Lib.hid hb
  clear hb hE hrow hsz hrep HGE HI HV1 HV3 oa1 ob1 oa2 ob2 oa3 ob3 oa4 ob4 oa5 ob5 oa6 ob6 oa7 ob7 oa8 ob8 oa9 ob9 oa10 ob10
  generalize wc = x4 at *
  obtain ⟨l1⟩ := vs1
  obtain ⟨y1x0, y1x1, y1x2, y1x3, y1x4, y1x5, y1x6, y1x7, y1x8, y1x9, y1x10, y1x11, y1x12, y1x13, hvl⟩ := list14 (show l1.length = 14 from HS1.out)
  have hvl' : l1 = [y1x0, y1x1, y1x2, y1x3, y1x4, y1x5, y1x6, y1x7, y1x8, y1x9, y1x10, y1x11, y1x12, y1x13] := hvl
  subst hvl'
  clear hvl
  obtain ⟨l2⟩ := ys2
  obtain ⟨y2x0, y2x1, y2x2, y2x3, y2x4, y2x5, y2x6, y2x7, y2x8, y2x9, y2x10, y2x11, y2x12, y2x13, hvl⟩ := list14 (show l2.length = 14 from HS2.out)
  have hvl' : l2 = [y2x0, y2x1, y2x2, y2x3, y2x4, y2x5, y2x6, y2x7, y2x8, y2x9, y2x10, y2x11, y2x12, y2x13] := hvl
  subst hvl'
  clear hvl
  have htw := command_twin HX3.out HX4.out
  obtain ⟨se1, sq1, op1, ke1, am1, sp1, le1, hv7, _⟩ := command_shape HX3.out
  obtain ⟨l3⟩ := vs3
  obtain ⟨l4⟩ := ys4
  have htw' : l4 = l3 := htw
  have hv7' : l3 = [.int .u64 (se1 : Int), .int .u64 (sq1 : Int), .int .i64 op1, .string (str ke1), .int .i64 am1, .int .i64 sp1, .int .u64 (le1 : Int)] := hv7
  subst htw'
  subst hv7'
  clear htw hv7
  have htw := reply_twin HX5.out HX6.out
  obtain ⟨se2, sq2, er2, lz2, am2, un2, hv7, _⟩ := reply_shape HX5.out
  obtain ⟨l5⟩ := vs5
  obtain ⟨l6⟩ := ys6
  have htw' : l6 = l5 := htw
  have hv7' : l5 = [.int .u64 (se2 : Int), .int .u64 (sq2 : Int), .int .i64 er2, .int .u64 (lz2 : Int), .int .i64 am2, .int .i64 un2] := hv7
  subst htw'
  subst hv7'
  clear htw hv7
  have htw := ask_twin HX7.out HX8.out
  obtain ⟨lk3, ly3, aq3, se3, sq3, op3, ke3, am3, sp3, le3, ak3, hv7, _⟩ := askK_shape HX7.out
  obtain ⟨l7⟩ := vs7
  obtain ⟨l8⟩ := ys8
  have htw' : l8 = l7 := htw
  have hv7' : l7 = [.bool lk3, .bool ly3, .int .u64 (aq3 : Int), .int .u64 (se3 : Int), .int .u64 (sq3 : Int), .int .i64 op3, .string (str ke3), .int .i64 am3, .int .i64 sp3, .int .u64 (le3 : Int), .string (str ak3)] := hv7
  subst htw'
  subst hv7'
  clear htw hv7
  have htw := told_twin HX9.out HX10.out
  obtain ⟨tq4, rt4, ld4, se4, sq4, er4, lz4, am4, un4, cp4, ln4, hv7, _⟩ := told_shape HX9.out
  obtain ⟨l9⟩ := vs9
  obtain ⟨l10⟩ := ys10
  have htw' : l10 = l9 := htw
  have hv7' : l9 = [.int .u64 (tq4 : Int), .bool rt4, .int .i64 ld4, .int .u64 (se4 : Int), .int .u64 (sq4 : Int), .int .i64 er4, .int .u64 (lz4 : Int), .int .i64 am4, .int .i64 un4, .int .i64 cp4, .int .i64 ln4] := hv7
  subst htw'
  subst hv7'
  clear htw hv7
  have HC := Lib.hid (fun w' (_ : Below x4.heap.size x4 w') => answers3_yes w')
  go_wp2_with fail
  refine (answers3_yes _).mono ?_
  rintro e z0 ⟨rfl, hb⟩
  replace HB := Lib.hid (ext HB.out hb)
  replace HX1 := Lib.hid (msgK_ok.keep HX1.out (fun b hB => hb.block b (Nat.lt_trans hB.2 (row_lt HRX1.out))) (fun _ h => h))
  replace HRX1 := Lib.hid ((hb.block _ (row_lt HRX1.out)).trans HRX1.out)
  replace HX2 := Lib.hid (msgK_ok.keep HX2.out (fun b hB => hb.block b (Nat.lt_trans hB.2 (row_lt HRX2.out))) (fun _ h => h))
  replace HRX2 := Lib.hid ((hb.block _ (row_lt HRX2.out)).trans HRX2.out)
  replace HX3 := Lib.hid (commandK_ok.keep HX3.out (fun b hB => hb.block b (Nat.lt_trans hB.2 (row_lt HRX3.out))) (fun _ h => h))
  replace HRX3 := Lib.hid ((hb.block _ (row_lt HRX3.out)).trans HRX3.out)
  replace HX4 := Lib.hid (commandK_ok.keep HX4.out (fun b hB => hb.block b (Nat.lt_trans hB.2 (row_lt HRX4.out))) (fun _ h => h))
  replace HRX4 := Lib.hid ((hb.block _ (row_lt HRX4.out)).trans HRX4.out)
  replace HX5 := Lib.hid (replyK_ok.keep HX5.out (fun b hB => hb.block b (Nat.lt_trans hB.2 (row_lt HRX5.out))) (fun _ h => h))
  replace HRX5 := Lib.hid ((hb.block _ (row_lt HRX5.out)).trans HRX5.out)
  replace HX6 := Lib.hid (replyK_ok.keep HX6.out (fun b hB => hb.block b (Nat.lt_trans hB.2 (row_lt HRX6.out))) (fun _ h => h))
  replace HRX6 := Lib.hid ((hb.block _ (row_lt HRX6.out)).trans HRX6.out)
  replace HX7 := Lib.hid (askK_ok.keep HX7.out (fun b hB => hb.block b (Nat.lt_trans hB.2 (row_lt HRX7.out))) (fun _ h => h))
  replace HRX7 := Lib.hid ((hb.block _ (row_lt HRX7.out)).trans HRX7.out)
  replace HX8 := Lib.hid (askK_ok.keep HX8.out (fun b hB => hb.block b (Nat.lt_trans hB.2 (row_lt HRX8.out))) (fun _ h => h))
  replace HRX8 := Lib.hid ((hb.block _ (row_lt HRX8.out)).trans HRX8.out)
  replace HX9 := Lib.hid (toldK_ok.keep HX9.out (fun b hB => hb.block b (Nat.lt_trans hB.2 (row_lt HRX9.out))) (fun _ h => h))
  replace HRX9 := Lib.hid ((hb.block _ (row_lt HRX9.out)).trans HRX9.out)
  replace HX10 := Lib.hid (toldK_ok.keep HX10.out (fun b hB => hb.block b (Nat.lt_trans hB.2 (row_lt HRX10.out))) (fun _ h => h))
  replace HRX10 := Lib.hid ((hb.block _ (row_lt HRX10.out)).trans HRX10.out)
  clear hb
  clear HC
  go_wp2_with fail
  refine (reads_E HE0.out _).mono ?_
  rintro e z1 ⟨rfl, hb⟩
  replace HB := Lib.hid (ext HB.out hb)
  replace HX1 := Lib.hid (msgK_ok.keep HX1.out (fun b hB => hb.block b (Nat.lt_trans hB.2 (row_lt HRX1.out))) (fun _ h => h))
  replace HRX1 := Lib.hid ((hb.block _ (row_lt HRX1.out)).trans HRX1.out)
  replace HX2 := Lib.hid (msgK_ok.keep HX2.out (fun b hB => hb.block b (Nat.lt_trans hB.2 (row_lt HRX2.out))) (fun _ h => h))
  replace HRX2 := Lib.hid ((hb.block _ (row_lt HRX2.out)).trans HRX2.out)
  replace HX3 := Lib.hid (commandK_ok.keep HX3.out (fun b hB => hb.block b (Nat.lt_trans hB.2 (row_lt HRX3.out))) (fun _ h => h))
  replace HRX3 := Lib.hid ((hb.block _ (row_lt HRX3.out)).trans HRX3.out)
  replace HX4 := Lib.hid (commandK_ok.keep HX4.out (fun b hB => hb.block b (Nat.lt_trans hB.2 (row_lt HRX4.out))) (fun _ h => h))
  replace HRX4 := Lib.hid ((hb.block _ (row_lt HRX4.out)).trans HRX4.out)
  replace HX5 := Lib.hid (replyK_ok.keep HX5.out (fun b hB => hb.block b (Nat.lt_trans hB.2 (row_lt HRX5.out))) (fun _ h => h))
  replace HRX5 := Lib.hid ((hb.block _ (row_lt HRX5.out)).trans HRX5.out)
  replace HX6 := Lib.hid (replyK_ok.keep HX6.out (fun b hB => hb.block b (Nat.lt_trans hB.2 (row_lt HRX6.out))) (fun _ h => h))
  replace HRX6 := Lib.hid ((hb.block _ (row_lt HRX6.out)).trans HRX6.out)
  replace HX7 := Lib.hid (askK_ok.keep HX7.out (fun b hB => hb.block b (Nat.lt_trans hB.2 (row_lt HRX7.out))) (fun _ h => h))
  replace HRX7 := Lib.hid ((hb.block _ (row_lt HRX7.out)).trans HRX7.out)
  replace HX8 := Lib.hid (askK_ok.keep HX8.out (fun b hB => hb.block b (Nat.lt_trans hB.2 (row_lt HRX8.out))) (fun _ h => h))
  replace HRX8 := Lib.hid ((hb.block _ (row_lt HRX8.out)).trans HRX8.out)
  replace HX9 := Lib.hid (toldK_ok.keep HX9.out (fun b hB => hb.block b (Nat.lt_trans hB.2 (row_lt HRX9.out))) (fun _ h => h))
  replace HRX9 := Lib.hid ((hb.block _ (row_lt HRX9.out)).trans HRX9.out)
  replace HX10 := Lib.hid (toldK_ok.keep HX10.out (fun b hB => hb.block b (Nat.lt_trans hB.2 (row_lt HRX10.out))) (fun _ h => h))
  replace HRX10 := Lib.hid ((hb.block _ (row_lt HRX10.out)).trans HRX10.out)
  clear hb
  have k1x0 : z1.cell? ⟨g1, 0, none⟩ = some y1x0 := by rw [cell_of_row _ g1 0 _ _ _ HRX1.out]; rfl
  have k1x1 : z1.cell? ⟨g1, 1, none⟩ = some y1x1 := by rw [cell_of_row _ g1 1 _ _ _ HRX1.out]; rfl
  have k1x2 : z1.cell? ⟨g1, 2, none⟩ = some y1x2 := by rw [cell_of_row _ g1 2 _ _ _ HRX1.out]; rfl
  have k1x3 : z1.cell? ⟨g1, 3, none⟩ = some y1x3 := by rw [cell_of_row _ g1 3 _ _ _ HRX1.out]; rfl
  have k1x4 : z1.cell? ⟨g1, 4, none⟩ = some y1x4 := by rw [cell_of_row _ g1 4 _ _ _ HRX1.out]; rfl
  have k1x5 : z1.cell? ⟨g1, 5, none⟩ = some y1x5 := by rw [cell_of_row _ g1 5 _ _ _ HRX1.out]; rfl
  have k1x6 : z1.cell? ⟨g1, 6, none⟩ = some y1x6 := by rw [cell_of_row _ g1 6 _ _ _ HRX1.out]; rfl
  have k1x7 : z1.cell? ⟨g1, 7, none⟩ = some y1x7 := by rw [cell_of_row _ g1 7 _ _ _ HRX1.out]; rfl
  have k1x8 : z1.cell? ⟨g1, 8, none⟩ = some y1x8 := by rw [cell_of_row _ g1 8 _ _ _ HRX1.out]; rfl
  have k1x9 : z1.cell? ⟨g1, 9, none⟩ = some y1x9 := by rw [cell_of_row _ g1 9 _ _ _ HRX1.out]; rfl
  have k1x10 : z1.cell? ⟨g1, 10, none⟩ = some y1x10 := by rw [cell_of_row _ g1 10 _ _ _ HRX1.out]; rfl
  have k1x11 : z1.cell? ⟨g1, 11, none⟩ = some y1x11 := by rw [cell_of_row _ g1 11 _ _ _ HRX1.out]; rfl
  have k1x12 : z1.cell? ⟨g1, 12, none⟩ = some y1x12 := by rw [cell_of_row _ g1 12 _ _ _ HRX1.out]; rfl
  have k1x13 : z1.cell? ⟨g1, 13, none⟩ = some y1x13 := by rw [cell_of_row _ g1 13 _ _ _ HRX1.out]; rfl
  have k2x0 : z1.cell? ⟨g2, 0, none⟩ = some y2x0 := by rw [cell_of_row _ g2 0 _ _ _ HRX2.out]; rfl
  have k2x1 : z1.cell? ⟨g2, 1, none⟩ = some y2x1 := by rw [cell_of_row _ g2 1 _ _ _ HRX2.out]; rfl
  have k2x2 : z1.cell? ⟨g2, 2, none⟩ = some y2x2 := by rw [cell_of_row _ g2 2 _ _ _ HRX2.out]; rfl
  have k2x3 : z1.cell? ⟨g2, 3, none⟩ = some y2x3 := by rw [cell_of_row _ g2 3 _ _ _ HRX2.out]; rfl
  have k2x4 : z1.cell? ⟨g2, 4, none⟩ = some y2x4 := by rw [cell_of_row _ g2 4 _ _ _ HRX2.out]; rfl
  have k2x5 : z1.cell? ⟨g2, 5, none⟩ = some y2x5 := by rw [cell_of_row _ g2 5 _ _ _ HRX2.out]; rfl
  have k2x6 : z1.cell? ⟨g2, 6, none⟩ = some y2x6 := by rw [cell_of_row _ g2 6 _ _ _ HRX2.out]; rfl
  have k2x7 : z1.cell? ⟨g2, 7, none⟩ = some y2x7 := by rw [cell_of_row _ g2 7 _ _ _ HRX2.out]; rfl
  have k2x8 : z1.cell? ⟨g2, 8, none⟩ = some y2x8 := by rw [cell_of_row _ g2 8 _ _ _ HRX2.out]; rfl
  have k2x9 : z1.cell? ⟨g2, 9, none⟩ = some y2x9 := by rw [cell_of_row _ g2 9 _ _ _ HRX2.out]; rfl
  have k2x10 : z1.cell? ⟨g2, 10, none⟩ = some y2x10 := by rw [cell_of_row _ g2 10 _ _ _ HRX2.out]; rfl
  have k2x11 : z1.cell? ⟨g2, 11, none⟩ = some y2x11 := by rw [cell_of_row _ g2 11 _ _ _ HRX2.out]; rfl
  have k2x12 : z1.cell? ⟨g2, 12, none⟩ = some y2x12 := by rw [cell_of_row _ g2 12 _ _ _ HRX2.out]; rfl
  have k2x13 : z1.cell? ⟨g2, 13, none⟩ = some y2x13 := by rw [cell_of_row _ g2 13 _ _ _ HRX2.out]; rfl
  have hcall := same_msgS (xs := [y1x0, y1x1, y1x2, y1x3, y1x4, y1x5, y1x6, y1x7, y1x8, y1x9, y1x10, y1x11, y1x12, y1x13]) (ys := [y2x0, y2x1, y2x2, y2x3, y2x4, y2x5, y2x6, y2x7, y2x8, y2x9, y2x10, y2x11, y2x12, y2x13]) z1 (msgK_ok.keep HX1.out (S' := Old z1) (fun _ _ => rfl) (fun b hB => Nat.lt_trans hB.2 (row_lt HRX1.out))) (msgK_ok.keep HX2.out (S' := Old z1) (fun _ _ => rfl) (fun b hB => Nat.lt_trans hB.2 (row_lt HRX2.out)))
  have HC := Lib.hid hcall
  clear hcall
  go_wp2_with fail
  refine HC.out.mono ?_
  rintro e z2 ⟨rfl, hb⟩
  clear HC k1x0 k1x1 k1x2 k1x3 k1x4 k1x5 k1x6 k1x7 k1x8 k1x9 k1x10 k1x11 k1x12 k1x13 k2x0 k2x1 k2x2 k2x3 k2x4 k2x5 k2x6 k2x7 k2x8 k2x9 k2x10 k2x11 k2x12 k2x13
  replace HB := Lib.hid (ext HB.out hb)
  replace HX1 := Lib.hid (msgK_ok.keep HX1.out (fun b hB => hb.block b (Nat.lt_trans hB.2 (row_lt HRX1.out))) (fun _ h => h))
  replace HRX1 := Lib.hid ((hb.block _ (row_lt HRX1.out)).trans HRX1.out)
  replace HX2 := Lib.hid (msgK_ok.keep HX2.out (fun b hB => hb.block b (Nat.lt_trans hB.2 (row_lt HRX2.out))) (fun _ h => h))
  replace HRX2 := Lib.hid ((hb.block _ (row_lt HRX2.out)).trans HRX2.out)
  replace HX3 := Lib.hid (commandK_ok.keep HX3.out (fun b hB => hb.block b (Nat.lt_trans hB.2 (row_lt HRX3.out))) (fun _ h => h))
  replace HRX3 := Lib.hid ((hb.block _ (row_lt HRX3.out)).trans HRX3.out)
  replace HX4 := Lib.hid (commandK_ok.keep HX4.out (fun b hB => hb.block b (Nat.lt_trans hB.2 (row_lt HRX4.out))) (fun _ h => h))
  replace HRX4 := Lib.hid ((hb.block _ (row_lt HRX4.out)).trans HRX4.out)
  replace HX5 := Lib.hid (replyK_ok.keep HX5.out (fun b hB => hb.block b (Nat.lt_trans hB.2 (row_lt HRX5.out))) (fun _ h => h))
  replace HRX5 := Lib.hid ((hb.block _ (row_lt HRX5.out)).trans HRX5.out)
  replace HX6 := Lib.hid (replyK_ok.keep HX6.out (fun b hB => hb.block b (Nat.lt_trans hB.2 (row_lt HRX6.out))) (fun _ h => h))
  replace HRX6 := Lib.hid ((hb.block _ (row_lt HRX6.out)).trans HRX6.out)
  replace HX7 := Lib.hid (askK_ok.keep HX7.out (fun b hB => hb.block b (Nat.lt_trans hB.2 (row_lt HRX7.out))) (fun _ h => h))
  replace HRX7 := Lib.hid ((hb.block _ (row_lt HRX7.out)).trans HRX7.out)
  replace HX8 := Lib.hid (askK_ok.keep HX8.out (fun b hB => hb.block b (Nat.lt_trans hB.2 (row_lt HRX8.out))) (fun _ h => h))
  replace HRX8 := Lib.hid ((hb.block _ (row_lt HRX8.out)).trans HRX8.out)
  replace HX9 := Lib.hid (toldK_ok.keep HX9.out (fun b hB => hb.block b (Nat.lt_trans hB.2 (row_lt HRX9.out))) (fun _ h => h))
  replace HRX9 := Lib.hid ((hb.block _ (row_lt HRX9.out)).trans HRX9.out)
  replace HX10 := Lib.hid (toldK_ok.keep HX10.out (fun b hB => hb.block b (Nat.lt_trans hB.2 (row_lt HRX10.out))) (fun _ h => h))
  replace HRX10 := Lib.hid ((hb.block _ (row_lt HRX10.out)).trans HRX10.out)
  clear hb
  go_wp2_with fail
  refine (reads_E HE1.out _).mono ?_
  rintro e z3 ⟨rfl, hb⟩
  replace HB := Lib.hid (ext HB.out hb)
  replace HX1 := Lib.hid (msgK_ok.keep HX1.out (fun b hB => hb.block b (Nat.lt_trans hB.2 (row_lt HRX1.out))) (fun _ h => h))
  replace HRX1 := Lib.hid ((hb.block _ (row_lt HRX1.out)).trans HRX1.out)
  replace HX2 := Lib.hid (msgK_ok.keep HX2.out (fun b hB => hb.block b (Nat.lt_trans hB.2 (row_lt HRX2.out))) (fun _ h => h))
  replace HRX2 := Lib.hid ((hb.block _ (row_lt HRX2.out)).trans HRX2.out)
  replace HX3 := Lib.hid (commandK_ok.keep HX3.out (fun b hB => hb.block b (Nat.lt_trans hB.2 (row_lt HRX3.out))) (fun _ h => h))
  replace HRX3 := Lib.hid ((hb.block _ (row_lt HRX3.out)).trans HRX3.out)
  replace HX4 := Lib.hid (commandK_ok.keep HX4.out (fun b hB => hb.block b (Nat.lt_trans hB.2 (row_lt HRX4.out))) (fun _ h => h))
  replace HRX4 := Lib.hid ((hb.block _ (row_lt HRX4.out)).trans HRX4.out)
  replace HX5 := Lib.hid (replyK_ok.keep HX5.out (fun b hB => hb.block b (Nat.lt_trans hB.2 (row_lt HRX5.out))) (fun _ h => h))
  replace HRX5 := Lib.hid ((hb.block _ (row_lt HRX5.out)).trans HRX5.out)
  replace HX6 := Lib.hid (replyK_ok.keep HX6.out (fun b hB => hb.block b (Nat.lt_trans hB.2 (row_lt HRX6.out))) (fun _ h => h))
  replace HRX6 := Lib.hid ((hb.block _ (row_lt HRX6.out)).trans HRX6.out)
  replace HX7 := Lib.hid (askK_ok.keep HX7.out (fun b hB => hb.block b (Nat.lt_trans hB.2 (row_lt HRX7.out))) (fun _ h => h))
  replace HRX7 := Lib.hid ((hb.block _ (row_lt HRX7.out)).trans HRX7.out)
  replace HX8 := Lib.hid (askK_ok.keep HX8.out (fun b hB => hb.block b (Nat.lt_trans hB.2 (row_lt HRX8.out))) (fun _ h => h))
  replace HRX8 := Lib.hid ((hb.block _ (row_lt HRX8.out)).trans HRX8.out)
  replace HX9 := Lib.hid (toldK_ok.keep HX9.out (fun b hB => hb.block b (Nat.lt_trans hB.2 (row_lt HRX9.out))) (fun _ h => h))
  replace HRX9 := Lib.hid ((hb.block _ (row_lt HRX9.out)).trans HRX9.out)
  replace HX10 := Lib.hid (toldK_ok.keep HX10.out (fun b hB => hb.block b (Nat.lt_trans hB.2 (row_lt HRX10.out))) (fun _ h => h))
  replace HRX10 := Lib.hid ((hb.block _ (row_lt HRX10.out)).trans HRX10.out)
  clear hb
  have k3x0 : z3.cell? ⟨g3, 0, none⟩ = some (.int .u64 (se1 : Int)) := by rw [cell_of_row _ g3 0 _ _ _ HRX3.out]; rfl
  have k3x1 : z3.cell? ⟨g3, 1, none⟩ = some (.int .u64 (sq1 : Int)) := by rw [cell_of_row _ g3 1 _ _ _ HRX3.out]; rfl
  have k3x2 : z3.cell? ⟨g3, 2, none⟩ = some (.int .i64 op1) := by rw [cell_of_row _ g3 2 _ _ _ HRX3.out]; rfl
  have k3x3 : z3.cell? ⟨g3, 3, none⟩ = some (.string (str ke1)) := by rw [cell_of_row _ g3 3 _ _ _ HRX3.out]; rfl
  have k3x4 : z3.cell? ⟨g3, 4, none⟩ = some (.int .i64 am1) := by rw [cell_of_row _ g3 4 _ _ _ HRX3.out]; rfl
  have k3x5 : z3.cell? ⟨g3, 5, none⟩ = some (.int .i64 sp1) := by rw [cell_of_row _ g3 5 _ _ _ HRX3.out]; rfl
  have k3x6 : z3.cell? ⟨g3, 6, none⟩ = some (.int .u64 (le1 : Int)) := by rw [cell_of_row _ g3 6 _ _ _ HRX3.out]; rfl
  have k4x0 : z3.cell? ⟨g4, 0, none⟩ = some (.int .u64 (se1 : Int)) := by rw [cell_of_row _ g4 0 _ _ _ HRX4.out]; rfl
  have k4x1 : z3.cell? ⟨g4, 1, none⟩ = some (.int .u64 (sq1 : Int)) := by rw [cell_of_row _ g4 1 _ _ _ HRX4.out]; rfl
  have k4x2 : z3.cell? ⟨g4, 2, none⟩ = some (.int .i64 op1) := by rw [cell_of_row _ g4 2 _ _ _ HRX4.out]; rfl
  have k4x3 : z3.cell? ⟨g4, 3, none⟩ = some (.string (str ke1)) := by rw [cell_of_row _ g4 3 _ _ _ HRX4.out]; rfl
  have k4x4 : z3.cell? ⟨g4, 4, none⟩ = some (.int .i64 am1) := by rw [cell_of_row _ g4 4 _ _ _ HRX4.out]; rfl
  have k4x5 : z3.cell? ⟨g4, 5, none⟩ = some (.int .i64 sp1) := by rw [cell_of_row _ g4 5 _ _ _ HRX4.out]; rfl
  have k4x6 : z3.cell? ⟨g4, 6, none⟩ = some (.int .u64 (le1 : Int)) := by rw [cell_of_row _ g4 6 _ _ _ HRX4.out]; rfl
  go_wp2_with fail
  refine (reads_E HE2.out _).mono ?_
  rintro e z4 ⟨rfl, hb⟩
  replace HB := Lib.hid (ext HB.out hb)
  replace HX1 := Lib.hid (msgK_ok.keep HX1.out (fun b hB => hb.block b (Nat.lt_trans hB.2 (row_lt HRX1.out))) (fun _ h => h))
  replace HRX1 := Lib.hid ((hb.block _ (row_lt HRX1.out)).trans HRX1.out)
  replace HX2 := Lib.hid (msgK_ok.keep HX2.out (fun b hB => hb.block b (Nat.lt_trans hB.2 (row_lt HRX2.out))) (fun _ h => h))
  replace HRX2 := Lib.hid ((hb.block _ (row_lt HRX2.out)).trans HRX2.out)
  replace HX3 := Lib.hid (commandK_ok.keep HX3.out (fun b hB => hb.block b (Nat.lt_trans hB.2 (row_lt HRX3.out))) (fun _ h => h))
  replace HRX3 := Lib.hid ((hb.block _ (row_lt HRX3.out)).trans HRX3.out)
  replace HX4 := Lib.hid (commandK_ok.keep HX4.out (fun b hB => hb.block b (Nat.lt_trans hB.2 (row_lt HRX4.out))) (fun _ h => h))
  replace HRX4 := Lib.hid ((hb.block _ (row_lt HRX4.out)).trans HRX4.out)
  replace HX5 := Lib.hid (replyK_ok.keep HX5.out (fun b hB => hb.block b (Nat.lt_trans hB.2 (row_lt HRX5.out))) (fun _ h => h))
  replace HRX5 := Lib.hid ((hb.block _ (row_lt HRX5.out)).trans HRX5.out)
  replace HX6 := Lib.hid (replyK_ok.keep HX6.out (fun b hB => hb.block b (Nat.lt_trans hB.2 (row_lt HRX6.out))) (fun _ h => h))
  replace HRX6 := Lib.hid ((hb.block _ (row_lt HRX6.out)).trans HRX6.out)
  replace HX7 := Lib.hid (askK_ok.keep HX7.out (fun b hB => hb.block b (Nat.lt_trans hB.2 (row_lt HRX7.out))) (fun _ h => h))
  replace HRX7 := Lib.hid ((hb.block _ (row_lt HRX7.out)).trans HRX7.out)
  replace HX8 := Lib.hid (askK_ok.keep HX8.out (fun b hB => hb.block b (Nat.lt_trans hB.2 (row_lt HRX8.out))) (fun _ h => h))
  replace HRX8 := Lib.hid ((hb.block _ (row_lt HRX8.out)).trans HRX8.out)
  replace HX9 := Lib.hid (toldK_ok.keep HX9.out (fun b hB => hb.block b (Nat.lt_trans hB.2 (row_lt HRX9.out))) (fun _ h => h))
  replace HRX9 := Lib.hid ((hb.block _ (row_lt HRX9.out)).trans HRX9.out)
  replace HX10 := Lib.hid (toldK_ok.keep HX10.out (fun b hB => hb.block b (Nat.lt_trans hB.2 (row_lt HRX10.out))) (fun _ h => h))
  replace HRX10 := Lib.hid ((hb.block _ (row_lt HRX10.out)).trans HRX10.out)
  clear hb
  have k5x0 : z4.cell? ⟨g5, 0, none⟩ = some (.int .u64 (se2 : Int)) := by rw [cell_of_row _ g5 0 _ _ _ HRX5.out]; rfl
  have k5x1 : z4.cell? ⟨g5, 1, none⟩ = some (.int .u64 (sq2 : Int)) := by rw [cell_of_row _ g5 1 _ _ _ HRX5.out]; rfl
  have k5x2 : z4.cell? ⟨g5, 2, none⟩ = some (.int .i64 er2) := by rw [cell_of_row _ g5 2 _ _ _ HRX5.out]; rfl
  have k5x3 : z4.cell? ⟨g5, 3, none⟩ = some (.int .u64 (lz2 : Int)) := by rw [cell_of_row _ g5 3 _ _ _ HRX5.out]; rfl
  have k5x4 : z4.cell? ⟨g5, 4, none⟩ = some (.int .i64 am2) := by rw [cell_of_row _ g5 4 _ _ _ HRX5.out]; rfl
  have k5x5 : z4.cell? ⟨g5, 5, none⟩ = some (.int .i64 un2) := by rw [cell_of_row _ g5 5 _ _ _ HRX5.out]; rfl
  have k6x0 : z4.cell? ⟨g6, 0, none⟩ = some (.int .u64 (se2 : Int)) := by rw [cell_of_row _ g6 0 _ _ _ HRX6.out]; rfl
  have k6x1 : z4.cell? ⟨g6, 1, none⟩ = some (.int .u64 (sq2 : Int)) := by rw [cell_of_row _ g6 1 _ _ _ HRX6.out]; rfl
  have k6x2 : z4.cell? ⟨g6, 2, none⟩ = some (.int .i64 er2) := by rw [cell_of_row _ g6 2 _ _ _ HRX6.out]; rfl
  have k6x3 : z4.cell? ⟨g6, 3, none⟩ = some (.int .u64 (lz2 : Int)) := by rw [cell_of_row _ g6 3 _ _ _ HRX6.out]; rfl
  have k6x4 : z4.cell? ⟨g6, 4, none⟩ = some (.int .i64 am2) := by rw [cell_of_row _ g6 4 _ _ _ HRX6.out]; rfl
  have k6x5 : z4.cell? ⟨g6, 5, none⟩ = some (.int .i64 un2) := by rw [cell_of_row _ g6 5 _ _ _ HRX6.out]; rfl
  go_wp2_with fail
  refine (reads_E HE3.out _).mono ?_
  rintro e z5 ⟨rfl, hb⟩
  replace HB := Lib.hid (ext HB.out hb)
  replace HX1 := Lib.hid (msgK_ok.keep HX1.out (fun b hB => hb.block b (Nat.lt_trans hB.2 (row_lt HRX1.out))) (fun _ h => h))
  replace HRX1 := Lib.hid ((hb.block _ (row_lt HRX1.out)).trans HRX1.out)
  replace HX2 := Lib.hid (msgK_ok.keep HX2.out (fun b hB => hb.block b (Nat.lt_trans hB.2 (row_lt HRX2.out))) (fun _ h => h))
  replace HRX2 := Lib.hid ((hb.block _ (row_lt HRX2.out)).trans HRX2.out)
  replace HX3 := Lib.hid (commandK_ok.keep HX3.out (fun b hB => hb.block b (Nat.lt_trans hB.2 (row_lt HRX3.out))) (fun _ h => h))
  replace HRX3 := Lib.hid ((hb.block _ (row_lt HRX3.out)).trans HRX3.out)
  replace HX4 := Lib.hid (commandK_ok.keep HX4.out (fun b hB => hb.block b (Nat.lt_trans hB.2 (row_lt HRX4.out))) (fun _ h => h))
  replace HRX4 := Lib.hid ((hb.block _ (row_lt HRX4.out)).trans HRX4.out)
  replace HX5 := Lib.hid (replyK_ok.keep HX5.out (fun b hB => hb.block b (Nat.lt_trans hB.2 (row_lt HRX5.out))) (fun _ h => h))
  replace HRX5 := Lib.hid ((hb.block _ (row_lt HRX5.out)).trans HRX5.out)
  replace HX6 := Lib.hid (replyK_ok.keep HX6.out (fun b hB => hb.block b (Nat.lt_trans hB.2 (row_lt HRX6.out))) (fun _ h => h))
  replace HRX6 := Lib.hid ((hb.block _ (row_lt HRX6.out)).trans HRX6.out)
  replace HX7 := Lib.hid (askK_ok.keep HX7.out (fun b hB => hb.block b (Nat.lt_trans hB.2 (row_lt HRX7.out))) (fun _ h => h))
  replace HRX7 := Lib.hid ((hb.block _ (row_lt HRX7.out)).trans HRX7.out)
  replace HX8 := Lib.hid (askK_ok.keep HX8.out (fun b hB => hb.block b (Nat.lt_trans hB.2 (row_lt HRX8.out))) (fun _ h => h))
  replace HRX8 := Lib.hid ((hb.block _ (row_lt HRX8.out)).trans HRX8.out)
  replace HX9 := Lib.hid (toldK_ok.keep HX9.out (fun b hB => hb.block b (Nat.lt_trans hB.2 (row_lt HRX9.out))) (fun _ h => h))
  replace HRX9 := Lib.hid ((hb.block _ (row_lt HRX9.out)).trans HRX9.out)
  replace HX10 := Lib.hid (toldK_ok.keep HX10.out (fun b hB => hb.block b (Nat.lt_trans hB.2 (row_lt HRX10.out))) (fun _ h => h))
  replace HRX10 := Lib.hid ((hb.block _ (row_lt HRX10.out)).trans HRX10.out)
  clear hb
  have k7x0 : z5.cell? ⟨g7, 0, none⟩ = some (.bool lk3) := by rw [cell_of_row _ g7 0 _ _ _ HRX7.out]; rfl
  have k7x1 : z5.cell? ⟨g7, 1, none⟩ = some (.bool ly3) := by rw [cell_of_row _ g7 1 _ _ _ HRX7.out]; rfl
  have k7x2 : z5.cell? ⟨g7, 2, none⟩ = some (.int .u64 (aq3 : Int)) := by rw [cell_of_row _ g7 2 _ _ _ HRX7.out]; rfl
  have k7x3 : z5.cell? ⟨g7, 3, none⟩ = some (.int .u64 (se3 : Int)) := by rw [cell_of_row _ g7 3 _ _ _ HRX7.out]; rfl
  have k7x4 : z5.cell? ⟨g7, 4, none⟩ = some (.int .u64 (sq3 : Int)) := by rw [cell_of_row _ g7 4 _ _ _ HRX7.out]; rfl
  have k7x5 : z5.cell? ⟨g7, 5, none⟩ = some (.int .i64 op3) := by rw [cell_of_row _ g7 5 _ _ _ HRX7.out]; rfl
  have k7x6 : z5.cell? ⟨g7, 6, none⟩ = some (.string (str ke3)) := by rw [cell_of_row _ g7 6 _ _ _ HRX7.out]; rfl
  have k7x7 : z5.cell? ⟨g7, 7, none⟩ = some (.int .i64 am3) := by rw [cell_of_row _ g7 7 _ _ _ HRX7.out]; rfl
  have k7x8 : z5.cell? ⟨g7, 8, none⟩ = some (.int .i64 sp3) := by rw [cell_of_row _ g7 8 _ _ _ HRX7.out]; rfl
  have k7x9 : z5.cell? ⟨g7, 9, none⟩ = some (.int .u64 (le3 : Int)) := by rw [cell_of_row _ g7 9 _ _ _ HRX7.out]; rfl
  have k7x10 : z5.cell? ⟨g7, 10, none⟩ = some (.string (str ak3)) := by rw [cell_of_row _ g7 10 _ _ _ HRX7.out]; rfl
  have k8x0 : z5.cell? ⟨g8, 0, none⟩ = some (.bool lk3) := by rw [cell_of_row _ g8 0 _ _ _ HRX8.out]; rfl
  have k8x1 : z5.cell? ⟨g8, 1, none⟩ = some (.bool ly3) := by rw [cell_of_row _ g8 1 _ _ _ HRX8.out]; rfl
  have k8x2 : z5.cell? ⟨g8, 2, none⟩ = some (.int .u64 (aq3 : Int)) := by rw [cell_of_row _ g8 2 _ _ _ HRX8.out]; rfl
  have k8x3 : z5.cell? ⟨g8, 3, none⟩ = some (.int .u64 (se3 : Int)) := by rw [cell_of_row _ g8 3 _ _ _ HRX8.out]; rfl
  have k8x4 : z5.cell? ⟨g8, 4, none⟩ = some (.int .u64 (sq3 : Int)) := by rw [cell_of_row _ g8 4 _ _ _ HRX8.out]; rfl
  have k8x5 : z5.cell? ⟨g8, 5, none⟩ = some (.int .i64 op3) := by rw [cell_of_row _ g8 5 _ _ _ HRX8.out]; rfl
  have k8x6 : z5.cell? ⟨g8, 6, none⟩ = some (.string (str ke3)) := by rw [cell_of_row _ g8 6 _ _ _ HRX8.out]; rfl
  have k8x7 : z5.cell? ⟨g8, 7, none⟩ = some (.int .i64 am3) := by rw [cell_of_row _ g8 7 _ _ _ HRX8.out]; rfl
  have k8x8 : z5.cell? ⟨g8, 8, none⟩ = some (.int .i64 sp3) := by rw [cell_of_row _ g8 8 _ _ _ HRX8.out]; rfl
  have k8x9 : z5.cell? ⟨g8, 9, none⟩ = some (.int .u64 (le3 : Int)) := by rw [cell_of_row _ g8 9 _ _ _ HRX8.out]; rfl
  have k8x10 : z5.cell? ⟨g8, 10, none⟩ = some (.string (str ak3)) := by rw [cell_of_row _ g8 10 _ _ _ HRX8.out]; rfl
  go_wp2_with fail
  refine (reads_E HE4.out _).mono ?_
  rintro e z6 ⟨rfl, hb⟩
  replace HB := Lib.hid (ext HB.out hb)
  replace HX1 := Lib.hid (msgK_ok.keep HX1.out (fun b hB => hb.block b (Nat.lt_trans hB.2 (row_lt HRX1.out))) (fun _ h => h))
  replace HRX1 := Lib.hid ((hb.block _ (row_lt HRX1.out)).trans HRX1.out)
  replace HX2 := Lib.hid (msgK_ok.keep HX2.out (fun b hB => hb.block b (Nat.lt_trans hB.2 (row_lt HRX2.out))) (fun _ h => h))
  replace HRX2 := Lib.hid ((hb.block _ (row_lt HRX2.out)).trans HRX2.out)
  replace HX3 := Lib.hid (commandK_ok.keep HX3.out (fun b hB => hb.block b (Nat.lt_trans hB.2 (row_lt HRX3.out))) (fun _ h => h))
  replace HRX3 := Lib.hid ((hb.block _ (row_lt HRX3.out)).trans HRX3.out)
  replace HX4 := Lib.hid (commandK_ok.keep HX4.out (fun b hB => hb.block b (Nat.lt_trans hB.2 (row_lt HRX4.out))) (fun _ h => h))
  replace HRX4 := Lib.hid ((hb.block _ (row_lt HRX4.out)).trans HRX4.out)
  replace HX5 := Lib.hid (replyK_ok.keep HX5.out (fun b hB => hb.block b (Nat.lt_trans hB.2 (row_lt HRX5.out))) (fun _ h => h))
  replace HRX5 := Lib.hid ((hb.block _ (row_lt HRX5.out)).trans HRX5.out)
  replace HX6 := Lib.hid (replyK_ok.keep HX6.out (fun b hB => hb.block b (Nat.lt_trans hB.2 (row_lt HRX6.out))) (fun _ h => h))
  replace HRX6 := Lib.hid ((hb.block _ (row_lt HRX6.out)).trans HRX6.out)
  replace HX7 := Lib.hid (askK_ok.keep HX7.out (fun b hB => hb.block b (Nat.lt_trans hB.2 (row_lt HRX7.out))) (fun _ h => h))
  replace HRX7 := Lib.hid ((hb.block _ (row_lt HRX7.out)).trans HRX7.out)
  replace HX8 := Lib.hid (askK_ok.keep HX8.out (fun b hB => hb.block b (Nat.lt_trans hB.2 (row_lt HRX8.out))) (fun _ h => h))
  replace HRX8 := Lib.hid ((hb.block _ (row_lt HRX8.out)).trans HRX8.out)
  replace HX9 := Lib.hid (toldK_ok.keep HX9.out (fun b hB => hb.block b (Nat.lt_trans hB.2 (row_lt HRX9.out))) (fun _ h => h))
  replace HRX9 := Lib.hid ((hb.block _ (row_lt HRX9.out)).trans HRX9.out)
  replace HX10 := Lib.hid (toldK_ok.keep HX10.out (fun b hB => hb.block b (Nat.lt_trans hB.2 (row_lt HRX10.out))) (fun _ h => h))
  replace HRX10 := Lib.hid ((hb.block _ (row_lt HRX10.out)).trans HRX10.out)
  clear hb
  have k9x0 : z6.cell? ⟨g9, 0, none⟩ = some (.int .u64 (tq4 : Int)) := by rw [cell_of_row _ g9 0 _ _ _ HRX9.out]; rfl
  have k9x1 : z6.cell? ⟨g9, 1, none⟩ = some (.bool rt4) := by rw [cell_of_row _ g9 1 _ _ _ HRX9.out]; rfl
  have k9x2 : z6.cell? ⟨g9, 2, none⟩ = some (.int .i64 ld4) := by rw [cell_of_row _ g9 2 _ _ _ HRX9.out]; rfl
  have k9x3 : z6.cell? ⟨g9, 3, none⟩ = some (.int .u64 (se4 : Int)) := by rw [cell_of_row _ g9 3 _ _ _ HRX9.out]; rfl
  have k9x4 : z6.cell? ⟨g9, 4, none⟩ = some (.int .u64 (sq4 : Int)) := by rw [cell_of_row _ g9 4 _ _ _ HRX9.out]; rfl
  have k9x5 : z6.cell? ⟨g9, 5, none⟩ = some (.int .i64 er4) := by rw [cell_of_row _ g9 5 _ _ _ HRX9.out]; rfl
  have k9x6 : z6.cell? ⟨g9, 6, none⟩ = some (.int .u64 (lz4 : Int)) := by rw [cell_of_row _ g9 6 _ _ _ HRX9.out]; rfl
  have k9x7 : z6.cell? ⟨g9, 7, none⟩ = some (.int .i64 am4) := by rw [cell_of_row _ g9 7 _ _ _ HRX9.out]; rfl
  have k9x8 : z6.cell? ⟨g9, 8, none⟩ = some (.int .i64 un4) := by rw [cell_of_row _ g9 8 _ _ _ HRX9.out]; rfl
  have k9x9 : z6.cell? ⟨g9, 9, none⟩ = some (.int .i64 cp4) := by rw [cell_of_row _ g9 9 _ _ _ HRX9.out]; rfl
  have k9x10 : z6.cell? ⟨g9, 10, none⟩ = some (.int .i64 ln4) := by rw [cell_of_row _ g9 10 _ _ _ HRX9.out]; rfl
  have k10x0 : z6.cell? ⟨g10, 0, none⟩ = some (.int .u64 (tq4 : Int)) := by rw [cell_of_row _ g10 0 _ _ _ HRX10.out]; rfl
  have k10x1 : z6.cell? ⟨g10, 1, none⟩ = some (.bool rt4) := by rw [cell_of_row _ g10 1 _ _ _ HRX10.out]; rfl
  have k10x2 : z6.cell? ⟨g10, 2, none⟩ = some (.int .i64 ld4) := by rw [cell_of_row _ g10 2 _ _ _ HRX10.out]; rfl
  have k10x3 : z6.cell? ⟨g10, 3, none⟩ = some (.int .u64 (se4 : Int)) := by rw [cell_of_row _ g10 3 _ _ _ HRX10.out]; rfl
  have k10x4 : z6.cell? ⟨g10, 4, none⟩ = some (.int .u64 (sq4 : Int)) := by rw [cell_of_row _ g10 4 _ _ _ HRX10.out]; rfl
  have k10x5 : z6.cell? ⟨g10, 5, none⟩ = some (.int .i64 er4) := by rw [cell_of_row _ g10 5 _ _ _ HRX10.out]; rfl
  have k10x6 : z6.cell? ⟨g10, 6, none⟩ = some (.int .u64 (lz4 : Int)) := by rw [cell_of_row _ g10 6 _ _ _ HRX10.out]; rfl
  have k10x7 : z6.cell? ⟨g10, 7, none⟩ = some (.int .i64 am4) := by rw [cell_of_row _ g10 7 _ _ _ HRX10.out]; rfl
  have k10x8 : z6.cell? ⟨g10, 8, none⟩ = some (.int .i64 un4) := by rw [cell_of_row _ g10 8 _ _ _ HRX10.out]; rfl
  have k10x9 : z6.cell? ⟨g10, 9, none⟩ = some (.int .i64 cp4) := by rw [cell_of_row _ g10 9 _ _ _ HRX10.out]; rfl
  have k10x10 : z6.cell? ⟨g10, 10, none⟩ = some (.int .i64 ln4) := by rw [cell_of_row _ g10 10 _ _ _ HRX10.out]; rfl
  go_wp2
  go_ret
  exact ⟨rfl, HB.out⟩
end Go.Proofs.YtlgbipmmpocepaaGreat.Kd
