/- Package scupperref03's ToMsg, as a contract of a call. Written by gentalk3.py. -/
import Derived.Test.YtlgbipmmpocepaaGreatGU
import Derived.Test.YtlgbipmmpocepaaGreatGT
import Derived.Deep.DeepCutAuto
import Derived.Deep.CutBlock
namespace Go.Proofs.YtlgbipmmpocepaaGreat.Kd
open Go.RowKit By CoP Co Mo

set_option maxRecDepth 100000 in
set_option maxHeartbeats 32000000 in
theorem refToMsg_any {A : Option Addr} {n c : Nat} {b : List UInt8} (w : World) (hn : n = b.length) (hnc : n ≤ c) (hm : n ≤ 140737488355328) (hr : Lies w w.heap.size A b) :
    Calls Tryz.prog 6 #[.slice A n c] w (RefTo msgK pMsgD b w) := by
  subst hn
  obtain ⟨kd, s1, q1⟩ : ∃ n s, pInt 9 (some b) = (n, s) := ⟨_, _, rfl⟩
  obtain ⟨fr, s2, q2⟩ : ∃ n s, pInt 16 s1 = (n, s) := ⟨_, _, rfl⟩
  obtain ⟨tt, s3, q3⟩ : ∃ n s, pInt 16 s2 = (n, s) := ⟨_, _, rfl⟩
  obtain ⟨tm, s4, q4⟩ : ∃ n s, pNum s3 = (n, s) := ⟨_, _, rfl⟩
  obtain ⟨ix, s5, q5⟩ : ∃ n s, pNum s4 = (n, s) := ⟨_, _, rfl⟩
  obtain ⟨lt, s6, q6⟩ : ∃ n s, pNum s5 = (n, s) := ⟨_, _, rfl⟩
  obtain ⟨cm, s7, q7⟩ : ∃ n s, pNum s6 = (n, s) := ⟨_, _, rfl⟩
  obtain ⟨rd, s8, q8⟩ : ∃ n s, pNum s7 = (n, s) := ⟨_, _, rfl⟩
  obtain ⟨nk, s9, q9⟩ : ∃ n s, pInt 1 s8 = (n, s) := ⟨_, _, rfl⟩
  obtain ⟨en, t0, qn⟩ : ∃ n s, pInt 8 s9 = (n, s) := ⟨_, _, rfl⟩
  obtain ⟨es, s10, q10⟩ : ∃ n s, pRun pEntryD en t0 = (n, s) := ⟨_, _, rfl⟩
  obtain ⟨vs, ls, s11, q11⟩ : ∃ vs ls s3, pConf s10 = ((vs, ls), s3) := ⟨_, _, _, rfl⟩
  obtain ⟨fo, s12, q12⟩ : ∃ n s, pInt 65536 s11 = (n, s) := ⟨_, _, rfl⟩
  obtain ⟨da, st, q13⟩ : ∃ n s, pData s12 = (n, s) := ⟨_, _, rfl⟩
  obtain ⟨ok, f9⟩ : ∃ v, ((nk : Int) == 1) = v := ⟨_, rfl⟩
  have g9 : decide ((nk : Int) = 1) = ok := by rw [← f9]; rfl
  have d9 : decide (nk = 1) = ok := by rw [← g9]; congr 1; exact propext (by omega)
  have l1 : kd ≤ 9 := by have := pInt_le' 9 (some b); rw [q1] at this; exact this
  have l2 : fr ≤ 16 := by have := pInt_le' 16 s1; rw [q2] at this; exact this
  have l3 : tt ≤ 16 := by have := pInt_le' 16 s2; rw [q3] at this; exact this
  have l4 : tm < 18446744073709551616 := by have := pNum_lt s3; rw [q4] at this; exact this
  have l5 : ix < 18446744073709551616 := by have := pNum_lt s4; rw [q5] at this; exact this
  have l6 : lt < 18446744073709551616 := by have := pNum_lt s5; rw [q6] at this; exact this
  have l7 : cm < 18446744073709551616 := by have := pNum_lt s6; rw [q7] at this; exact this
  have l8 : rd < 18446744073709551616 := by have := pNum_lt s7; rw [q8] at this; exact this
  have ln : en ≤ 8 := by have := pInt_le' 8 s9; rw [qn] at this; exact this
  have l12 : fo ≤ 65536 := by have := pInt_le' 65536 s11; rw [q12] at this; exact this
  have k0 : ∀ x ∈ vs, x ≤ 16 := by have h : ∀ x ∈ (pConf s10).1.1, x ≤ 16 := pIdsL_le _ _; rw [q11] at h; exact h
  have k1 : ∀ x ∈ ls, x ≤ 16 := by have h : ∀ x ∈ (pConf s10).1.2, x ≤ 16 := pIdsL_le _ _; rw [q11] at h; exact h
  have k2 : vs.length ≤ 16 := by have h : (pConf s10).1.1.length ≤ 16 := pIds_len _; rw [q11] at h; exact h
  have k3 : ls.length ≤ 16 := by have h : (pConf s10).1.2.length ≤ 16 := pIds_len _; rw [q11] at h; exact h
  have hd : pMsgD (some b) = ((msgD (kd : Nat) (fr : Nat) (tt : Nat) tm ix lt cm rd ok es (asI vs) (asI ls) (fo : Nat) da), st) := by simp only [pMsgD, pRec, pAll, pNumD, pIntD, pFlagD, pEntsD, pConfD, pDataD, q1, q2, q3, q4, q5, q6, q7, q8, q9, qn, q10, q11, q12, q13, d9, msgD]
  unfold RefTo
  rw [hd]
  simp only
  have hrep : ∀ (w : World) (S : Nat → Prop) (Ae A0 A1 A4 : Option Addr) (ce c0 c1 c4 : Nat), entsK.rep w S [.slice Ae es.length ce] (.agg es) → confK.rep w S [.slice A0 vs.length c0, .slice A1 ls.length c1] (confD (asI vs) (asI ls)) → da.length ≤ c4 → da.length ≤ 140737488355328 → LiesS w S A4 da →
      msgK.rep w S [.int .i64 (kd : Int), .int .i64 (fr : Int), .int .i64 (tt : Int), .int .u64 (tm : Int), .int .u64 (ix : Int), .int .u64 (lt : Int), .int .u64 (cm : Int), .int .u64 (rd : Int), .bool ok, .slice Ae es.length ce, .slice A0 vs.length c0, .slice A1 ls.length c1, .int .i64 (fo : Int), .slice A4 da.length c4] (msgD (kd : Nat) (fr : Nat) (tt : Nat) tm ix lt cm rd ok es (asI vs) (asI ls) (fo : Nat) da) := fun w S Ae A0 A1 A4 ce c0 c1 c4 h1 h2 h3 h4 h5 =>
    msg_rep ⟨by omega, by omega, by omega, by omega⟩ ⟨l4, l5, l6, l7, l8⟩ h1 h2 h3 h4 h5
  generalize (msgD (kd : Nat) (fr : Nat) (tt : Nat) tm ix lt cm rd ok es (asI vs) (asI ls) (fo : Nat) da) = d at hrep ⊢
  have HQ1 := Lib.hid q1
  have HQ2 := Lib.hid q2
  have HQ3 := Lib.hid q3
  have HQ4 := Lib.hid q4
  have HQ5 := Lib.hid q5
  have HQ6 := Lib.hid q6
  have HQ7 := Lib.hid q7
  have HQ8 := Lib.hid q8
  have HQ9 := Lib.hid q9
  have HQ10 := Lib.hid q10
  have HQ11 := Lib.hid q11
  have HQ12 := Lib.hid q12
  have HQ13 := Lib.hid q13
  have HQN := Lib.hid qn
  have HEN := Lib.hid ln
  have HFL9 := Lib.hid f9
  have HFM9 := Lib.hid g9
  have HL0 := Lib.hid k0
  have HL1 := Lib.hid k1
  have HL2 := Lib.hid k2
  have HL3 := Lib.hid k3
  have HREP := Lib.hid hrep
  have HM := Lib.hid hm
  clear q1 q2 q3 q4 q5 q6 q7 q8 q9 qn q10 q11 q12 q13 f9 g9 d9 l1 l2 l3 l4 l5 l6 l7 l8 ln l12 k0 k1 k2 k3 hd hrep
  obtain ⟨w0, hw0⟩ : ∃ w0, w0 = (((w.alloc (.cells #[.int .i64 0, .int .i64 0, .int .i64 0, .int .u64 0, .int .u64 0, .int .u64 0, .int .u64 0, .int .u64 0, .bool false, .slice none 0 0, .slice none 0 0, .slice none 0 0, .int .i64 0, .slice none 0 0] 29)).alloc (.cells #[.slice A b.length c, .int .i64 0, .bool false] 77)).alloc (.cells #[.int .i64 0, .int .i64 0, .int .i64 0, .int .u64 0, .int .u64 0, .int .u64 0, .int .u64 0, .int .u64 0, .bool false, .slice none 0 0, .slice none 0 0, .slice none 0 0, .int .i64 0, .slice none 0 0] 29)) := ⟨_, rfl⟩
  have hb0 : Below w.heap.size w w0 := by rw [hw0]; exact (((Below.refl _ _).alloc (Nat.le_refl _) _).alloc (by simp only [World.size_alloc]; omega) _).alloc (by simp only [World.size_alloc]; omega) _
  have hri : w0.heap[w.heap.size + 1]? = some (.cells #[.slice A b.length c, .int .i64 0, .bool false] 77 (0, 0)) := by
    rw [hw0, heap_alloc_old _ _ (by simp only [World.size_alloc]; omega)]; exact heap_alloc2_new w _ _
  have hin0 : InAt w.heap.size (w.heap.size + 1) w0 b (some b) := ⟨A, c, 0, false, Nat.le_succ _, hnc, hm, hri, hr.below hb0, Nat.zero_le _, .inr ⟨rfl, rfl⟩⟩
  have hrr0 : w0.heap[w.heap.size]? = some (.cells #[.int .i64 0, .int .i64 0, .int .i64 0, .int .u64 0, .int .u64 0, .int .u64 0, .int .u64 0, .int .u64 0, .bool false, .slice none 0 0, .slice none 0 0, .slice none 0 0, .int .i64 0, .slice none 0 0] 29 (0, 0)) := by rw [hw0, heap_alloc_old _ _ (by simp only [World.size_alloc]; omega)]; exact heap_alloc2_old w _ _
  have hx0 : w0.heap[w.heap.size + 1 + 1]? = some (.cells #[.int .i64 0, .int .i64 0, .int .i64 0, .int .u64 0, .int .u64 0, .int .u64 0, .int .u64 0, .int .u64 0, .bool false, .slice none 0 0, .slice none 0 0, .slice none 0 0, .int .i64 0, .slice none 0 0] 29 (0, 0)) := by
    have h := heap_alloc_new ((w.alloc (.cells #[.int .i64 0, .int .i64 0, .int .i64 0, .int .u64 0, .int .u64 0, .int .u64 0, .int .u64 0, .int .u64 0, .bool false, .slice none 0 0, .slice none 0 0, .slice none 0 0, .int .i64 0, .slice none 0 0] 29)).alloc (.cells #[.slice A b.length c, .int .i64 0, .bool false] 77)) (.cells #[.int .i64 0, .int .i64 0, .int .i64 0, .int .u64 0, .int .u64 0, .int .u64 0, .int .u64 0, .int .u64 0, .bool false, .slice none 0 0, .slice none 0 0, .slice none 0 0, .int .i64 0, .slice none 0 0] 29)
    rw [hw0]
    simpa only [World.size_alloc] using h
  have HB := Lib.hid hb0
  have HIN := Lib.hid hin0
  have HR := Lib.hid hrr0
  have HX := Lib.hid hx0
  clear hb0 hri hin0 hrr0 hx0 hr hnc hm
  go_enter Tryz.func6, Tryz.ntmps6
  go_wp2_with fail
  rw [← hw0]
  clear hw0
  have hzw := HB.out.size
  have hcall : Calls Tryz.prog 22 #[.pointer (some ⟨w.heap.size + 1, 0, none⟩), .int .u64 9] w0 _ := inInt_any w.heap.size (w.heap.size + 1) b (some b) 9 (by decide) w0 HIN.out
  rw [HQ1.out] at hcall
  refine hcall.mono ?_
  rintro e u0 ⟨rfl, hin, hgr⟩
  have hx := (hgr.block (w.heap.size + 1 + 1) (row_lt HX.out) (fun e => by have := Option.some.inj e; omega)).trans HX.out
  have hr := (hgr.block w.heap.size (row_lt HR.out) (fun e => by have := Option.some.inj e; omega)).trans HR.out
  have hb := HB.out.grown hgr hzw (fun k e => by have := Option.some.inj e; omega)
  have hlx := row_lt HX.out
  have hzu := hgr.size
  have hcx0 : u0.cell? ⟨w.heap.size + 1 + 1, 0, none⟩ = some (.int .i64 0) := by rw [cell_of_row u0 _ 0 _ _ _ hx]; rfl
  have hfx0 : u0.frozen? ⟨w.heap.size + 1 + 1, 0, none⟩ = false := frozen_of_row u0 _ 0 _ _ hx
  have hx1 := heap_setCell_same u0 (w.heap.size + 1 + 1) 0 _ _ (.int .i64 (kd : Int)) hx
  have hoth : ∀ q, q ≠ w.heap.size + 1 + 1 → (u0.setCell ⟨w.heap.size + 1 + 1, 0, none⟩ (.int .i64 (kd : Int))).heap[q]? = u0.heap[q]? := fun q hq => heap_setCell_other _ ⟨w.heap.size + 1 + 1, 0, none⟩ q _ hq
  have hsz : (u0.setCell ⟨w.heap.size + 1 + 1, 0, none⟩ (.int .i64 (kd : Int))).heap.size = u0.heap.size := by simp only [size_setCell']
  replace HX := Lib.hid (show (u0.setCell ⟨w.heap.size + 1 + 1, 0, none⟩ (.int .i64 (kd : Int))).heap[w.heap.size + 1 + 1]? = some (.cells #[.int .i64 (kd : Int), .int .i64 0, .int .i64 0, .int .u64 0, .int .u64 0, .int .u64 0, .int .u64 0, .int .u64 0, .bool false, .slice none 0 0, .slice none 0 0, .slice none 0 0, .int .i64 0, .slice none 0 0] 29 (0, 0)) from hx1)
  replace HR := Lib.hid ((hoth w.heap.size (by omega)).trans hr)
  replace HIN := Lib.hid (inAt_set (X := w.heap.size + 1 + 1) hin (by omega) (by omega) 0 (.int .i64 (kd : Int)))
  replace HB := Lib.hid (hb.setCell (p := ⟨w.heap.size + 1 + 1, 0, none⟩) (by show w.heap.size ≤ w.heap.size + 1 + 1; omega) (.int .i64 (kd : Int)))
  clear hoth hsz hcall hx hx1 hr hb hin hgr hlx hzu hzw
  go_wp2_with fail
  generalize (u0.setCell ⟨w.heap.size + 1 + 1, 0, none⟩ (.int .i64 (kd : Int))) = w1 at HX HR HIN HB ⊢
  clear hcx0 hfx0
  have hzw := HB.out.size
  have hcall : Calls Tryz.prog 22 #[.pointer (some ⟨w.heap.size + 1, 0, none⟩), .int .u64 16] w1 _ := inInt_any w.heap.size (w.heap.size + 1) b s1 16 (by decide) w1 HIN.out
  rw [HQ2.out] at hcall
  refine hcall.mono ?_
  rintro e u1 ⟨rfl, hin, hgr⟩
  have hx := (hgr.block (w.heap.size + 1 + 1) (row_lt HX.out) (fun e => by have := Option.some.inj e; omega)).trans HX.out
  have hr := (hgr.block w.heap.size (row_lt HR.out) (fun e => by have := Option.some.inj e; omega)).trans HR.out
  have hb := HB.out.grown hgr hzw (fun k e => by have := Option.some.inj e; omega)
  have hlx := row_lt HX.out
  have hzu := hgr.size
  have hcx0 : u1.cell? ⟨w.heap.size + 1 + 1, 1, none⟩ = some (.int .i64 0) := by rw [cell_of_row u1 _ 1 _ _ _ hx]; rfl
  have hfx0 : u1.frozen? ⟨w.heap.size + 1 + 1, 1, none⟩ = false := frozen_of_row u1 _ 1 _ _ hx
  have hx1 := heap_setCell_same u1 (w.heap.size + 1 + 1) 1 _ _ (.int .i64 (fr : Int)) hx
  have hoth : ∀ q, q ≠ w.heap.size + 1 + 1 → (u1.setCell ⟨w.heap.size + 1 + 1, 1, none⟩ (.int .i64 (fr : Int))).heap[q]? = u1.heap[q]? := fun q hq => heap_setCell_other _ ⟨w.heap.size + 1 + 1, 1, none⟩ q _ hq
  have hsz : (u1.setCell ⟨w.heap.size + 1 + 1, 1, none⟩ (.int .i64 (fr : Int))).heap.size = u1.heap.size := by simp only [size_setCell']
  replace HX := Lib.hid (show (u1.setCell ⟨w.heap.size + 1 + 1, 1, none⟩ (.int .i64 (fr : Int))).heap[w.heap.size + 1 + 1]? = some (.cells #[.int .i64 (kd : Int), .int .i64 (fr : Int), .int .i64 0, .int .u64 0, .int .u64 0, .int .u64 0, .int .u64 0, .int .u64 0, .bool false, .slice none 0 0, .slice none 0 0, .slice none 0 0, .int .i64 0, .slice none 0 0] 29 (0, 0)) from hx1)
  replace HR := Lib.hid ((hoth w.heap.size (by omega)).trans hr)
  replace HIN := Lib.hid (inAt_set (X := w.heap.size + 1 + 1) hin (by omega) (by omega) 1 (.int .i64 (fr : Int)))
  replace HB := Lib.hid (hb.setCell (p := ⟨w.heap.size + 1 + 1, 1, none⟩) (by show w.heap.size ≤ w.heap.size + 1 + 1; omega) (.int .i64 (fr : Int)))
  clear hoth hsz hcall hx hx1 hr hb hin hgr hlx hzu hzw
  go_wp2_with fail
  generalize (u1.setCell ⟨w.heap.size + 1 + 1, 1, none⟩ (.int .i64 (fr : Int))) = w2 at HX HR HIN HB ⊢
  clear hcx0 hfx0
  have hzw := HB.out.size
  have hcall : Calls Tryz.prog 22 #[.pointer (some ⟨w.heap.size + 1, 0, none⟩), .int .u64 16] w2 _ := inInt_any w.heap.size (w.heap.size + 1) b s2 16 (by decide) w2 HIN.out
  rw [HQ3.out] at hcall
  refine hcall.mono ?_
  rintro e u2 ⟨rfl, hin, hgr⟩
  have hx := (hgr.block (w.heap.size + 1 + 1) (row_lt HX.out) (fun e => by have := Option.some.inj e; omega)).trans HX.out
  have hr := (hgr.block w.heap.size (row_lt HR.out) (fun e => by have := Option.some.inj e; omega)).trans HR.out
  have hb := HB.out.grown hgr hzw (fun k e => by have := Option.some.inj e; omega)
  have hlx := row_lt HX.out
  have hzu := hgr.size
  have hcx0 : u2.cell? ⟨w.heap.size + 1 + 1, 2, none⟩ = some (.int .i64 0) := by rw [cell_of_row u2 _ 2 _ _ _ hx]; rfl
  have hfx0 : u2.frozen? ⟨w.heap.size + 1 + 1, 2, none⟩ = false := frozen_of_row u2 _ 2 _ _ hx
  have hx1 := heap_setCell_same u2 (w.heap.size + 1 + 1) 2 _ _ (.int .i64 (tt : Int)) hx
  have hoth : ∀ q, q ≠ w.heap.size + 1 + 1 → (u2.setCell ⟨w.heap.size + 1 + 1, 2, none⟩ (.int .i64 (tt : Int))).heap[q]? = u2.heap[q]? := fun q hq => heap_setCell_other _ ⟨w.heap.size + 1 + 1, 2, none⟩ q _ hq
  have hsz : (u2.setCell ⟨w.heap.size + 1 + 1, 2, none⟩ (.int .i64 (tt : Int))).heap.size = u2.heap.size := by simp only [size_setCell']
  replace HX := Lib.hid (show (u2.setCell ⟨w.heap.size + 1 + 1, 2, none⟩ (.int .i64 (tt : Int))).heap[w.heap.size + 1 + 1]? = some (.cells #[.int .i64 (kd : Int), .int .i64 (fr : Int), .int .i64 (tt : Int), .int .u64 0, .int .u64 0, .int .u64 0, .int .u64 0, .int .u64 0, .bool false, .slice none 0 0, .slice none 0 0, .slice none 0 0, .int .i64 0, .slice none 0 0] 29 (0, 0)) from hx1)
  replace HR := Lib.hid ((hoth w.heap.size (by omega)).trans hr)
  replace HIN := Lib.hid (inAt_set (X := w.heap.size + 1 + 1) hin (by omega) (by omega) 2 (.int .i64 (tt : Int)))
  replace HB := Lib.hid (hb.setCell (p := ⟨w.heap.size + 1 + 1, 2, none⟩) (by show w.heap.size ≤ w.heap.size + 1 + 1; omega) (.int .i64 (tt : Int)))
  clear hoth hsz hcall hx hx1 hr hb hin hgr hlx hzu hzw
  go_wp2_with fail
  generalize (u2.setCell ⟨w.heap.size + 1 + 1, 2, none⟩ (.int .i64 (tt : Int))) = w3 at HX HR HIN HB ⊢
  clear hcx0 hfx0
  have hzw := HB.out.size
  have hcall := inNum_any w.heap.size (w.heap.size + 1) b s3 w3 HIN.out
  rw [HQ4.out] at hcall
  refine hcall.mono ?_
  rintro e u3 ⟨rfl, hin, hgr⟩
  have hx := (hgr.block (w.heap.size + 1 + 1) (row_lt HX.out) (fun e => by have := Option.some.inj e; omega)).trans HX.out
  have hr := (hgr.block w.heap.size (row_lt HR.out) (fun e => by have := Option.some.inj e; omega)).trans HR.out
  have hb := HB.out.grown hgr hzw (fun k e => by have := Option.some.inj e; omega)
  have hlx := row_lt HX.out
  have hzu := hgr.size
  have hcx0 : u3.cell? ⟨w.heap.size + 1 + 1, 3, none⟩ = some (.int .u64 0) := by rw [cell_of_row u3 _ 3 _ _ _ hx]; rfl
  have hfx0 : u3.frozen? ⟨w.heap.size + 1 + 1, 3, none⟩ = false := frozen_of_row u3 _ 3 _ _ hx
  have hx1 := heap_setCell_same u3 (w.heap.size + 1 + 1) 3 _ _ (.int .u64 (tm : Int)) hx
  have hoth : ∀ q, q ≠ w.heap.size + 1 + 1 → (u3.setCell ⟨w.heap.size + 1 + 1, 3, none⟩ (.int .u64 (tm : Int))).heap[q]? = u3.heap[q]? := fun q hq => heap_setCell_other _ ⟨w.heap.size + 1 + 1, 3, none⟩ q _ hq
  have hsz : (u3.setCell ⟨w.heap.size + 1 + 1, 3, none⟩ (.int .u64 (tm : Int))).heap.size = u3.heap.size := by simp only [size_setCell']
  replace HX := Lib.hid (show (u3.setCell ⟨w.heap.size + 1 + 1, 3, none⟩ (.int .u64 (tm : Int))).heap[w.heap.size + 1 + 1]? = some (.cells #[.int .i64 (kd : Int), .int .i64 (fr : Int), .int .i64 (tt : Int), .int .u64 (tm : Int), .int .u64 0, .int .u64 0, .int .u64 0, .int .u64 0, .bool false, .slice none 0 0, .slice none 0 0, .slice none 0 0, .int .i64 0, .slice none 0 0] 29 (0, 0)) from hx1)
  replace HR := Lib.hid ((hoth w.heap.size (by omega)).trans hr)
  replace HIN := Lib.hid (inAt_set (X := w.heap.size + 1 + 1) hin (by omega) (by omega) 3 (.int .u64 (tm : Int)))
  replace HB := Lib.hid (hb.setCell (p := ⟨w.heap.size + 1 + 1, 3, none⟩) (by show w.heap.size ≤ w.heap.size + 1 + 1; omega) (.int .u64 (tm : Int)))
  clear hoth hsz hcall hx hx1 hr hb hin hgr hlx hzu hzw
  go_wp2_with fail
  generalize (u3.setCell ⟨w.heap.size + 1 + 1, 3, none⟩ (.int .u64 (tm : Int))) = w4 at HX HR HIN HB ⊢
  clear hcx0 hfx0
  have hzw := HB.out.size
  have hcall := inNum_any w.heap.size (w.heap.size + 1) b s4 w4 HIN.out
  rw [HQ5.out] at hcall
  refine hcall.mono ?_
  rintro e u4 ⟨rfl, hin, hgr⟩
  have hx := (hgr.block (w.heap.size + 1 + 1) (row_lt HX.out) (fun e => by have := Option.some.inj e; omega)).trans HX.out
  have hr := (hgr.block w.heap.size (row_lt HR.out) (fun e => by have := Option.some.inj e; omega)).trans HR.out
  have hb := HB.out.grown hgr hzw (fun k e => by have := Option.some.inj e; omega)
  have hlx := row_lt HX.out
  have hzu := hgr.size
  have hcx0 : u4.cell? ⟨w.heap.size + 1 + 1, 4, none⟩ = some (.int .u64 0) := by rw [cell_of_row u4 _ 4 _ _ _ hx]; rfl
  have hfx0 : u4.frozen? ⟨w.heap.size + 1 + 1, 4, none⟩ = false := frozen_of_row u4 _ 4 _ _ hx
  have hx1 := heap_setCell_same u4 (w.heap.size + 1 + 1) 4 _ _ (.int .u64 (ix : Int)) hx
  have hoth : ∀ q, q ≠ w.heap.size + 1 + 1 → (u4.setCell ⟨w.heap.size + 1 + 1, 4, none⟩ (.int .u64 (ix : Int))).heap[q]? = u4.heap[q]? := fun q hq => heap_setCell_other _ ⟨w.heap.size + 1 + 1, 4, none⟩ q _ hq
  have hsz : (u4.setCell ⟨w.heap.size + 1 + 1, 4, none⟩ (.int .u64 (ix : Int))).heap.size = u4.heap.size := by simp only [size_setCell']
  replace HX := Lib.hid (show (u4.setCell ⟨w.heap.size + 1 + 1, 4, none⟩ (.int .u64 (ix : Int))).heap[w.heap.size + 1 + 1]? = some (.cells #[.int .i64 (kd : Int), .int .i64 (fr : Int), .int .i64 (tt : Int), .int .u64 (tm : Int), .int .u64 (ix : Int), .int .u64 0, .int .u64 0, .int .u64 0, .bool false, .slice none 0 0, .slice none 0 0, .slice none 0 0, .int .i64 0, .slice none 0 0] 29 (0, 0)) from hx1)
  replace HR := Lib.hid ((hoth w.heap.size (by omega)).trans hr)
  replace HIN := Lib.hid (inAt_set (X := w.heap.size + 1 + 1) hin (by omega) (by omega) 4 (.int .u64 (ix : Int)))
  replace HB := Lib.hid (hb.setCell (p := ⟨w.heap.size + 1 + 1, 4, none⟩) (by show w.heap.size ≤ w.heap.size + 1 + 1; omega) (.int .u64 (ix : Int)))
  clear hoth hsz hcall hx hx1 hr hb hin hgr hlx hzu hzw
  go_wp2_with fail
  generalize (u4.setCell ⟨w.heap.size + 1 + 1, 4, none⟩ (.int .u64 (ix : Int))) = w5 at HX HR HIN HB ⊢
  clear hcx0 hfx0
  have hzw := HB.out.size
  have hcall := inNum_any w.heap.size (w.heap.size + 1) b s5 w5 HIN.out
  rw [HQ6.out] at hcall
  refine hcall.mono ?_
  rintro e u5 ⟨rfl, hin, hgr⟩
  have hx := (hgr.block (w.heap.size + 1 + 1) (row_lt HX.out) (fun e => by have := Option.some.inj e; omega)).trans HX.out
  have hr := (hgr.block w.heap.size (row_lt HR.out) (fun e => by have := Option.some.inj e; omega)).trans HR.out
  have hb := HB.out.grown hgr hzw (fun k e => by have := Option.some.inj e; omega)
  have hlx := row_lt HX.out
  have hzu := hgr.size
  have hcx0 : u5.cell? ⟨w.heap.size + 1 + 1, 5, none⟩ = some (.int .u64 0) := by rw [cell_of_row u5 _ 5 _ _ _ hx]; rfl
  have hfx0 : u5.frozen? ⟨w.heap.size + 1 + 1, 5, none⟩ = false := frozen_of_row u5 _ 5 _ _ hx
  have hx1 := heap_setCell_same u5 (w.heap.size + 1 + 1) 5 _ _ (.int .u64 (lt : Int)) hx
  have hoth : ∀ q, q ≠ w.heap.size + 1 + 1 → (u5.setCell ⟨w.heap.size + 1 + 1, 5, none⟩ (.int .u64 (lt : Int))).heap[q]? = u5.heap[q]? := fun q hq => heap_setCell_other _ ⟨w.heap.size + 1 + 1, 5, none⟩ q _ hq
  have hsz : (u5.setCell ⟨w.heap.size + 1 + 1, 5, none⟩ (.int .u64 (lt : Int))).heap.size = u5.heap.size := by simp only [size_setCell']
  replace HX := Lib.hid (show (u5.setCell ⟨w.heap.size + 1 + 1, 5, none⟩ (.int .u64 (lt : Int))).heap[w.heap.size + 1 + 1]? = some (.cells #[.int .i64 (kd : Int), .int .i64 (fr : Int), .int .i64 (tt : Int), .int .u64 (tm : Int), .int .u64 (ix : Int), .int .u64 (lt : Int), .int .u64 0, .int .u64 0, .bool false, .slice none 0 0, .slice none 0 0, .slice none 0 0, .int .i64 0, .slice none 0 0] 29 (0, 0)) from hx1)
  replace HR := Lib.hid ((hoth w.heap.size (by omega)).trans hr)
  replace HIN := Lib.hid (inAt_set (X := w.heap.size + 1 + 1) hin (by omega) (by omega) 5 (.int .u64 (lt : Int)))
  replace HB := Lib.hid (hb.setCell (p := ⟨w.heap.size + 1 + 1, 5, none⟩) (by show w.heap.size ≤ w.heap.size + 1 + 1; omega) (.int .u64 (lt : Int)))
  clear hoth hsz hcall hx hx1 hr hb hin hgr hlx hzu hzw
  go_wp2_with fail
  generalize (u5.setCell ⟨w.heap.size + 1 + 1, 5, none⟩ (.int .u64 (lt : Int))) = w6 at HX HR HIN HB ⊢
  clear hcx0 hfx0
  have hzw := HB.out.size
  have hcall := inNum_any w.heap.size (w.heap.size + 1) b s6 w6 HIN.out
  rw [HQ7.out] at hcall
  refine hcall.mono ?_
  rintro e u6 ⟨rfl, hin, hgr⟩
  have hx := (hgr.block (w.heap.size + 1 + 1) (row_lt HX.out) (fun e => by have := Option.some.inj e; omega)).trans HX.out
  have hr := (hgr.block w.heap.size (row_lt HR.out) (fun e => by have := Option.some.inj e; omega)).trans HR.out
  have hb := HB.out.grown hgr hzw (fun k e => by have := Option.some.inj e; omega)
  have hlx := row_lt HX.out
  have hzu := hgr.size
  have hcx0 : u6.cell? ⟨w.heap.size + 1 + 1, 6, none⟩ = some (.int .u64 0) := by rw [cell_of_row u6 _ 6 _ _ _ hx]; rfl
  have hfx0 : u6.frozen? ⟨w.heap.size + 1 + 1, 6, none⟩ = false := frozen_of_row u6 _ 6 _ _ hx
  have hx1 := heap_setCell_same u6 (w.heap.size + 1 + 1) 6 _ _ (.int .u64 (cm : Int)) hx
  have hoth : ∀ q, q ≠ w.heap.size + 1 + 1 → (u6.setCell ⟨w.heap.size + 1 + 1, 6, none⟩ (.int .u64 (cm : Int))).heap[q]? = u6.heap[q]? := fun q hq => heap_setCell_other _ ⟨w.heap.size + 1 + 1, 6, none⟩ q _ hq
  have hsz : (u6.setCell ⟨w.heap.size + 1 + 1, 6, none⟩ (.int .u64 (cm : Int))).heap.size = u6.heap.size := by simp only [size_setCell']
  replace HX := Lib.hid (show (u6.setCell ⟨w.heap.size + 1 + 1, 6, none⟩ (.int .u64 (cm : Int))).heap[w.heap.size + 1 + 1]? = some (.cells #[.int .i64 (kd : Int), .int .i64 (fr : Int), .int .i64 (tt : Int), .int .u64 (tm : Int), .int .u64 (ix : Int), .int .u64 (lt : Int), .int .u64 (cm : Int), .int .u64 0, .bool false, .slice none 0 0, .slice none 0 0, .slice none 0 0, .int .i64 0, .slice none 0 0] 29 (0, 0)) from hx1)
  replace HR := Lib.hid ((hoth w.heap.size (by omega)).trans hr)
  replace HIN := Lib.hid (inAt_set (X := w.heap.size + 1 + 1) hin (by omega) (by omega) 6 (.int .u64 (cm : Int)))
  replace HB := Lib.hid (hb.setCell (p := ⟨w.heap.size + 1 + 1, 6, none⟩) (by show w.heap.size ≤ w.heap.size + 1 + 1; omega) (.int .u64 (cm : Int)))
  clear hoth hsz hcall hx hx1 hr hb hin hgr hlx hzu hzw
  go_wp2_with fail
  generalize (u6.setCell ⟨w.heap.size + 1 + 1, 6, none⟩ (.int .u64 (cm : Int))) = w7 at HX HR HIN HB ⊢
  clear hcx0 hfx0
  have hzw := HB.out.size
  have hcall := inNum_any w.heap.size (w.heap.size + 1) b s7 w7 HIN.out
  rw [HQ8.out] at hcall
  refine hcall.mono ?_
  rintro e u7 ⟨rfl, hin, hgr⟩
  have hx := (hgr.block (w.heap.size + 1 + 1) (row_lt HX.out) (fun e => by have := Option.some.inj e; omega)).trans HX.out
  have hr := (hgr.block w.heap.size (row_lt HR.out) (fun e => by have := Option.some.inj e; omega)).trans HR.out
  have hb := HB.out.grown hgr hzw (fun k e => by have := Option.some.inj e; omega)
  have hlx := row_lt HX.out
  have hzu := hgr.size
  have hcx0 : u7.cell? ⟨w.heap.size + 1 + 1, 7, none⟩ = some (.int .u64 0) := by rw [cell_of_row u7 _ 7 _ _ _ hx]; rfl
  have hfx0 : u7.frozen? ⟨w.heap.size + 1 + 1, 7, none⟩ = false := frozen_of_row u7 _ 7 _ _ hx
  have hx1 := heap_setCell_same u7 (w.heap.size + 1 + 1) 7 _ _ (.int .u64 (rd : Int)) hx
  have hoth : ∀ q, q ≠ w.heap.size + 1 + 1 → (u7.setCell ⟨w.heap.size + 1 + 1, 7, none⟩ (.int .u64 (rd : Int))).heap[q]? = u7.heap[q]? := fun q hq => heap_setCell_other _ ⟨w.heap.size + 1 + 1, 7, none⟩ q _ hq
  have hsz : (u7.setCell ⟨w.heap.size + 1 + 1, 7, none⟩ (.int .u64 (rd : Int))).heap.size = u7.heap.size := by simp only [size_setCell']
  replace HX := Lib.hid (show (u7.setCell ⟨w.heap.size + 1 + 1, 7, none⟩ (.int .u64 (rd : Int))).heap[w.heap.size + 1 + 1]? = some (.cells #[.int .i64 (kd : Int), .int .i64 (fr : Int), .int .i64 (tt : Int), .int .u64 (tm : Int), .int .u64 (ix : Int), .int .u64 (lt : Int), .int .u64 (cm : Int), .int .u64 (rd : Int), .bool false, .slice none 0 0, .slice none 0 0, .slice none 0 0, .int .i64 0, .slice none 0 0] 29 (0, 0)) from hx1)
  replace HR := Lib.hid ((hoth w.heap.size (by omega)).trans hr)
  replace HIN := Lib.hid (inAt_set (X := w.heap.size + 1 + 1) hin (by omega) (by omega) 7 (.int .u64 (rd : Int)))
  replace HB := Lib.hid (hb.setCell (p := ⟨w.heap.size + 1 + 1, 7, none⟩) (by show w.heap.size ≤ w.heap.size + 1 + 1; omega) (.int .u64 (rd : Int)))
  clear hoth hsz hcall hx hx1 hr hb hin hgr hlx hzu hzw
  go_wp2_with fail
  generalize (u7.setCell ⟨w.heap.size + 1 + 1, 7, none⟩ (.int .u64 (rd : Int))) = w8 at HX HR HIN HB ⊢
  clear hcx0 hfx0
  have hzw := HB.out.size
  have hcall : Calls Tryz.prog 22 #[.pointer (some ⟨w.heap.size + 1, 0, none⟩), .int .u64 1] w8 _ := inInt_any w.heap.size (w.heap.size + 1) b s8 1 (by decide) w8 HIN.out
  rw [HQ9.out] at hcall
  refine hcall.mono ?_
  rintro e u8 ⟨rfl, hin, hgr⟩
  have hfa := HFL9.out
  have hfb := HFM9.out
  have hx := (hgr.block (w.heap.size + 1 + 1) (row_lt HX.out) (fun e => by have := Option.some.inj e; omega)).trans HX.out
  have hr := (hgr.block w.heap.size (row_lt HR.out) (fun e => by have := Option.some.inj e; omega)).trans HR.out
  have hb := HB.out.grown hgr hzw (fun k e => by have := Option.some.inj e; omega)
  have hlx := row_lt HX.out
  have hzu := hgr.size
  have hcx0 : u8.cell? ⟨w.heap.size + 1 + 1, 8, none⟩ = some (.bool false) := by rw [cell_of_row u8 _ 8 _ _ _ hx]; rfl
  have hfx0 : u8.frozen? ⟨w.heap.size + 1 + 1, 8, none⟩ = false := frozen_of_row u8 _ 8 _ _ hx
  have hx1 := heap_setCell_same u8 (w.heap.size + 1 + 1) 8 _ _ (.bool ok) hx
  have hoth : ∀ q, q ≠ w.heap.size + 1 + 1 → (u8.setCell ⟨w.heap.size + 1 + 1, 8, none⟩ (.bool ok)).heap[q]? = u8.heap[q]? := fun q hq => heap_setCell_other _ ⟨w.heap.size + 1 + 1, 8, none⟩ q _ hq
  have hsz : (u8.setCell ⟨w.heap.size + 1 + 1, 8, none⟩ (.bool ok)).heap.size = u8.heap.size := by simp only [size_setCell']
  replace HX := Lib.hid (show (u8.setCell ⟨w.heap.size + 1 + 1, 8, none⟩ (.bool ok)).heap[w.heap.size + 1 + 1]? = some (.cells #[.int .i64 (kd : Int), .int .i64 (fr : Int), .int .i64 (tt : Int), .int .u64 (tm : Int), .int .u64 (ix : Int), .int .u64 (lt : Int), .int .u64 (cm : Int), .int .u64 (rd : Int), .bool ok, .slice none 0 0, .slice none 0 0, .slice none 0 0, .int .i64 0, .slice none 0 0] 29 (0, 0)) from hx1)
  replace HR := Lib.hid ((hoth w.heap.size (by omega)).trans hr)
  replace HIN := Lib.hid (inAt_set (X := w.heap.size + 1 + 1) hin (by omega) (by omega) 8 (.bool ok))
  replace HB := Lib.hid (hb.setCell (p := ⟨w.heap.size + 1 + 1, 8, none⟩) (by show w.heap.size ≤ w.heap.size + 1 + 1; omega) (.bool ok))
  clear hoth hsz hcall hx hx1 hr hb hin hgr hlx hzu hzw
  go_wp2_with fail
  generalize (u8.setCell ⟨w.heap.size + 1 + 1, 8, none⟩ (.bool ok)) = w9 at HX HR HIN HB ⊢
  clear hcx0 hfx0 hfa hfb
  have hzw := HB.out.size
  have hcall : Calls Tryz.prog 22 #[.pointer (some ⟨w.heap.size + 1, 0, none⟩), .int .u64 8] w9 _ := inInt_any w.heap.size (w.heap.size + 1) b s9 8 (by decide) w9 HIN.out
  rw [HQN.out] at hcall
  refine hcall.mono ?_
  rintro e u9 ⟨rfl, hin, hgr⟩
  have hx := (hgr.block (w.heap.size + 1 + 1) (row_lt HX.out) (fun e => by have := Option.some.inj e; omega)).trans HX.out
  have hr := (hgr.block w.heap.size (row_lt HR.out) (fun e => by have := Option.some.inj e; omega)).trans HR.out
  have hb := HB.out.grown hgr hzw (fun k e => by have := Option.some.inj e; omega)
  replace HX := Lib.hid hx
  replace HR := Lib.hid hr
  replace HIN := Lib.hid hin
  replace HB := Lib.hid hb
  clear hzw hcall hx hr hb hin hgr
  go_upto_block 0 with fail
  go_cut [7] (fun _ wx => ∃ (Ae : Option Addr) (ce : Nat), wx.heap[w.heap.size + 1 + 1]? = some (.cells #[.int .i64 (kd : Int), .int .i64 (fr : Int), .int .i64 (tt : Int), .int .u64 (tm : Int), .int .u64 (ix : Int), .int .u64 (lt : Int), .int .u64 (cm : Int), .int .u64 (rd : Int), .bool ok, .slice Ae es.length ce, .slice none 0 0, .slice none 0 0, .int .i64 0, .slice none 0 0] 29 (0, 0)) ∧ wx.heap[w.heap.size]? = some (.cells #[.int .i64 0, .int .i64 0, .int .i64 0, .int .u64 0, .int .u64 0, .int .u64 0, .int .u64 0, .int .u64 0, .bool false, .slice none 0 0, .slice none 0 0, .slice none 0 0, .int .i64 0, .slice none 0 0] 29 (0, 0)) ∧ InAt w.heap.size (w.heap.size + 1) wx b s10 ∧ Below w.heap.size w wx ∧ entsK.rep wx (fun q => w.heap.size + 1 + 1 < q ∧ q < wx.heap.size) [.slice Ae es.length ce] (.agg es))
  case first =>
    have hux := row_lt HX.out
    go_wp2_with fail
    go_loopw [7] (fun i wr => ∃ (j : Nat) (ds : List Data) (A0 : Option Addr) (c0 : Nat) (rows : List Value) (s1 : St), j ≤ en ∧ i = .int .i64 (j : Int) ∧ wr.heap[w.heap.size + 1 + 1]? = some (.cells #[.int .i64 (kd : Int), .int .i64 (fr : Int), .int .i64 (tt : Int), .int .u64 (tm : Int), .int .u64 (ix : Int), .int .u64 (lt : Int), .int .u64 (cm : Int), .int .u64 (rd : Int), .bool ok, .slice A0 j c0, .slice none 0 0, .slice none 0 0, .int .i64 0, .slice none 0 0] 29 (0, 0)) ∧ wr.heap[w.heap.size]? = some (.cells #[.int .i64 0, .int .i64 0, .int .i64 0, .int .u64 0, .int .u64 0, .int .u64 0, .int .u64 0, .int .u64 0, .bool false, .slice none 0 0, .slice none 0 0, .slice none 0 0, .int .i64 0, .slice none 0 0] 29 (0, 0)) ∧ InAt w.heap.size (w.heap.size + 1) wr b s1 ∧ Below w.heap.size w wr ∧ u9.heap.size ≤ wr.heap.size ∧
      wr.ownsRow u9.heap.size 67 5 (.slice A0 j c0) j rows ∧ ds.length = j ∧ Items entryK u9 wr (.slice A0 j c0) rows ds ∧ (es, s10) = (ds ++ (pRun pEntryD (en - j) s1).1, (pRun pEntryD (en - j) s1).2)) (fun i _ => en - (intOf i).toNat)
    case atStart => exact ⟨0, [], none, 0, [], t0, Nat.zero_le _, rfl, HX.out, HR.out, HIN.out, HB.out, Nat.le_refl _, World.ownsRow_nil _ _ _ _, rfl, Items.nil _ _ _ _ _, by rw [← HQ10.out]; rfl⟩
    case round =>
      clear HX HR HIN HB
      obtain ⟨j, ds, A0, c0, rows, s1, hj, rfl, hx, hr, hin, hb, hz, hown, hdl, hit, hps⟩ := hrel
      obtain ⟨_, _, hbad⟩ := hin.row
      have HX := Lib.hid hx
      have HR := Lib.hid hr
      have HIN := Lib.hid hin
      have HB := Lib.hid hb
      have HOWN := Lib.hid hown
      have HDL := Lib.hid hdl
      have HIT := Lib.hid hit
      have HPS := Lib.hid hps
      clear hx hr hin hb hown hdl hit hps
      by_cases hkn : j < en
      · have hd : decide ((j : Int) < (en : Int)) = true := decide_eq_true (by omega)
        cases s1 with
        | none =>
          have hps := HPS.out
          rw [pRun_none, List.append_nil] at hps
          injection hps with h1 h2
          have hl : j = es.length := by rw [h1, HDL.out]
          have HEX := Lib.hid (show ∃ (Ae : Option Addr) (ce : Nat), wr.heap[w.heap.size + 1 + 1]? = some (.cells #[.int .i64 (kd : Int), .int .i64 (fr : Int), .int .i64 (tt : Int), .int .u64 (tm : Int), .int .u64 (ix : Int), .int .u64 (lt : Int), .int .u64 (cm : Int), .int .u64 (rd : Int), .bool ok, .slice Ae es.length ce, .slice none 0 0, .slice none 0 0, .int .i64 0, .slice none 0 0] 29 (0, 0)) ∧ wr.heap[w.heap.size]? = some (.cells #[.int .i64 0, .int .i64 0, .int .i64 0, .int .u64 0, .int .u64 0, .int .u64 0, .int .u64 0, .int .u64 0, .bool false, .slice none 0 0, .slice none 0 0, .slice none 0 0, .int .i64 0, .slice none 0 0] 29 (0, 0)) ∧ InAt w.heap.size (w.heap.size + 1) wr b s10 ∧ Below w.heap.size w wr ∧ entsK.rep wr (fun q => w.heap.size + 1 + 1 < q ∧ q < wr.heap.size) [.slice Ae es.length ce] (.agg es) from
            ⟨A0, c0, hl ▸ HX.out, HR.out, h2 ▸ HIN.out, HB.out, by rw [← hl, h1]; exact entsK_ok.keep (Items.rep entryK_ok HIT.out (by rw [HDL.out]; exact HOWN.out) (by have h7 := HDL.out; have h8 := HEN.out; omega) 8) (fun _ _ => rfl) (fun q hq => ⟨by have := hq.1; omega, hq.2⟩)⟩)
          clear h1 h2 HPS HX HR HIN HB HIT HOWN
          go_wp2
          go_meet
          exact HEX.out
        | some r =>
          have hps := HPS.out
          rw [show en - j = (en - (j + 1)) + 1 by omega] at hps
          simp only [pRun] at hps
          have hlim := pEntry_lim (some r)
          have hil := inAt_len HIN.out
          have hcall := inEntry_any w.heap.size (w.heap.size + 1) b (some r) wr HIN.out HB.out.size
          rw [pEntryD_eq (some r)] at hps
          generalize pEntry (some r) = P at hps hlim hcall
          obtain ⟨⟨ix0, tm0, kd0, dl0, da0⟩, s2⟩ := P
          dsimp only at hps hlim hcall
          have HPS2 := Lib.hid hps
          have HLIM := Lib.hid hlim
          have HC := Lib.hid hcall
          have HIL := Lib.hid hil
          clear hps hlim hcall hil HPS
          go_wp2_with fail
          refine HC.out.mono ?_
          rintro e w2 ⟨v4, rfl, ho4, hin2, hgr2⟩
          have hil := HIL.out
          have hlim := HLIM.out
          obtain ⟨A4, c4, rfl, hc4, _, _, _, _⟩ := ho4.form
          have hrep2 : entryK.rep w2 (New wr w2) [.int .u64 (ix0 : Int), .int .u64 (tm0 : Int), .int .i64 (kd0 : Int), .int .i64 dl0, .slice A4 da0.length c4] (entryD ix0 tm0 kd0 dl0 da0) :=
            entry_rep hlim.1 hlim.2.1 (by omega) hlim.2.2.2.1 hc4 (by have := HM.out; omega) ((LiesS.own ho4).keep (fun _ _ => rfl) (fun q hq => hq))
          obtain ⟨us, hus⟩ : ∃ us, us = [Value.int .u64 (ix0 : Int), .int .u64 (tm0 : Int), .int .i64 (kd0 : Int), .int .i64 dl0, .slice A4 da0.length c4] := ⟨_, rfl⟩
          have hone : ∀ u ∈ [Value.int .u64 (ix0 : Int), .int .u64 (tm0 : Int), .int .i64 (kd0 : Int), .int .i64 dl0, .slice A4 da0.length c4], u.oneCell' = true := entryK_ok.one hrep2
          obtain ⟨Z, hZ⟩ : ∃ Z : Obj, Z = .cells #[.int .u64 (ix0 : Int), .int .u64 (tm0 : Int), .int .i64 (kd0 : Int), .int .i64 dl0, .slice A4 da0.length c4] 67 := ⟨_, rfl⟩
          have hzr := hgr2.size
          have hx2 := (hgr2.block (w.heap.size + 1 + 1) (row_lt HX.out) (fun e => by have := Option.some.inj e; omega)).trans HX.out
          have hr2 := (hgr2.block w.heap.size (row_lt HR.out) (fun e => by have := Option.some.inj e; omega)).trans HR.out
          have hb2 := HB.out.grown hgr2 HB.out.size (fun k e => by have := Option.some.inj e; omega)
          have hown2 : w2.ownsRow u9.heap.size 67 5 (.slice A0 j c0) j rows := HOWN.out.kept hgr2 (.inr fun e => by have := (HOWN.out.lt _ e).1; omega)
          have hxa := (heap_alloc_old w2 (.cells #[.int .u64 (ix0 : Int), .int .u64 (tm0 : Int), .int .i64 (kd0 : Int), .int .i64 dl0, .slice A4 da0.length c4] 67) (row_lt hx2)).trans hx2
          have hc9 : (w2.alloc (.cells #[.int .u64 (ix0 : Int), .int .u64 (tm0 : Int), .int .i64 (kd0 : Int), .int .i64 dl0, .slice A4 da0.length c4] 67)).cell? ⟨w.heap.size + 1 + 1, 9, none⟩ = some (.slice A0 j c0) := by rw [cell_of_row _ _ 9 _ _ _ hxa]; rfl
          have HX2 := Lib.hid hx2
          have HR2 := Lib.hid hr2
          have HB2 := Lib.hid hb2
          have HIN2 := Lib.hid hin2
          have HG2 := Lib.hid hgr2
          have HREP2 := Lib.hid hrep2
          have HOWD := Lib.hid (hown2.alloc (.cells #[.int .u64 (ix0 : Int), .int .u64 (tm0 : Int), .int .i64 (kd0 : Int), .int .i64 dl0, .slice A4 da0.length c4] 67))
          have HONE := Lib.hid hone
          have hj1 : j + 1 ≤ 9437185 := by have := HEN.out; omega
          have hbd : u9.heap.size ≤ (w2.alloc (.cells #[.int .u64 (ix0 : Int), .int .u64 (tm0 : Int), .int .i64 (kd0 : Int), .int .i64 dl0, .slice A4 da0.length c4] 67)).heap.size := by rw [World.size_alloc]; omega
          clear hx2 hr2 hb2 hin2 hgr2 hrep2 hown2 hxa hone hlim hil ho4 hus us hZ Z HX HR HB HIN HC
          go_wp2_with (at_builtin; refine wpList_pushE rfl (.tmp 58) (.tmp 60) rfl (v := .slice A0 j c0) (by simp [Act.eval]) HOWD.out (by simp [Act.eval]) rfl HONE.out hj1 hbd ?_)
          intro v3 w3 ho3 hg3 hb3
          obtain ⟨A3, c3, rfl, _, _, _⟩ := owns_form ho3
          obtain ⟨g1, g2, g3, g4⟩ := ents_round (X := w.heap.size + 1 + 1) (g := w.heap.size + 1) (by omega) hux hz HOWN.out HDL.out HIT.out HG2.out HREP2.out hg3 ho3 (by rw [World.size_alloc]; exact hb3)
          have hx3 := (g4 (w.heap.size + 1 + 1) hux).trans HX2.out
          have hr3 := (g4 w.heap.size (by omega)).trans HR2.out
          have hin3 := HIN2.out.kept (w' := w3) (fun q hq hq2 => g4 q (by omega))
          have hb3' : Below w.heap.size w w3 := ((HB2.out.alloc HB2.out.size _).alloc (by rw [World.size_alloc]; have := HB2.out.size; omega) _).grown hg3 (by rw [World.size_alloc, World.size_alloc]; have := HB2.out.size; omega) (fun k e => by have := (HOWN.out.lt k e).1; omega)
          have hc9' : w3.cell? ⟨w.heap.size + 1 + 1, 9, none⟩ = some (.slice A0 j c0) := by rw [cell_of_row _ _ 9 _ _ _ hx3]; rfl
          have hf9 : w3.frozen? ⟨w.heap.size + 1 + 1, 9, none⟩ = false := frozen_of_row _ _ 9 _ _ hx3
          have HEX := Lib.hid (show ∃ ds' rows', (w3.setCell ⟨w.heap.size + 1 + 1, 9, none⟩ (.slice A3 (j + 1) c3)).heap[w.heap.size + 1 + 1]? = some (.cells #[.int .i64 (kd : Int), .int .i64 (fr : Int), .int .i64 (tt : Int), .int .u64 (tm : Int), .int .u64 (ix : Int), .int .u64 (lt : Int), .int .u64 (cm : Int), .int .u64 (rd : Int), .bool ok, .slice A3 (j + 1) c3, .slice none 0 0, .slice none 0 0, .int .i64 0, .slice none 0 0] 29 (0, 0)) ∧ (w3.setCell ⟨w.heap.size + 1 + 1, 9, none⟩ (.slice A3 (j + 1) c3)).heap[w.heap.size]? = some (.cells #[.int .i64 0, .int .i64 0, .int .i64 0, .int .u64 0, .int .u64 0, .int .u64 0, .int .u64 0, .int .u64 0, .bool false, .slice none 0 0, .slice none 0 0, .slice none 0 0, .int .i64 0, .slice none 0 0] 29 (0, 0)) ∧ InAt w.heap.size (w.heap.size + 1) (w3.setCell ⟨w.heap.size + 1 + 1, 9, none⟩ (.slice A3 (j + 1) c3)) b s2 ∧ Below w.heap.size w (w3.setCell ⟨w.heap.size + 1 + 1, 9, none⟩ (.slice A3 (j + 1) c3)) ∧ u9.heap.size ≤ (w3.setCell ⟨w.heap.size + 1 + 1, 9, none⟩ (.slice A3 (j + 1) c3)).heap.size ∧
              (w3.setCell ⟨w.heap.size + 1 + 1, 9, none⟩ (.slice A3 (j + 1) c3)).ownsRow u9.heap.size 67 5 (.slice A3 (j + 1) c3) (j + 1) rows' ∧ ds'.length = j + 1 ∧ Items entryK u9 (w3.setCell ⟨w.heap.size + 1 + 1, 9, none⟩ (.slice A3 (j + 1) c3)) (.slice A3 (j + 1) c3) rows' ds' ∧ (es, s10) = (ds' ++ (pRun pEntryD (en - (j + 1)) s2).1, (pRun pEntryD (en - (j + 1)) s2).2) from
            ⟨ds ++ [entryD ix0 tm0 kd0 dl0 da0], _, by have h := heap_setCell_same w3 (w.heap.size + 1 + 1) 9 _ _ (.slice A3 (j + 1) c3) hx3; exact h, (heap_setCell_other w3 ⟨w.heap.size + 1 + 1, 9, none⟩ w.heap.size _ (by show w.heap.size ≠ w.heap.size + 1 + 1; omega)).trans hr3, inAt_set (X := w.heap.size + 1 + 1) hin3 (by omega) (by omega) 9 _, hb3'.setCell (p := ⟨w.heap.size + 1 + 1, 9, none⟩) (by show w.heap.size ≤ w.heap.size + 1 + 1; omega) _, by rw [size_setCell']; omega, g1, by rw [List.length_append, HDL.out]; rfl, g2, by rw [HPS2.out, List.append_assoc]; rfl⟩)
          clear ho3 hg3 hb3 g1 g2 g4 hx3 hr3 hin3 hb3' HX2 HR2 HB2 HIN2 HG2 HREP2 HOWD HONE HIT HOWN HPS2
          go_wp2
          go_roundw
          case rel =>
            obtain ⟨ds', rows', p1, p2, p3, p4, p5, p6, p7, p8, p9⟩ := HEX.out
            exact ⟨j + 1, ds', A3, c3, rows', s2, by omega, by go_num, p1, p2, p3, p4, p5, p6, p7, p8, p9⟩
          case measure => simp [intOf]; omega
      · obtain rfl : j = en := by omega
        have hd : decide ((j : Int) < (j : Int)) = false := decide_eq_false (by omega)
        have hps := HPS.out
        rw [Nat.sub_self] at hps
        simp only [pRun, List.append_nil] at hps
        injection hps with h1 h2
        have hl : j = es.length := by rw [h1, HDL.out]
        have HEX := Lib.hid (show ∃ (Ae : Option Addr) (ce : Nat), wr.heap[w.heap.size + 1 + 1]? = some (.cells #[.int .i64 (kd : Int), .int .i64 (fr : Int), .int .i64 (tt : Int), .int .u64 (tm : Int), .int .u64 (ix : Int), .int .u64 (lt : Int), .int .u64 (cm : Int), .int .u64 (rd : Int), .bool ok, .slice Ae es.length ce, .slice none 0 0, .slice none 0 0, .int .i64 0, .slice none 0 0] 29 (0, 0)) ∧ wr.heap[w.heap.size]? = some (.cells #[.int .i64 0, .int .i64 0, .int .i64 0, .int .u64 0, .int .u64 0, .int .u64 0, .int .u64 0, .int .u64 0, .bool false, .slice none 0 0, .slice none 0 0, .slice none 0 0, .int .i64 0, .slice none 0 0] 29 (0, 0)) ∧ InAt w.heap.size (w.heap.size + 1) wr b s10 ∧ Below w.heap.size w wr ∧ entsK.rep wr (fun q => w.heap.size + 1 + 1 < q ∧ q < wr.heap.size) [.slice Ae es.length ce] (.agg es) from
          ⟨A0, c0, hl ▸ HX.out, HR.out, h2 ▸ HIN.out, HB.out, by rw [← hl, h1]; exact entsK_ok.keep (Items.rep entryK_ok HIT.out (by rw [HDL.out]; exact HOWN.out) (by have h7 := HDL.out; have h8 := HEN.out; omega) 8) (fun _ _ => rfl) (fun q hq => ⟨by have := hq.1; omega, hq.2⟩)⟩)
        clear h1 h2 HPS HX HR HIN HB HIT HOWN
        go_wp2
        go_meet
        exact HEX.out
  obtain ⟨Ae, ce, hx, hr, hin, hb, hpe⟩ := hcut
  replace HX := Lib.hid hx
  replace HR := Lib.hid hr
  replace HIN := Lib.hid hin
  replace HB := Lib.hid hb
  have HPE := Lib.hid hpe
  clear hx hr hin hb hpe
  go_wp2_with fail
  generalize wc = w10 at *
  have hzw := HB.out.size
  have hcall := inConf_any w.heap.size (w.heap.size + 1) b s10 w10 HIN.out hzw
  rw [HQ11.out] at hcall
  refine hcall.mono ?_
  rintro e u10 ⟨v0, v1, rfl, ho0, ho1, hin, hgr⟩
  obtain ⟨A0, c0, rfl, hc0, hM0⟩ := ho0.form
  obtain ⟨A1, c1, rfl, hc1, hM1⟩ := ho1.form
  have hx := (hgr.block (w.heap.size + 1 + 1) (row_lt HX.out) (fun e => by have := Option.some.inj e; omega)).trans HX.out
  have hr := (hgr.block w.heap.size (row_lt HR.out) (fun e => by have := Option.some.inj e; omega)).trans HR.out
  have hb := HB.out.grown hgr hzw (fun k e => by have := Option.some.inj e; omega)
  have hlx := row_lt HX.out
  have hzu := hgr.size
  have hpe := entsK_ok.keep HPE.out (S' := (fun q => w.heap.size + 1 + 1 < q ∧ q < u10.heap.size)) (fun q hq => hgr.block q hq.2 (fun e => by have := Option.some.inj e; have := hq.1; omega)) (fun q hq => ⟨hq.1, Nat.lt_of_lt_of_le hq.2 hzu⟩)
  have hpc : confK.rep u10 (fun q => w.heap.size + 1 + 1 < q ∧ q < u10.heap.size) [.slice A0 vs.length c0, .slice A1 ls.length c1] (confD (asI vs) (asI ls)) := ownI_conf ho0 ho1 HL0.out HL1.out HL2.out HL3.out (fun q h1 h2 => ⟨by omega, h2⟩)
  have hcx0 : u10.cell? ⟨w.heap.size + 1 + 1, 10, none⟩ = some (.slice none 0 0) := by rw [cell_of_row u10 _ 10 _ _ _ hx]; rfl
  have hfx0 : u10.frozen? ⟨w.heap.size + 1 + 1, 10, none⟩ = false := frozen_of_row u10 _ 10 _ _ hx
  have hcx1 : u10.cell? ⟨w.heap.size + 1 + 1, 11, none⟩ = some (.slice none 0 0) := by rw [cell_of_row u10 _ 11 _ _ _ hx]; rfl
  have hfx1 : u10.frozen? ⟨w.heap.size + 1 + 1, 11, none⟩ = false := frozen_of_row u10 _ 11 _ _ hx
  have hx1 := heap_setCell_same u10 (w.heap.size + 1 + 1) 10 _ _ (.slice A0 vs.length c0) hx
  have hx2 := heap_setCell_same (u10.setCell ⟨w.heap.size + 1 + 1, 10, none⟩ (.slice A0 vs.length c0)) (w.heap.size + 1 + 1) 11 _ _ (.slice A1 ls.length c1) hx1
  have hoth : ∀ q, q ≠ w.heap.size + 1 + 1 → ((u10.setCell ⟨w.heap.size + 1 + 1, 10, none⟩ (.slice A0 vs.length c0)).setCell ⟨w.heap.size + 1 + 1, 11, none⟩ (.slice A1 ls.length c1)).heap[q]? = u10.heap[q]? := fun q hq => (heap_setCell_other _ ⟨w.heap.size + 1 + 1, 11, none⟩ q _ hq).trans (heap_setCell_other _ ⟨w.heap.size + 1 + 1, 10, none⟩ q _ hq)
  have hsz : ((u10.setCell ⟨w.heap.size + 1 + 1, 10, none⟩ (.slice A0 vs.length c0)).setCell ⟨w.heap.size + 1 + 1, 11, none⟩ (.slice A1 ls.length c1)).heap.size = u10.heap.size := by simp only [size_setCell']
  replace HX := Lib.hid (show ((u10.setCell ⟨w.heap.size + 1 + 1, 10, none⟩ (.slice A0 vs.length c0)).setCell ⟨w.heap.size + 1 + 1, 11, none⟩ (.slice A1 ls.length c1)).heap[w.heap.size + 1 + 1]? = some (.cells #[.int .i64 (kd : Int), .int .i64 (fr : Int), .int .i64 (tt : Int), .int .u64 (tm : Int), .int .u64 (ix : Int), .int .u64 (lt : Int), .int .u64 (cm : Int), .int .u64 (rd : Int), .bool ok, .slice Ae es.length ce, .slice A0 vs.length c0, .slice A1 ls.length c1, .int .i64 0, .slice none 0 0] 29 (0, 0)) from hx2)
  replace HR := Lib.hid ((hoth w.heap.size (by omega)).trans hr)
  replace HIN := Lib.hid (inAt_set (X := w.heap.size + 1 + 1) (inAt_set (X := w.heap.size + 1 + 1) hin (by omega) (by omega) 10 (.slice A0 vs.length c0)) (by omega) (by omega) 11 (.slice A1 ls.length c1))
  replace HB := Lib.hid ((hb.setCell (p := ⟨w.heap.size + 1 + 1, 10, none⟩) (by show w.heap.size ≤ w.heap.size + 1 + 1; omega) (.slice A0 vs.length c0)).setCell (p := ⟨w.heap.size + 1 + 1, 11, none⟩) (by show w.heap.size ≤ w.heap.size + 1 + 1; omega) (.slice A1 ls.length c1))
  replace HPE := Lib.hid (entsK_ok.keep hpe (S' := (fun q => w.heap.size + 1 + 1 < q ∧ q < ((u10.setCell ⟨w.heap.size + 1 + 1, 10, none⟩ (.slice A0 vs.length c0)).setCell ⟨w.heap.size + 1 + 1, 11, none⟩ (.slice A1 ls.length c1)).heap.size)) (fun q hq => hoth q (by have := hq.1; omega)) (fun q hq => ⟨hq.1, by rw [hsz]; exact hq.2⟩))
  have HPC := Lib.hid (confK_ok.keep hpc (S' := (fun q => w.heap.size + 1 + 1 < q ∧ q < ((u10.setCell ⟨w.heap.size + 1 + 1, 10, none⟩ (.slice A0 vs.length c0)).setCell ⟨w.heap.size + 1 + 1, 11, none⟩ (.slice A1 ls.length c1)).heap.size)) (fun q hq => hoth q (by have := hq.1; omega)) (fun q hq => ⟨hq.1, by rw [hsz]; exact hq.2⟩))
  clear hoth hsz hcall hx hx1 hx2 hr hb hin hgr hlx hzu hzw hpc ho0 ho1 hc0 hc1 hM0 hM1 hpe
  go_wp2_with fail
  generalize ((u10.setCell ⟨w.heap.size + 1 + 1, 10, none⟩ (.slice A0 vs.length c0)).setCell ⟨w.heap.size + 1 + 1, 11, none⟩ (.slice A1 ls.length c1)) = w11 at HX HR HIN HB HPE HPC ⊢
  clear hcx0 hfx0 hcx1 hfx1
  have hzw := HB.out.size
  have hcall : Calls Tryz.prog 22 #[.pointer (some ⟨w.heap.size + 1, 0, none⟩), .int .u64 65536] w11 _ := inInt_any w.heap.size (w.heap.size + 1) b s11 65536 (by decide) w11 HIN.out
  rw [HQ12.out] at hcall
  refine hcall.mono ?_
  rintro e u11 ⟨rfl, hin, hgr⟩
  have hx := (hgr.block (w.heap.size + 1 + 1) (row_lt HX.out) (fun e => by have := Option.some.inj e; omega)).trans HX.out
  have hr := (hgr.block w.heap.size (row_lt HR.out) (fun e => by have := Option.some.inj e; omega)).trans HR.out
  have hb := HB.out.grown hgr hzw (fun k e => by have := Option.some.inj e; omega)
  have hlx := row_lt HX.out
  have hzu := hgr.size
  have hpe := entsK_ok.keep HPE.out (S' := (fun q => w.heap.size + 1 + 1 < q ∧ q < u11.heap.size)) (fun q hq => hgr.block q hq.2 (fun e => by have := Option.some.inj e; have := hq.1; omega)) (fun q hq => ⟨hq.1, Nat.lt_of_lt_of_le hq.2 hzu⟩)
  have hpc := confK_ok.keep HPC.out (S' := (fun q => w.heap.size + 1 + 1 < q ∧ q < u11.heap.size)) (fun q hq => hgr.block q hq.2 (fun e => by have := Option.some.inj e; have := hq.1; omega)) (fun q hq => ⟨hq.1, Nat.lt_of_lt_of_le hq.2 hzu⟩)
  have hcx0 : u11.cell? ⟨w.heap.size + 1 + 1, 12, none⟩ = some (.int .i64 0) := by rw [cell_of_row u11 _ 12 _ _ _ hx]; rfl
  have hfx0 : u11.frozen? ⟨w.heap.size + 1 + 1, 12, none⟩ = false := frozen_of_row u11 _ 12 _ _ hx
  have hx1 := heap_setCell_same u11 (w.heap.size + 1 + 1) 12 _ _ (.int .i64 (fo : Int)) hx
  have hoth : ∀ q, q ≠ w.heap.size + 1 + 1 → (u11.setCell ⟨w.heap.size + 1 + 1, 12, none⟩ (.int .i64 (fo : Int))).heap[q]? = u11.heap[q]? := fun q hq => heap_setCell_other _ ⟨w.heap.size + 1 + 1, 12, none⟩ q _ hq
  have hsz : (u11.setCell ⟨w.heap.size + 1 + 1, 12, none⟩ (.int .i64 (fo : Int))).heap.size = u11.heap.size := by simp only [size_setCell']
  replace HX := Lib.hid (show (u11.setCell ⟨w.heap.size + 1 + 1, 12, none⟩ (.int .i64 (fo : Int))).heap[w.heap.size + 1 + 1]? = some (.cells #[.int .i64 (kd : Int), .int .i64 (fr : Int), .int .i64 (tt : Int), .int .u64 (tm : Int), .int .u64 (ix : Int), .int .u64 (lt : Int), .int .u64 (cm : Int), .int .u64 (rd : Int), .bool ok, .slice Ae es.length ce, .slice A0 vs.length c0, .slice A1 ls.length c1, .int .i64 (fo : Int), .slice none 0 0] 29 (0, 0)) from hx1)
  replace HR := Lib.hid ((hoth w.heap.size (by omega)).trans hr)
  replace HIN := Lib.hid (inAt_set (X := w.heap.size + 1 + 1) hin (by omega) (by omega) 12 (.int .i64 (fo : Int)))
  replace HB := Lib.hid (hb.setCell (p := ⟨w.heap.size + 1 + 1, 12, none⟩) (by show w.heap.size ≤ w.heap.size + 1 + 1; omega) (.int .i64 (fo : Int)))
  replace HPE := Lib.hid (entsK_ok.keep hpe (S' := (fun q => w.heap.size + 1 + 1 < q ∧ q < (u11.setCell ⟨w.heap.size + 1 + 1, 12, none⟩ (.int .i64 (fo : Int))).heap.size)) (fun q hq => hoth q (by have := hq.1; omega)) (fun q hq => ⟨hq.1, by rw [hsz]; exact hq.2⟩))
  replace HPC := Lib.hid (confK_ok.keep hpc (S' := (fun q => w.heap.size + 1 + 1 < q ∧ q < (u11.setCell ⟨w.heap.size + 1 + 1, 12, none⟩ (.int .i64 (fo : Int))).heap.size)) (fun q hq => hoth q (by have := hq.1; omega)) (fun q hq => ⟨hq.1, by rw [hsz]; exact hq.2⟩))
  clear hoth hsz hcall hx hx1 hr hb hin hgr hlx hzu hzw hpc hpe
  go_wp2_with fail
  generalize (u11.setCell ⟨w.heap.size + 1 + 1, 12, none⟩ (.int .i64 (fo : Int))) = w12 at HX HR HIN HB HPE HPC ⊢
  clear hcx0 hfx0
  have hzw := HB.out.size
  have HDL12 := Lib.hid (inAt_len HIN.out)
  have hcall := inData_any w.heap.size (w.heap.size + 1) b s12 w12 HIN.out hzw
  rw [HQ13.out] at hcall
  refine hcall.mono ?_
  rintro e u12 ⟨v, rfl, ho, hin, hgr⟩
  obtain ⟨A4, c4, rfl, hc4, _, _, _, _⟩ := ho.form
  have hx := (hgr.block (w.heap.size + 1 + 1) (row_lt HX.out) (fun e => by have := Option.some.inj e; omega)).trans HX.out
  have hr := (hgr.block w.heap.size (row_lt HR.out) (fun e => by have := Option.some.inj e; omega)).trans HR.out
  have hb := HB.out.grown hgr hzw (fun k e => by have := Option.some.inj e; omega)
  have hlx := row_lt HX.out
  have hzu := hgr.size
  have hpe := entsK_ok.keep HPE.out (S' := (fun q => w.heap.size + 1 + 1 < q ∧ q < u12.heap.size)) (fun q hq => hgr.block q hq.2 (fun e => by have := Option.some.inj e; have := hq.1; omega)) (fun q hq => ⟨hq.1, Nat.lt_of_lt_of_le hq.2 hzu⟩)
  have hpc := confK_ok.keep HPC.out (S' := (fun q => w.heap.size + 1 + 1 < q ∧ q < u12.heap.size)) (fun q hq => hgr.block q hq.2 (fun e => by have := Option.some.inj e; have := hq.1; omega)) (fun q hq => ⟨hq.1, Nat.lt_of_lt_of_le hq.2 hzu⟩)
  have hpd : LiesS u12 (fun q => w.heap.size + 1 + 1 < q ∧ q < u12.heap.size) A4 da := (LiesS.own ho).keep (fun _ _ => rfl) (fun q hq => ⟨by have := hq.1; omega, hq.2⟩)
  have hcx0 : u12.cell? ⟨w.heap.size + 1 + 1, 13, none⟩ = some (.slice none 0 0) := by rw [cell_of_row u12 _ 13 _ _ _ hx]; rfl
  have hfx0 : u12.frozen? ⟨w.heap.size + 1 + 1, 13, none⟩ = false := frozen_of_row u12 _ 13 _ _ hx
  have hx1 := heap_setCell_same u12 (w.heap.size + 1 + 1) 13 _ _ (.slice A4 da.length c4) hx
  have hoth : ∀ q, q ≠ w.heap.size + 1 + 1 → (u12.setCell ⟨w.heap.size + 1 + 1, 13, none⟩ (.slice A4 da.length c4)).heap[q]? = u12.heap[q]? := fun q hq => heap_setCell_other _ ⟨w.heap.size + 1 + 1, 13, none⟩ q _ hq
  have hsz : (u12.setCell ⟨w.heap.size + 1 + 1, 13, none⟩ (.slice A4 da.length c4)).heap.size = u12.heap.size := by simp only [size_setCell']
  replace HX := Lib.hid (show (u12.setCell ⟨w.heap.size + 1 + 1, 13, none⟩ (.slice A4 da.length c4)).heap[w.heap.size + 1 + 1]? = some (.cells #[.int .i64 (kd : Int), .int .i64 (fr : Int), .int .i64 (tt : Int), .int .u64 (tm : Int), .int .u64 (ix : Int), .int .u64 (lt : Int), .int .u64 (cm : Int), .int .u64 (rd : Int), .bool ok, .slice Ae es.length ce, .slice A0 vs.length c0, .slice A1 ls.length c1, .int .i64 (fo : Int), .slice A4 da.length c4] 29 (0, 0)) from hx1)
  replace HR := Lib.hid ((hoth w.heap.size (by omega)).trans hr)
  replace HIN := Lib.hid (inAt_set (X := w.heap.size + 1 + 1) hin (by omega) (by omega) 13 (.slice A4 da.length c4))
  replace HB := Lib.hid (hb.setCell (p := ⟨w.heap.size + 1 + 1, 13, none⟩) (by show w.heap.size ≤ w.heap.size + 1 + 1; omega) (.slice A4 da.length c4))
  replace HPE := Lib.hid (entsK_ok.keep hpe (S' := (fun q => w.heap.size + 1 + 1 < q ∧ q < (u12.setCell ⟨w.heap.size + 1 + 1, 13, none⟩ (.slice A4 da.length c4)).heap.size)) (fun q hq => hoth q (by have := hq.1; omega)) (fun q hq => ⟨hq.1, by rw [hsz]; exact hq.2⟩))
  replace HPC := Lib.hid (confK_ok.keep hpc (S' := (fun q => w.heap.size + 1 + 1 < q ∧ q < (u12.setCell ⟨w.heap.size + 1 + 1, 13, none⟩ (.slice A4 da.length c4)).heap.size)) (fun q hq => hoth q (by have := hq.1; omega)) (fun q hq => ⟨hq.1, by rw [hsz]; exact hq.2⟩))
  have HPD := Lib.hid (hpd.keep (S' := (fun q => w.heap.size + 1 + 1 < q ∧ q < (u12.setCell ⟨w.heap.size + 1 + 1, 13, none⟩ (.slice A4 da.length c4)).heap.size)) (fun q hq => hoth q (by have := hq.1; omega)) (fun q hq => ⟨hq.1, by rw [hsz]; exact hq.2⟩))
  have HC4 := Lib.hid hc4
  clear hoth hsz hcall hx hx1 hr hb hin hgr hlx hzu hzw hpc hpd ho hc4 hpe
  go_wp2_with fail
  generalize (u12.setCell ⟨w.heap.size + 1 + 1, 13, none⟩ (.slice A4 da.length c4)) = w13 at HX HR HIN HB HPE HPC HPD ⊢
  clear hcx0 hfx0
  have hdl : da.length ≤ 140737488355328 := by
    have h1 := pData_len s12
    have h2 := HDL12.out
    rw [HQ13.out] at h1
    have h3 := HM.out
    simp only at h1
    omega
  have HX2 := HX
  have HR2 := HR
  have HIN2 := HIN
  have HREP2 := Lib.hid (msgK_ok.keep (HREP.out w13 _ _ _ _ _ _ _ _ _ HPE.out HPC.out HC4.out hdl HPD.out) (S' := fun q => w.heap.size + 1 < q ∧ q < w13.heap.size) (fun _ _ => rfl) (fun q hq => ⟨by have := hq.1; omega, hq.2⟩))
  have HB2 := HB
  have hca0 : w13.cell? ⟨w.heap.size + 1 + 1, 0, none⟩ = some (.int .i64 (kd : Int)) := by rw [cell_of_row w13 _ 0 _ _ _ HX.out]; rfl
  have hca1 : w13.cell? ⟨w.heap.size + 1 + 1, 1, none⟩ = some (.int .i64 (fr : Int)) := by rw [cell_of_row w13 _ 1 _ _ _ HX.out]; rfl
  have hca2 : w13.cell? ⟨w.heap.size + 1 + 1, 2, none⟩ = some (.int .i64 (tt : Int)) := by rw [cell_of_row w13 _ 2 _ _ _ HX.out]; rfl
  have hca3 : w13.cell? ⟨w.heap.size + 1 + 1, 3, none⟩ = some (.int .u64 (tm : Int)) := by rw [cell_of_row w13 _ 3 _ _ _ HX.out]; rfl
  have hca4 : w13.cell? ⟨w.heap.size + 1 + 1, 4, none⟩ = some (.int .u64 (ix : Int)) := by rw [cell_of_row w13 _ 4 _ _ _ HX.out]; rfl
  have hca5 : w13.cell? ⟨w.heap.size + 1 + 1, 5, none⟩ = some (.int .u64 (lt : Int)) := by rw [cell_of_row w13 _ 5 _ _ _ HX.out]; rfl
  have hca6 : w13.cell? ⟨w.heap.size + 1 + 1, 6, none⟩ = some (.int .u64 (cm : Int)) := by rw [cell_of_row w13 _ 6 _ _ _ HX.out]; rfl
  have hca7 : w13.cell? ⟨w.heap.size + 1 + 1, 7, none⟩ = some (.int .u64 (rd : Int)) := by rw [cell_of_row w13 _ 7 _ _ _ HX.out]; rfl
  have hca8 : w13.cell? ⟨w.heap.size + 1 + 1, 8, none⟩ = some (.bool ok) := by rw [cell_of_row w13 _ 8 _ _ _ HX.out]; rfl
  have hca9 : w13.cell? ⟨w.heap.size + 1 + 1, 9, none⟩ = some (.slice Ae es.length ce) := by rw [cell_of_row w13 _ 9 _ _ _ HX.out]; rfl
  have hca10 : w13.cell? ⟨w.heap.size + 1 + 1, 10, none⟩ = some (.slice A0 vs.length c0) := by rw [cell_of_row w13 _ 10 _ _ _ HX.out]; rfl
  have hca11 : w13.cell? ⟨w.heap.size + 1 + 1, 11, none⟩ = some (.slice A1 ls.length c1) := by rw [cell_of_row w13 _ 11 _ _ _ HX.out]; rfl
  have hca12 : w13.cell? ⟨w.heap.size + 1 + 1, 12, none⟩ = some (.int .i64 (fo : Int)) := by rw [cell_of_row w13 _ 12 _ _ _ HX.out]; rfl
  have hca13 : w13.cell? ⟨w.heap.size + 1 + 1, 13, none⟩ = some (.slice A4 da.length c4) := by rw [cell_of_row w13 _ 13 _ _ _ HX.out]; rfl
  have hXg : (some (w.heap.size + 1 + 1) : Option Nat) ≠ some (w.heap.size + 1) := fun e => by have := Option.some.inj e; omega
  clear HX HR HIN HB HREP HPE HPC HPD HC4 hdl
  have hRg : (some w.heap.size : Option Nat) ≠ some (w.heap.size + 1) := fun e => by have := Option.some.inj e; omega
  have hW := inWhole_any w.heap.size (w.heap.size + 1) b st w13.drew HIN2.out
  obtain ⟨ok, hpw⟩ : ∃ x, pWhole st = x := ⟨_, rfl⟩
  rw [hpw] at hW
  have HPW := Lib.hid hpw
  have HW := Lib.hid hW
  clear hpw hW
  cases ok with
  | false =>
    go_region_law ((go_simp; go_at_call 27; refine HW.out.mono ?_; rintro e w14 ⟨rfl, hin3, hgr3⟩
                    have hgr : w13.grownBy w14 (some (w.heap.size + 1)) := ⟨hgr3.os, hgr3.tape, hgr3.output, hgr3.size, hgr3.block⟩
                    have hx := (hgr.block (w.heap.size + 1 + 1) (row_lt HX2.out) hXg).trans HX2.out
                    have hr := (hgr.block w.heap.size (row_lt HR2.out) hRg).trans HR2.out
                    have hc0w14 : w14.cell? ⟨(w.heap.size + 1 + 1), 0, none⟩ = some (.int .i64 (kd : Int)) := by rw [cell_of_row w14 _ 0 _ _ _ hx]; rfl
                    have hz0w14 : w14.cell? ⟨w.heap.size, 0, none⟩ = some (.int .i64 0) := by rw [cell_of_row w14 _ 0 _ _ _ hr]; rfl
                    have hf0w14 : w14.frozen? ⟨w.heap.size, 0, none⟩ = false := frozen_of_row w14 _ 0 _ _ hr
                    have hc1w14 : w14.cell? ⟨(w.heap.size + 1 + 1), 1, none⟩ = some (.int .i64 (fr : Int)) := by rw [cell_of_row w14 _ 1 _ _ _ hx]; rfl
                    have hz1w14 : w14.cell? ⟨w.heap.size, 1, none⟩ = some (.int .i64 0) := by rw [cell_of_row w14 _ 1 _ _ _ hr]; rfl
                    have hf1w14 : w14.frozen? ⟨w.heap.size, 1, none⟩ = false := frozen_of_row w14 _ 1 _ _ hr
                    have hc2w14 : w14.cell? ⟨(w.heap.size + 1 + 1), 2, none⟩ = some (.int .i64 (tt : Int)) := by rw [cell_of_row w14 _ 2 _ _ _ hx]; rfl
                    have hz2w14 : w14.cell? ⟨w.heap.size, 2, none⟩ = some (.int .i64 0) := by rw [cell_of_row w14 _ 2 _ _ _ hr]; rfl
                    have hf2w14 : w14.frozen? ⟨w.heap.size, 2, none⟩ = false := frozen_of_row w14 _ 2 _ _ hr
                    have hc3w14 : w14.cell? ⟨(w.heap.size + 1 + 1), 3, none⟩ = some (.int .u64 (tm : Int)) := by rw [cell_of_row w14 _ 3 _ _ _ hx]; rfl
                    have hz3w14 : w14.cell? ⟨w.heap.size, 3, none⟩ = some (.int .u64 0) := by rw [cell_of_row w14 _ 3 _ _ _ hr]; rfl
                    have hf3w14 : w14.frozen? ⟨w.heap.size, 3, none⟩ = false := frozen_of_row w14 _ 3 _ _ hr
                    have hc4w14 : w14.cell? ⟨(w.heap.size + 1 + 1), 4, none⟩ = some (.int .u64 (ix : Int)) := by rw [cell_of_row w14 _ 4 _ _ _ hx]; rfl
                    have hz4w14 : w14.cell? ⟨w.heap.size, 4, none⟩ = some (.int .u64 0) := by rw [cell_of_row w14 _ 4 _ _ _ hr]; rfl
                    have hf4w14 : w14.frozen? ⟨w.heap.size, 4, none⟩ = false := frozen_of_row w14 _ 4 _ _ hr
                    have hc5w14 : w14.cell? ⟨(w.heap.size + 1 + 1), 5, none⟩ = some (.int .u64 (lt : Int)) := by rw [cell_of_row w14 _ 5 _ _ _ hx]; rfl
                    have hz5w14 : w14.cell? ⟨w.heap.size, 5, none⟩ = some (.int .u64 0) := by rw [cell_of_row w14 _ 5 _ _ _ hr]; rfl
                    have hf5w14 : w14.frozen? ⟨w.heap.size, 5, none⟩ = false := frozen_of_row w14 _ 5 _ _ hr
                    have hc6w14 : w14.cell? ⟨(w.heap.size + 1 + 1), 6, none⟩ = some (.int .u64 (cm : Int)) := by rw [cell_of_row w14 _ 6 _ _ _ hx]; rfl
                    have hz6w14 : w14.cell? ⟨w.heap.size, 6, none⟩ = some (.int .u64 0) := by rw [cell_of_row w14 _ 6 _ _ _ hr]; rfl
                    have hf6w14 : w14.frozen? ⟨w.heap.size, 6, none⟩ = false := frozen_of_row w14 _ 6 _ _ hr
                    have hc7w14 : w14.cell? ⟨(w.heap.size + 1 + 1), 7, none⟩ = some (.int .u64 (rd : Int)) := by rw [cell_of_row w14 _ 7 _ _ _ hx]; rfl
                    have hz7w14 : w14.cell? ⟨w.heap.size, 7, none⟩ = some (.int .u64 0) := by rw [cell_of_row w14 _ 7 _ _ _ hr]; rfl
                    have hf7w14 : w14.frozen? ⟨w.heap.size, 7, none⟩ = false := frozen_of_row w14 _ 7 _ _ hr
                    have hc8w14 : w14.cell? ⟨(w.heap.size + 1 + 1), 8, none⟩ = some (.bool ok) := by rw [cell_of_row w14 _ 8 _ _ _ hx]; rfl
                    have hz8w14 : w14.cell? ⟨w.heap.size, 8, none⟩ = some (.bool false) := by rw [cell_of_row w14 _ 8 _ _ _ hr]; rfl
                    have hf8w14 : w14.frozen? ⟨w.heap.size, 8, none⟩ = false := frozen_of_row w14 _ 8 _ _ hr
                    have hc9w14 : w14.cell? ⟨(w.heap.size + 1 + 1), 9, none⟩ = some (.slice Ae es.length ce) := by rw [cell_of_row w14 _ 9 _ _ _ hx]; rfl
                    have hz9w14 : w14.cell? ⟨w.heap.size, 9, none⟩ = some (.slice none 0 0) := by rw [cell_of_row w14 _ 9 _ _ _ hr]; rfl
                    have hf9w14 : w14.frozen? ⟨w.heap.size, 9, none⟩ = false := frozen_of_row w14 _ 9 _ _ hr
                    have hc10w14 : w14.cell? ⟨(w.heap.size + 1 + 1), 10, none⟩ = some (.slice A0 vs.length c0) := by rw [cell_of_row w14 _ 10 _ _ _ hx]; rfl
                    have hz10w14 : w14.cell? ⟨w.heap.size, 10, none⟩ = some (.slice none 0 0) := by rw [cell_of_row w14 _ 10 _ _ _ hr]; rfl
                    have hf10w14 : w14.frozen? ⟨w.heap.size, 10, none⟩ = false := frozen_of_row w14 _ 10 _ _ hr
                    have hc11w14 : w14.cell? ⟨(w.heap.size + 1 + 1), 11, none⟩ = some (.slice A1 ls.length c1) := by rw [cell_of_row w14 _ 11 _ _ _ hx]; rfl
                    have hz11w14 : w14.cell? ⟨w.heap.size, 11, none⟩ = some (.slice none 0 0) := by rw [cell_of_row w14 _ 11 _ _ _ hr]; rfl
                    have hf11w14 : w14.frozen? ⟨w.heap.size, 11, none⟩ = false := frozen_of_row w14 _ 11 _ _ hr
                    have hc12w14 : w14.cell? ⟨(w.heap.size + 1 + 1), 12, none⟩ = some (.int .i64 (fo : Int)) := by rw [cell_of_row w14 _ 12 _ _ _ hx]; rfl
                    have hz12w14 : w14.cell? ⟨w.heap.size, 12, none⟩ = some (.int .i64 0) := by rw [cell_of_row w14 _ 12 _ _ _ hr]; rfl
                    have hf12w14 : w14.frozen? ⟨w.heap.size, 12, none⟩ = false := frozen_of_row w14 _ 12 _ _ hr
                    have hc13w14 : w14.cell? ⟨(w.heap.size + 1 + 1), 13, none⟩ = some (.slice A4 da.length c4) := by rw [cell_of_row w14 _ 13 _ _ _ hx]; rfl
                    have hz13w14 : w14.cell? ⟨w.heap.size, 13, none⟩ = some (.slice none 0 0) := by rw [cell_of_row w14 _ 13 _ _ _ hr]; rfl
                    have hf13w14 : w14.frozen? ⟨w.heap.size, 13, none⟩ = false := frozen_of_row w14 _ 13 _ _ hr
                    have HR3 := Lib.hid hr
                    have HX3 := Lib.hid hx
                    have HREP3 := Lib.hid (msgK_ok.keep HREP2.out (S' := (fun q => w.heap.size + 1 < q ∧ q < w14.heap.size)) (fun q hq => hgr.block q hq.2 (fun e => by have := Option.some.inj e; have := hq.1; omega)) (fun q hq => ⟨hq.1, Nat.lt_of_lt_of_le hq.2 hgr.size⟩))
                    have HB3 := Lib.hid (HB2.out.grown hgr HB2.out.size (fun k e => by have := Option.some.inj e; omega))
                    clear hin3 hgr3 hgr hx hr))
    all_goals
      go_wp2
      obtain ⟨x0, hx0⟩ : ∃ x, x = w14.setCell ⟨w.heap.size, 0, none⟩ (.int .i64 (kd : Int)) := ⟨_, rfl⟩
      rw [← hx0]
      have r0 : x0.heap[w.heap.size]? = some (.cells #[.int .i64 (kd : Int), .int .i64 0, .int .i64 0, .int .u64 0, .int .u64 0, .int .u64 0, .int .u64 0, .int .u64 0, .bool false, .slice none 0 0, .slice none 0 0, .slice none 0 0, .int .i64 0, .slice none 0 0] 29 (0, 0)) := by rw [hx0]; exact heap_setCell_same w14 w.heap.size 0 _ _ (.int .i64 (kd : Int)) HR3.out
      have o0 : ∀ q, q ≠ w.heap.size → x0.heap[q]? = w14.heap[q]? := fun q hq => by rw [hx0, heap_setCell_other w14 ⟨w.heap.size, 0, none⟩ q _ hq]
      have z0 : x0.heap.size = w14.heap.size := by rw [hx0, size_setCell']
      have b0 : Below w.heap.size w x0 := by rw [hx0]; exact Below.setCell (p := ⟨w.heap.size, 0, none⟩) HB3.out (Nat.le_refl _) (.int .i64 (kd : Int))
      clear hx0
      obtain ⟨x1, hx1⟩ : ∃ x, x = x0.setCell ⟨w.heap.size, 1, none⟩ (.int .i64 (fr : Int)) := ⟨_, rfl⟩
      rw [← hx1]
      have r1 : x1.heap[w.heap.size]? = some (.cells #[.int .i64 (kd : Int), .int .i64 (fr : Int), .int .i64 0, .int .u64 0, .int .u64 0, .int .u64 0, .int .u64 0, .int .u64 0, .bool false, .slice none 0 0, .slice none 0 0, .slice none 0 0, .int .i64 0, .slice none 0 0] 29 (0, 0)) := by rw [hx1]; exact heap_setCell_same x0 w.heap.size 1 _ _ (.int .i64 (fr : Int)) r0
      have o1 : ∀ q, q ≠ w.heap.size → x1.heap[q]? = w14.heap[q]? := fun q hq => by rw [hx1, heap_setCell_other x0 ⟨w.heap.size, 1, none⟩ q _ hq]; exact o0 q hq
      have z1 : x1.heap.size = w14.heap.size := by rw [hx1, size_setCell']; exact z0
      have b1 : Below w.heap.size w x1 := by rw [hx1]; exact Below.setCell (p := ⟨w.heap.size, 1, none⟩) b0 (Nat.le_refl _) (.int .i64 (fr : Int))
      clear hx1
      obtain ⟨x2, hx2⟩ : ∃ x, x = x1.setCell ⟨w.heap.size, 2, none⟩ (.int .i64 (tt : Int)) := ⟨_, rfl⟩
      rw [← hx2]
      have r2 : x2.heap[w.heap.size]? = some (.cells #[.int .i64 (kd : Int), .int .i64 (fr : Int), .int .i64 (tt : Int), .int .u64 0, .int .u64 0, .int .u64 0, .int .u64 0, .int .u64 0, .bool false, .slice none 0 0, .slice none 0 0, .slice none 0 0, .int .i64 0, .slice none 0 0] 29 (0, 0)) := by rw [hx2]; exact heap_setCell_same x1 w.heap.size 2 _ _ (.int .i64 (tt : Int)) r1
      have o2 : ∀ q, q ≠ w.heap.size → x2.heap[q]? = w14.heap[q]? := fun q hq => by rw [hx2, heap_setCell_other x1 ⟨w.heap.size, 2, none⟩ q _ hq]; exact o1 q hq
      have z2 : x2.heap.size = w14.heap.size := by rw [hx2, size_setCell']; exact z1
      have b2 : Below w.heap.size w x2 := by rw [hx2]; exact Below.setCell (p := ⟨w.heap.size, 2, none⟩) b1 (Nat.le_refl _) (.int .i64 (tt : Int))
      clear hx2
      obtain ⟨x3, hx3⟩ : ∃ x, x = x2.setCell ⟨w.heap.size, 3, none⟩ (.int .u64 (tm : Int)) := ⟨_, rfl⟩
      rw [← hx3]
      have r3 : x3.heap[w.heap.size]? = some (.cells #[.int .i64 (kd : Int), .int .i64 (fr : Int), .int .i64 (tt : Int), .int .u64 (tm : Int), .int .u64 0, .int .u64 0, .int .u64 0, .int .u64 0, .bool false, .slice none 0 0, .slice none 0 0, .slice none 0 0, .int .i64 0, .slice none 0 0] 29 (0, 0)) := by rw [hx3]; exact heap_setCell_same x2 w.heap.size 3 _ _ (.int .u64 (tm : Int)) r2
      have o3 : ∀ q, q ≠ w.heap.size → x3.heap[q]? = w14.heap[q]? := fun q hq => by rw [hx3, heap_setCell_other x2 ⟨w.heap.size, 3, none⟩ q _ hq]; exact o2 q hq
      have z3 : x3.heap.size = w14.heap.size := by rw [hx3, size_setCell']; exact z2
      have b3 : Below w.heap.size w x3 := by rw [hx3]; exact Below.setCell (p := ⟨w.heap.size, 3, none⟩) b2 (Nat.le_refl _) (.int .u64 (tm : Int))
      clear hx3
      obtain ⟨x4, hx4⟩ : ∃ x, x = x3.setCell ⟨w.heap.size, 4, none⟩ (.int .u64 (ix : Int)) := ⟨_, rfl⟩
      rw [← hx4]
      have r4 : x4.heap[w.heap.size]? = some (.cells #[.int .i64 (kd : Int), .int .i64 (fr : Int), .int .i64 (tt : Int), .int .u64 (tm : Int), .int .u64 (ix : Int), .int .u64 0, .int .u64 0, .int .u64 0, .bool false, .slice none 0 0, .slice none 0 0, .slice none 0 0, .int .i64 0, .slice none 0 0] 29 (0, 0)) := by rw [hx4]; exact heap_setCell_same x3 w.heap.size 4 _ _ (.int .u64 (ix : Int)) r3
      have o4 : ∀ q, q ≠ w.heap.size → x4.heap[q]? = w14.heap[q]? := fun q hq => by rw [hx4, heap_setCell_other x3 ⟨w.heap.size, 4, none⟩ q _ hq]; exact o3 q hq
      have z4 : x4.heap.size = w14.heap.size := by rw [hx4, size_setCell']; exact z3
      have b4 : Below w.heap.size w x4 := by rw [hx4]; exact Below.setCell (p := ⟨w.heap.size, 4, none⟩) b3 (Nat.le_refl _) (.int .u64 (ix : Int))
      clear hx4
      obtain ⟨x5, hx5⟩ : ∃ x, x = x4.setCell ⟨w.heap.size, 5, none⟩ (.int .u64 (lt : Int)) := ⟨_, rfl⟩
      rw [← hx5]
      have r5 : x5.heap[w.heap.size]? = some (.cells #[.int .i64 (kd : Int), .int .i64 (fr : Int), .int .i64 (tt : Int), .int .u64 (tm : Int), .int .u64 (ix : Int), .int .u64 (lt : Int), .int .u64 0, .int .u64 0, .bool false, .slice none 0 0, .slice none 0 0, .slice none 0 0, .int .i64 0, .slice none 0 0] 29 (0, 0)) := by rw [hx5]; exact heap_setCell_same x4 w.heap.size 5 _ _ (.int .u64 (lt : Int)) r4
      have o5 : ∀ q, q ≠ w.heap.size → x5.heap[q]? = w14.heap[q]? := fun q hq => by rw [hx5, heap_setCell_other x4 ⟨w.heap.size, 5, none⟩ q _ hq]; exact o4 q hq
      have z5 : x5.heap.size = w14.heap.size := by rw [hx5, size_setCell']; exact z4
      have b5 : Below w.heap.size w x5 := by rw [hx5]; exact Below.setCell (p := ⟨w.heap.size, 5, none⟩) b4 (Nat.le_refl _) (.int .u64 (lt : Int))
      clear hx5
      obtain ⟨x6, hx6⟩ : ∃ x, x = x5.setCell ⟨w.heap.size, 6, none⟩ (.int .u64 (cm : Int)) := ⟨_, rfl⟩
      rw [← hx6]
      have r6 : x6.heap[w.heap.size]? = some (.cells #[.int .i64 (kd : Int), .int .i64 (fr : Int), .int .i64 (tt : Int), .int .u64 (tm : Int), .int .u64 (ix : Int), .int .u64 (lt : Int), .int .u64 (cm : Int), .int .u64 0, .bool false, .slice none 0 0, .slice none 0 0, .slice none 0 0, .int .i64 0, .slice none 0 0] 29 (0, 0)) := by rw [hx6]; exact heap_setCell_same x5 w.heap.size 6 _ _ (.int .u64 (cm : Int)) r5
      have o6 : ∀ q, q ≠ w.heap.size → x6.heap[q]? = w14.heap[q]? := fun q hq => by rw [hx6, heap_setCell_other x5 ⟨w.heap.size, 6, none⟩ q _ hq]; exact o5 q hq
      have z6 : x6.heap.size = w14.heap.size := by rw [hx6, size_setCell']; exact z5
      have b6 : Below w.heap.size w x6 := by rw [hx6]; exact Below.setCell (p := ⟨w.heap.size, 6, none⟩) b5 (Nat.le_refl _) (.int .u64 (cm : Int))
      clear hx6
      obtain ⟨x7, hx7⟩ : ∃ x, x = x6.setCell ⟨w.heap.size, 7, none⟩ (.int .u64 (rd : Int)) := ⟨_, rfl⟩
      rw [← hx7]
      have r7 : x7.heap[w.heap.size]? = some (.cells #[.int .i64 (kd : Int), .int .i64 (fr : Int), .int .i64 (tt : Int), .int .u64 (tm : Int), .int .u64 (ix : Int), .int .u64 (lt : Int), .int .u64 (cm : Int), .int .u64 (rd : Int), .bool false, .slice none 0 0, .slice none 0 0, .slice none 0 0, .int .i64 0, .slice none 0 0] 29 (0, 0)) := by rw [hx7]; exact heap_setCell_same x6 w.heap.size 7 _ _ (.int .u64 (rd : Int)) r6
      have o7 : ∀ q, q ≠ w.heap.size → x7.heap[q]? = w14.heap[q]? := fun q hq => by rw [hx7, heap_setCell_other x6 ⟨w.heap.size, 7, none⟩ q _ hq]; exact o6 q hq
      have z7 : x7.heap.size = w14.heap.size := by rw [hx7, size_setCell']; exact z6
      have b7 : Below w.heap.size w x7 := by rw [hx7]; exact Below.setCell (p := ⟨w.heap.size, 7, none⟩) b6 (Nat.le_refl _) (.int .u64 (rd : Int))
      clear hx7
      obtain ⟨x8, hx8⟩ : ∃ x, x = x7.setCell ⟨w.heap.size, 8, none⟩ (.bool ok) := ⟨_, rfl⟩
      rw [← hx8]
      have r8 : x8.heap[w.heap.size]? = some (.cells #[.int .i64 (kd : Int), .int .i64 (fr : Int), .int .i64 (tt : Int), .int .u64 (tm : Int), .int .u64 (ix : Int), .int .u64 (lt : Int), .int .u64 (cm : Int), .int .u64 (rd : Int), .bool ok, .slice none 0 0, .slice none 0 0, .slice none 0 0, .int .i64 0, .slice none 0 0] 29 (0, 0)) := by rw [hx8]; exact heap_setCell_same x7 w.heap.size 8 _ _ (.bool ok) r7
      have o8 : ∀ q, q ≠ w.heap.size → x8.heap[q]? = w14.heap[q]? := fun q hq => by rw [hx8, heap_setCell_other x7 ⟨w.heap.size, 8, none⟩ q _ hq]; exact o7 q hq
      have z8 : x8.heap.size = w14.heap.size := by rw [hx8, size_setCell']; exact z7
      have b8 : Below w.heap.size w x8 := by rw [hx8]; exact Below.setCell (p := ⟨w.heap.size, 8, none⟩) b7 (Nat.le_refl _) (.bool ok)
      clear hx8
      obtain ⟨x9, hx9⟩ : ∃ x, x = x8.setCell ⟨w.heap.size, 9, none⟩ (.slice Ae es.length ce) := ⟨_, rfl⟩
      rw [← hx9]
      have r9 : x9.heap[w.heap.size]? = some (.cells #[.int .i64 (kd : Int), .int .i64 (fr : Int), .int .i64 (tt : Int), .int .u64 (tm : Int), .int .u64 (ix : Int), .int .u64 (lt : Int), .int .u64 (cm : Int), .int .u64 (rd : Int), .bool ok, .slice Ae es.length ce, .slice none 0 0, .slice none 0 0, .int .i64 0, .slice none 0 0] 29 (0, 0)) := by rw [hx9]; exact heap_setCell_same x8 w.heap.size 9 _ _ (.slice Ae es.length ce) r8
      have o9 : ∀ q, q ≠ w.heap.size → x9.heap[q]? = w14.heap[q]? := fun q hq => by rw [hx9, heap_setCell_other x8 ⟨w.heap.size, 9, none⟩ q _ hq]; exact o8 q hq
      have z9 : x9.heap.size = w14.heap.size := by rw [hx9, size_setCell']; exact z8
      have b9 : Below w.heap.size w x9 := by rw [hx9]; exact Below.setCell (p := ⟨w.heap.size, 9, none⟩) b8 (Nat.le_refl _) (.slice Ae es.length ce)
      clear hx9
      obtain ⟨x10, hx10⟩ : ∃ x, x = x9.setCell ⟨w.heap.size, 10, none⟩ (.slice A0 vs.length c0) := ⟨_, rfl⟩
      rw [← hx10]
      have r10 : x10.heap[w.heap.size]? = some (.cells #[.int .i64 (kd : Int), .int .i64 (fr : Int), .int .i64 (tt : Int), .int .u64 (tm : Int), .int .u64 (ix : Int), .int .u64 (lt : Int), .int .u64 (cm : Int), .int .u64 (rd : Int), .bool ok, .slice Ae es.length ce, .slice A0 vs.length c0, .slice none 0 0, .int .i64 0, .slice none 0 0] 29 (0, 0)) := by rw [hx10]; exact heap_setCell_same x9 w.heap.size 10 _ _ (.slice A0 vs.length c0) r9
      have o10 : ∀ q, q ≠ w.heap.size → x10.heap[q]? = w14.heap[q]? := fun q hq => by rw [hx10, heap_setCell_other x9 ⟨w.heap.size, 10, none⟩ q _ hq]; exact o9 q hq
      have z10 : x10.heap.size = w14.heap.size := by rw [hx10, size_setCell']; exact z9
      have b10 : Below w.heap.size w x10 := by rw [hx10]; exact Below.setCell (p := ⟨w.heap.size, 10, none⟩) b9 (Nat.le_refl _) (.slice A0 vs.length c0)
      clear hx10
      obtain ⟨x11, hx11⟩ : ∃ x, x = x10.setCell ⟨w.heap.size, 11, none⟩ (.slice A1 ls.length c1) := ⟨_, rfl⟩
      rw [← hx11]
      have r11 : x11.heap[w.heap.size]? = some (.cells #[.int .i64 (kd : Int), .int .i64 (fr : Int), .int .i64 (tt : Int), .int .u64 (tm : Int), .int .u64 (ix : Int), .int .u64 (lt : Int), .int .u64 (cm : Int), .int .u64 (rd : Int), .bool ok, .slice Ae es.length ce, .slice A0 vs.length c0, .slice A1 ls.length c1, .int .i64 0, .slice none 0 0] 29 (0, 0)) := by rw [hx11]; exact heap_setCell_same x10 w.heap.size 11 _ _ (.slice A1 ls.length c1) r10
      have o11 : ∀ q, q ≠ w.heap.size → x11.heap[q]? = w14.heap[q]? := fun q hq => by rw [hx11, heap_setCell_other x10 ⟨w.heap.size, 11, none⟩ q _ hq]; exact o10 q hq
      have z11 : x11.heap.size = w14.heap.size := by rw [hx11, size_setCell']; exact z10
      have b11 : Below w.heap.size w x11 := by rw [hx11]; exact Below.setCell (p := ⟨w.heap.size, 11, none⟩) b10 (Nat.le_refl _) (.slice A1 ls.length c1)
      clear hx11
      obtain ⟨x12, hx12⟩ : ∃ x, x = x11.setCell ⟨w.heap.size, 12, none⟩ (.int .i64 (fo : Int)) := ⟨_, rfl⟩
      rw [← hx12]
      have r12 : x12.heap[w.heap.size]? = some (.cells #[.int .i64 (kd : Int), .int .i64 (fr : Int), .int .i64 (tt : Int), .int .u64 (tm : Int), .int .u64 (ix : Int), .int .u64 (lt : Int), .int .u64 (cm : Int), .int .u64 (rd : Int), .bool ok, .slice Ae es.length ce, .slice A0 vs.length c0, .slice A1 ls.length c1, .int .i64 (fo : Int), .slice none 0 0] 29 (0, 0)) := by rw [hx12]; exact heap_setCell_same x11 w.heap.size 12 _ _ (.int .i64 (fo : Int)) r11
      have o12 : ∀ q, q ≠ w.heap.size → x12.heap[q]? = w14.heap[q]? := fun q hq => by rw [hx12, heap_setCell_other x11 ⟨w.heap.size, 12, none⟩ q _ hq]; exact o11 q hq
      have z12 : x12.heap.size = w14.heap.size := by rw [hx12, size_setCell']; exact z11
      have b12 : Below w.heap.size w x12 := by rw [hx12]; exact Below.setCell (p := ⟨w.heap.size, 12, none⟩) b11 (Nat.le_refl _) (.int .i64 (fo : Int))
      clear hx12
      obtain ⟨x13, hx13⟩ : ∃ x, x = x12.setCell ⟨w.heap.size, 13, none⟩ (.slice A4 da.length c4) := ⟨_, rfl⟩
      rw [← hx13]
      have r13 : x13.heap[w.heap.size]? = some (.cells #[.int .i64 (kd : Int), .int .i64 (fr : Int), .int .i64 (tt : Int), .int .u64 (tm : Int), .int .u64 (ix : Int), .int .u64 (lt : Int), .int .u64 (cm : Int), .int .u64 (rd : Int), .bool ok, .slice Ae es.length ce, .slice A0 vs.length c0, .slice A1 ls.length c1, .int .i64 (fo : Int), .slice A4 da.length c4] 29 (0, 0)) := by rw [hx13]; exact heap_setCell_same x12 w.heap.size 13 _ _ (.slice A4 da.length c4) r12
      have o13 : ∀ q, q ≠ w.heap.size → x13.heap[q]? = w14.heap[q]? := fun q hq => by rw [hx13, heap_setCell_other x12 ⟨w.heap.size, 13, none⟩ q _ hq]; exact o12 q hq
      have z13 : x13.heap.size = w14.heap.size := by rw [hx13, size_setCell']; exact z12
      have b13 : Below w.heap.size w x13 := by rw [hx13]; exact Below.setCell (p := ⟨w.heap.size, 13, none⟩) b12 (Nat.le_refl _) (.slice A4 da.length c4)
      clear hx13
      have hrep := msgK_ok.keep HREP3.out (S' := New w x13) (fun q hq => o13 q (by have := hq.1; omega)) (fun q hq => ⟨by have := hq.1; omega, by rw [z13]; exact hq.2⟩)
      exact bodyPost_ret (v := .tuple #[.agg #[.int .i64 (kd : Int), .int .i64 (fr : Int), .int .i64 (tt : Int), .int .u64 (tm : Int), .int .u64 (ix : Int), .int .u64 (lt : Int), .int .u64 (cm : Int), .int .u64 (rd : Int), .bool ok, .slice Ae es.length ce, .slice A0 vs.length c0, .slice A1 ls.length c1, .int .i64 (fo : Int), .slice A4 da.length c4], .bool false]) (results_cell_tmp (fn := Tryz.f6) (p := 2) (q := 3) rfl _ _ w.heap.size 29 #[.int .i64 (kd : Int), .int .i64 (fr : Int), .int .i64 (tt : Int), .int .u64 (tm : Int), .int .u64 (ix : Int), .int .u64 (lt : Int), .int .u64 (cm : Int), .int .u64 (rd : Int), .bool ok, .slice Ae es.length ce, .slice A0 vs.length c0, .slice A1 ls.length c1, .int .i64 (fo : Int), .slice A4 da.length c4] (0, 0) _ rfl r13 Tryz.underlying29 (by kernel_rfl)) rfl ⟨_, by rw [HPW.out, Bool.false_and], hrep, b13⟩
  | true =>
    obtain ⟨sd, hsd⟩ : ∃ x, msgK.sound d = x := ⟨_, rfl⟩
    have HSD := Lib.hid hsd
    have HOK := Lib.hid (fun (w : World) (h : msgK.rep w (Old w) [.int .i64 (kd : Int), .int .i64 (fr : Int), .int .i64 (tt : Int), .int .u64 (tm : Int), .int .u64 (ix : Int), .int .u64 (lt : Int), .int .u64 (cm : Int), .int .u64 (rd : Int), .bool ok, .slice Ae es.length ce, .slice A0 vs.length c0, .slice A1 ls.length c1, .int .i64 (fo : Int), .slice A4 da.length c4] d) => hsd ▸ msg_ok w h)
    clear hsd
    go_region_law (first
      | (go_simp; go_at_call 27; refine HW.out.mono ?_; rintro e w14 ⟨rfl, hin3, hgr3⟩
         have hgr : w13.grownBy w14 (some (w.heap.size + 1)) := ⟨hgr3.os, hgr3.tape, hgr3.output, hgr3.size, hgr3.block⟩
         have hx := (hgr.block (w.heap.size + 1 + 1) (row_lt HX2.out) hXg).trans HX2.out
         have hr := (hgr.block w.heap.size (row_lt HR2.out) hRg).trans HR2.out
         have hc0w14 : w14.cell? ⟨(w.heap.size + 1 + 1), 0, none⟩ = some (.int .i64 (kd : Int)) := by rw [cell_of_row w14 _ 0 _ _ _ hx]; rfl
         have hz0w14 : w14.cell? ⟨w.heap.size, 0, none⟩ = some (.int .i64 0) := by rw [cell_of_row w14 _ 0 _ _ _ hr]; rfl
         have hf0w14 : w14.frozen? ⟨w.heap.size, 0, none⟩ = false := frozen_of_row w14 _ 0 _ _ hr
         have hc1w14 : w14.cell? ⟨(w.heap.size + 1 + 1), 1, none⟩ = some (.int .i64 (fr : Int)) := by rw [cell_of_row w14 _ 1 _ _ _ hx]; rfl
         have hz1w14 : w14.cell? ⟨w.heap.size, 1, none⟩ = some (.int .i64 0) := by rw [cell_of_row w14 _ 1 _ _ _ hr]; rfl
         have hf1w14 : w14.frozen? ⟨w.heap.size, 1, none⟩ = false := frozen_of_row w14 _ 1 _ _ hr
         have hc2w14 : w14.cell? ⟨(w.heap.size + 1 + 1), 2, none⟩ = some (.int .i64 (tt : Int)) := by rw [cell_of_row w14 _ 2 _ _ _ hx]; rfl
         have hz2w14 : w14.cell? ⟨w.heap.size, 2, none⟩ = some (.int .i64 0) := by rw [cell_of_row w14 _ 2 _ _ _ hr]; rfl
         have hf2w14 : w14.frozen? ⟨w.heap.size, 2, none⟩ = false := frozen_of_row w14 _ 2 _ _ hr
         have hc3w14 : w14.cell? ⟨(w.heap.size + 1 + 1), 3, none⟩ = some (.int .u64 (tm : Int)) := by rw [cell_of_row w14 _ 3 _ _ _ hx]; rfl
         have hz3w14 : w14.cell? ⟨w.heap.size, 3, none⟩ = some (.int .u64 0) := by rw [cell_of_row w14 _ 3 _ _ _ hr]; rfl
         have hf3w14 : w14.frozen? ⟨w.heap.size, 3, none⟩ = false := frozen_of_row w14 _ 3 _ _ hr
         have hc4w14 : w14.cell? ⟨(w.heap.size + 1 + 1), 4, none⟩ = some (.int .u64 (ix : Int)) := by rw [cell_of_row w14 _ 4 _ _ _ hx]; rfl
         have hz4w14 : w14.cell? ⟨w.heap.size, 4, none⟩ = some (.int .u64 0) := by rw [cell_of_row w14 _ 4 _ _ _ hr]; rfl
         have hf4w14 : w14.frozen? ⟨w.heap.size, 4, none⟩ = false := frozen_of_row w14 _ 4 _ _ hr
         have hc5w14 : w14.cell? ⟨(w.heap.size + 1 + 1), 5, none⟩ = some (.int .u64 (lt : Int)) := by rw [cell_of_row w14 _ 5 _ _ _ hx]; rfl
         have hz5w14 : w14.cell? ⟨w.heap.size, 5, none⟩ = some (.int .u64 0) := by rw [cell_of_row w14 _ 5 _ _ _ hr]; rfl
         have hf5w14 : w14.frozen? ⟨w.heap.size, 5, none⟩ = false := frozen_of_row w14 _ 5 _ _ hr
         have hc6w14 : w14.cell? ⟨(w.heap.size + 1 + 1), 6, none⟩ = some (.int .u64 (cm : Int)) := by rw [cell_of_row w14 _ 6 _ _ _ hx]; rfl
         have hz6w14 : w14.cell? ⟨w.heap.size, 6, none⟩ = some (.int .u64 0) := by rw [cell_of_row w14 _ 6 _ _ _ hr]; rfl
         have hf6w14 : w14.frozen? ⟨w.heap.size, 6, none⟩ = false := frozen_of_row w14 _ 6 _ _ hr
         have hc7w14 : w14.cell? ⟨(w.heap.size + 1 + 1), 7, none⟩ = some (.int .u64 (rd : Int)) := by rw [cell_of_row w14 _ 7 _ _ _ hx]; rfl
         have hz7w14 : w14.cell? ⟨w.heap.size, 7, none⟩ = some (.int .u64 0) := by rw [cell_of_row w14 _ 7 _ _ _ hr]; rfl
         have hf7w14 : w14.frozen? ⟨w.heap.size, 7, none⟩ = false := frozen_of_row w14 _ 7 _ _ hr
         have hc8w14 : w14.cell? ⟨(w.heap.size + 1 + 1), 8, none⟩ = some (.bool ok) := by rw [cell_of_row w14 _ 8 _ _ _ hx]; rfl
         have hz8w14 : w14.cell? ⟨w.heap.size, 8, none⟩ = some (.bool false) := by rw [cell_of_row w14 _ 8 _ _ _ hr]; rfl
         have hf8w14 : w14.frozen? ⟨w.heap.size, 8, none⟩ = false := frozen_of_row w14 _ 8 _ _ hr
         have hc9w14 : w14.cell? ⟨(w.heap.size + 1 + 1), 9, none⟩ = some (.slice Ae es.length ce) := by rw [cell_of_row w14 _ 9 _ _ _ hx]; rfl
         have hz9w14 : w14.cell? ⟨w.heap.size, 9, none⟩ = some (.slice none 0 0) := by rw [cell_of_row w14 _ 9 _ _ _ hr]; rfl
         have hf9w14 : w14.frozen? ⟨w.heap.size, 9, none⟩ = false := frozen_of_row w14 _ 9 _ _ hr
         have hc10w14 : w14.cell? ⟨(w.heap.size + 1 + 1), 10, none⟩ = some (.slice A0 vs.length c0) := by rw [cell_of_row w14 _ 10 _ _ _ hx]; rfl
         have hz10w14 : w14.cell? ⟨w.heap.size, 10, none⟩ = some (.slice none 0 0) := by rw [cell_of_row w14 _ 10 _ _ _ hr]; rfl
         have hf10w14 : w14.frozen? ⟨w.heap.size, 10, none⟩ = false := frozen_of_row w14 _ 10 _ _ hr
         have hc11w14 : w14.cell? ⟨(w.heap.size + 1 + 1), 11, none⟩ = some (.slice A1 ls.length c1) := by rw [cell_of_row w14 _ 11 _ _ _ hx]; rfl
         have hz11w14 : w14.cell? ⟨w.heap.size, 11, none⟩ = some (.slice none 0 0) := by rw [cell_of_row w14 _ 11 _ _ _ hr]; rfl
         have hf11w14 : w14.frozen? ⟨w.heap.size, 11, none⟩ = false := frozen_of_row w14 _ 11 _ _ hr
         have hc12w14 : w14.cell? ⟨(w.heap.size + 1 + 1), 12, none⟩ = some (.int .i64 (fo : Int)) := by rw [cell_of_row w14 _ 12 _ _ _ hx]; rfl
         have hz12w14 : w14.cell? ⟨w.heap.size, 12, none⟩ = some (.int .i64 0) := by rw [cell_of_row w14 _ 12 _ _ _ hr]; rfl
         have hf12w14 : w14.frozen? ⟨w.heap.size, 12, none⟩ = false := frozen_of_row w14 _ 12 _ _ hr
         have hc13w14 : w14.cell? ⟨(w.heap.size + 1 + 1), 13, none⟩ = some (.slice A4 da.length c4) := by rw [cell_of_row w14 _ 13 _ _ _ hx]; rfl
         have hz13w14 : w14.cell? ⟨w.heap.size, 13, none⟩ = some (.slice none 0 0) := by rw [cell_of_row w14 _ 13 _ _ _ hr]; rfl
         have hf13w14 : w14.frozen? ⟨w.heap.size, 13, none⟩ = false := frozen_of_row w14 _ 13 _ _ hr
         have HR3 := Lib.hid hr
         have HX3 := Lib.hid hx
         have HREP3 := Lib.hid (msgK_ok.keep HREP2.out (S' := (fun q => w.heap.size + 1 < q ∧ q < w14.heap.size)) (fun q hq => hgr.block q hq.2 (fun e => by have := Option.some.inj e; have := hq.1; omega)) (fun q hq => ⟨hq.1, Nat.lt_of_lt_of_le hq.2 hgr.size⟩))
         have HB3 := Lib.hid (HB2.out.grown hgr HB2.out.size (fun k e => by have := Option.some.inj e; omega))
         clear hin3 hgr3 hgr hx hr)
      | (go_simp; go_at_call 28; refine (HOK.out _ (msgK_ok.keep HREP3.out (S' := Old w14) (fun _ _ => rfl) (fun q hq => hq.2))).mono ?_; rintro e w15 ⟨rfl, hb4⟩
         have hx := (hb4.block (w.heap.size + 1 + 1) (row_lt HX3.out)).trans HX3.out
         have hr := (hb4.block w.heap.size (row_lt HR3.out)).trans HR3.out
         have hc0w15 : w15.cell? ⟨(w.heap.size + 1 + 1), 0, none⟩ = some (.int .i64 (kd : Int)) := by rw [cell_of_row w15 _ 0 _ _ _ hx]; rfl
         have hz0w15 : w15.cell? ⟨w.heap.size, 0, none⟩ = some (.int .i64 0) := by rw [cell_of_row w15 _ 0 _ _ _ hr]; rfl
         have hf0w15 : w15.frozen? ⟨w.heap.size, 0, none⟩ = false := frozen_of_row w15 _ 0 _ _ hr
         have hc1w15 : w15.cell? ⟨(w.heap.size + 1 + 1), 1, none⟩ = some (.int .i64 (fr : Int)) := by rw [cell_of_row w15 _ 1 _ _ _ hx]; rfl
         have hz1w15 : w15.cell? ⟨w.heap.size, 1, none⟩ = some (.int .i64 0) := by rw [cell_of_row w15 _ 1 _ _ _ hr]; rfl
         have hf1w15 : w15.frozen? ⟨w.heap.size, 1, none⟩ = false := frozen_of_row w15 _ 1 _ _ hr
         have hc2w15 : w15.cell? ⟨(w.heap.size + 1 + 1), 2, none⟩ = some (.int .i64 (tt : Int)) := by rw [cell_of_row w15 _ 2 _ _ _ hx]; rfl
         have hz2w15 : w15.cell? ⟨w.heap.size, 2, none⟩ = some (.int .i64 0) := by rw [cell_of_row w15 _ 2 _ _ _ hr]; rfl
         have hf2w15 : w15.frozen? ⟨w.heap.size, 2, none⟩ = false := frozen_of_row w15 _ 2 _ _ hr
         have hc3w15 : w15.cell? ⟨(w.heap.size + 1 + 1), 3, none⟩ = some (.int .u64 (tm : Int)) := by rw [cell_of_row w15 _ 3 _ _ _ hx]; rfl
         have hz3w15 : w15.cell? ⟨w.heap.size, 3, none⟩ = some (.int .u64 0) := by rw [cell_of_row w15 _ 3 _ _ _ hr]; rfl
         have hf3w15 : w15.frozen? ⟨w.heap.size, 3, none⟩ = false := frozen_of_row w15 _ 3 _ _ hr
         have hc4w15 : w15.cell? ⟨(w.heap.size + 1 + 1), 4, none⟩ = some (.int .u64 (ix : Int)) := by rw [cell_of_row w15 _ 4 _ _ _ hx]; rfl
         have hz4w15 : w15.cell? ⟨w.heap.size, 4, none⟩ = some (.int .u64 0) := by rw [cell_of_row w15 _ 4 _ _ _ hr]; rfl
         have hf4w15 : w15.frozen? ⟨w.heap.size, 4, none⟩ = false := frozen_of_row w15 _ 4 _ _ hr
         have hc5w15 : w15.cell? ⟨(w.heap.size + 1 + 1), 5, none⟩ = some (.int .u64 (lt : Int)) := by rw [cell_of_row w15 _ 5 _ _ _ hx]; rfl
         have hz5w15 : w15.cell? ⟨w.heap.size, 5, none⟩ = some (.int .u64 0) := by rw [cell_of_row w15 _ 5 _ _ _ hr]; rfl
         have hf5w15 : w15.frozen? ⟨w.heap.size, 5, none⟩ = false := frozen_of_row w15 _ 5 _ _ hr
         have hc6w15 : w15.cell? ⟨(w.heap.size + 1 + 1), 6, none⟩ = some (.int .u64 (cm : Int)) := by rw [cell_of_row w15 _ 6 _ _ _ hx]; rfl
         have hz6w15 : w15.cell? ⟨w.heap.size, 6, none⟩ = some (.int .u64 0) := by rw [cell_of_row w15 _ 6 _ _ _ hr]; rfl
         have hf6w15 : w15.frozen? ⟨w.heap.size, 6, none⟩ = false := frozen_of_row w15 _ 6 _ _ hr
         have hc7w15 : w15.cell? ⟨(w.heap.size + 1 + 1), 7, none⟩ = some (.int .u64 (rd : Int)) := by rw [cell_of_row w15 _ 7 _ _ _ hx]; rfl
         have hz7w15 : w15.cell? ⟨w.heap.size, 7, none⟩ = some (.int .u64 0) := by rw [cell_of_row w15 _ 7 _ _ _ hr]; rfl
         have hf7w15 : w15.frozen? ⟨w.heap.size, 7, none⟩ = false := frozen_of_row w15 _ 7 _ _ hr
         have hc8w15 : w15.cell? ⟨(w.heap.size + 1 + 1), 8, none⟩ = some (.bool ok) := by rw [cell_of_row w15 _ 8 _ _ _ hx]; rfl
         have hz8w15 : w15.cell? ⟨w.heap.size, 8, none⟩ = some (.bool false) := by rw [cell_of_row w15 _ 8 _ _ _ hr]; rfl
         have hf8w15 : w15.frozen? ⟨w.heap.size, 8, none⟩ = false := frozen_of_row w15 _ 8 _ _ hr
         have hc9w15 : w15.cell? ⟨(w.heap.size + 1 + 1), 9, none⟩ = some (.slice Ae es.length ce) := by rw [cell_of_row w15 _ 9 _ _ _ hx]; rfl
         have hz9w15 : w15.cell? ⟨w.heap.size, 9, none⟩ = some (.slice none 0 0) := by rw [cell_of_row w15 _ 9 _ _ _ hr]; rfl
         have hf9w15 : w15.frozen? ⟨w.heap.size, 9, none⟩ = false := frozen_of_row w15 _ 9 _ _ hr
         have hc10w15 : w15.cell? ⟨(w.heap.size + 1 + 1), 10, none⟩ = some (.slice A0 vs.length c0) := by rw [cell_of_row w15 _ 10 _ _ _ hx]; rfl
         have hz10w15 : w15.cell? ⟨w.heap.size, 10, none⟩ = some (.slice none 0 0) := by rw [cell_of_row w15 _ 10 _ _ _ hr]; rfl
         have hf10w15 : w15.frozen? ⟨w.heap.size, 10, none⟩ = false := frozen_of_row w15 _ 10 _ _ hr
         have hc11w15 : w15.cell? ⟨(w.heap.size + 1 + 1), 11, none⟩ = some (.slice A1 ls.length c1) := by rw [cell_of_row w15 _ 11 _ _ _ hx]; rfl
         have hz11w15 : w15.cell? ⟨w.heap.size, 11, none⟩ = some (.slice none 0 0) := by rw [cell_of_row w15 _ 11 _ _ _ hr]; rfl
         have hf11w15 : w15.frozen? ⟨w.heap.size, 11, none⟩ = false := frozen_of_row w15 _ 11 _ _ hr
         have hc12w15 : w15.cell? ⟨(w.heap.size + 1 + 1), 12, none⟩ = some (.int .i64 (fo : Int)) := by rw [cell_of_row w15 _ 12 _ _ _ hx]; rfl
         have hz12w15 : w15.cell? ⟨w.heap.size, 12, none⟩ = some (.int .i64 0) := by rw [cell_of_row w15 _ 12 _ _ _ hr]; rfl
         have hf12w15 : w15.frozen? ⟨w.heap.size, 12, none⟩ = false := frozen_of_row w15 _ 12 _ _ hr
         have hc13w15 : w15.cell? ⟨(w.heap.size + 1 + 1), 13, none⟩ = some (.slice A4 da.length c4) := by rw [cell_of_row w15 _ 13 _ _ _ hx]; rfl
         have hz13w15 : w15.cell? ⟨w.heap.size, 13, none⟩ = some (.slice none 0 0) := by rw [cell_of_row w15 _ 13 _ _ _ hr]; rfl
         have hf13w15 : w15.frozen? ⟨w.heap.size, 13, none⟩ = false := frozen_of_row w15 _ 13 _ _ hr
         have HR4 := Lib.hid hr
         have HREP4 := Lib.hid (msgK_ok.keep HREP3.out (S' := (fun q => w.heap.size + 1 < q ∧ q < w15.heap.size)) (fun q hq => hb4.block q hq.2) (fun q hq => ⟨hq.1, Nat.lt_of_lt_of_le hq.2 hb4.size⟩))
         have HB4 := Lib.hid (HB3.out.trans (hb4.mono HB3.out.size))
         clear hx hr hb4))
    all_goals
      go_wp2
      obtain ⟨x0, hx0⟩ : ∃ x, x = w15.setCell ⟨w.heap.size, 0, none⟩ (.int .i64 (kd : Int)) := ⟨_, rfl⟩
      rw [← hx0]
      have r0 : x0.heap[w.heap.size]? = some (.cells #[.int .i64 (kd : Int), .int .i64 0, .int .i64 0, .int .u64 0, .int .u64 0, .int .u64 0, .int .u64 0, .int .u64 0, .bool false, .slice none 0 0, .slice none 0 0, .slice none 0 0, .int .i64 0, .slice none 0 0] 29 (0, 0)) := by rw [hx0]; exact heap_setCell_same w15 w.heap.size 0 _ _ (.int .i64 (kd : Int)) HR4.out
      have o0 : ∀ q, q ≠ w.heap.size → x0.heap[q]? = w15.heap[q]? := fun q hq => by rw [hx0, heap_setCell_other w15 ⟨w.heap.size, 0, none⟩ q _ hq]
      have z0 : x0.heap.size = w15.heap.size := by rw [hx0, size_setCell']
      have b0 : Below w.heap.size w x0 := by rw [hx0]; exact Below.setCell (p := ⟨w.heap.size, 0, none⟩) HB4.out (Nat.le_refl _) (.int .i64 (kd : Int))
      clear hx0
      obtain ⟨x1, hx1⟩ : ∃ x, x = x0.setCell ⟨w.heap.size, 1, none⟩ (.int .i64 (fr : Int)) := ⟨_, rfl⟩
      rw [← hx1]
      have r1 : x1.heap[w.heap.size]? = some (.cells #[.int .i64 (kd : Int), .int .i64 (fr : Int), .int .i64 0, .int .u64 0, .int .u64 0, .int .u64 0, .int .u64 0, .int .u64 0, .bool false, .slice none 0 0, .slice none 0 0, .slice none 0 0, .int .i64 0, .slice none 0 0] 29 (0, 0)) := by rw [hx1]; exact heap_setCell_same x0 w.heap.size 1 _ _ (.int .i64 (fr : Int)) r0
      have o1 : ∀ q, q ≠ w.heap.size → x1.heap[q]? = w15.heap[q]? := fun q hq => by rw [hx1, heap_setCell_other x0 ⟨w.heap.size, 1, none⟩ q _ hq]; exact o0 q hq
      have z1 : x1.heap.size = w15.heap.size := by rw [hx1, size_setCell']; exact z0
      have b1 : Below w.heap.size w x1 := by rw [hx1]; exact Below.setCell (p := ⟨w.heap.size, 1, none⟩) b0 (Nat.le_refl _) (.int .i64 (fr : Int))
      clear hx1
      obtain ⟨x2, hx2⟩ : ∃ x, x = x1.setCell ⟨w.heap.size, 2, none⟩ (.int .i64 (tt : Int)) := ⟨_, rfl⟩
      rw [← hx2]
      have r2 : x2.heap[w.heap.size]? = some (.cells #[.int .i64 (kd : Int), .int .i64 (fr : Int), .int .i64 (tt : Int), .int .u64 0, .int .u64 0, .int .u64 0, .int .u64 0, .int .u64 0, .bool false, .slice none 0 0, .slice none 0 0, .slice none 0 0, .int .i64 0, .slice none 0 0] 29 (0, 0)) := by rw [hx2]; exact heap_setCell_same x1 w.heap.size 2 _ _ (.int .i64 (tt : Int)) r1
      have o2 : ∀ q, q ≠ w.heap.size → x2.heap[q]? = w15.heap[q]? := fun q hq => by rw [hx2, heap_setCell_other x1 ⟨w.heap.size, 2, none⟩ q _ hq]; exact o1 q hq
      have z2 : x2.heap.size = w15.heap.size := by rw [hx2, size_setCell']; exact z1
      have b2 : Below w.heap.size w x2 := by rw [hx2]; exact Below.setCell (p := ⟨w.heap.size, 2, none⟩) b1 (Nat.le_refl _) (.int .i64 (tt : Int))
      clear hx2
      obtain ⟨x3, hx3⟩ : ∃ x, x = x2.setCell ⟨w.heap.size, 3, none⟩ (.int .u64 (tm : Int)) := ⟨_, rfl⟩
      rw [← hx3]
      have r3 : x3.heap[w.heap.size]? = some (.cells #[.int .i64 (kd : Int), .int .i64 (fr : Int), .int .i64 (tt : Int), .int .u64 (tm : Int), .int .u64 0, .int .u64 0, .int .u64 0, .int .u64 0, .bool false, .slice none 0 0, .slice none 0 0, .slice none 0 0, .int .i64 0, .slice none 0 0] 29 (0, 0)) := by rw [hx3]; exact heap_setCell_same x2 w.heap.size 3 _ _ (.int .u64 (tm : Int)) r2
      have o3 : ∀ q, q ≠ w.heap.size → x3.heap[q]? = w15.heap[q]? := fun q hq => by rw [hx3, heap_setCell_other x2 ⟨w.heap.size, 3, none⟩ q _ hq]; exact o2 q hq
      have z3 : x3.heap.size = w15.heap.size := by rw [hx3, size_setCell']; exact z2
      have b3 : Below w.heap.size w x3 := by rw [hx3]; exact Below.setCell (p := ⟨w.heap.size, 3, none⟩) b2 (Nat.le_refl _) (.int .u64 (tm : Int))
      clear hx3
      obtain ⟨x4, hx4⟩ : ∃ x, x = x3.setCell ⟨w.heap.size, 4, none⟩ (.int .u64 (ix : Int)) := ⟨_, rfl⟩
      rw [← hx4]
      have r4 : x4.heap[w.heap.size]? = some (.cells #[.int .i64 (kd : Int), .int .i64 (fr : Int), .int .i64 (tt : Int), .int .u64 (tm : Int), .int .u64 (ix : Int), .int .u64 0, .int .u64 0, .int .u64 0, .bool false, .slice none 0 0, .slice none 0 0, .slice none 0 0, .int .i64 0, .slice none 0 0] 29 (0, 0)) := by rw [hx4]; exact heap_setCell_same x3 w.heap.size 4 _ _ (.int .u64 (ix : Int)) r3
      have o4 : ∀ q, q ≠ w.heap.size → x4.heap[q]? = w15.heap[q]? := fun q hq => by rw [hx4, heap_setCell_other x3 ⟨w.heap.size, 4, none⟩ q _ hq]; exact o3 q hq
      have z4 : x4.heap.size = w15.heap.size := by rw [hx4, size_setCell']; exact z3
      have b4 : Below w.heap.size w x4 := by rw [hx4]; exact Below.setCell (p := ⟨w.heap.size, 4, none⟩) b3 (Nat.le_refl _) (.int .u64 (ix : Int))
      clear hx4
      obtain ⟨x5, hx5⟩ : ∃ x, x = x4.setCell ⟨w.heap.size, 5, none⟩ (.int .u64 (lt : Int)) := ⟨_, rfl⟩
      rw [← hx5]
      have r5 : x5.heap[w.heap.size]? = some (.cells #[.int .i64 (kd : Int), .int .i64 (fr : Int), .int .i64 (tt : Int), .int .u64 (tm : Int), .int .u64 (ix : Int), .int .u64 (lt : Int), .int .u64 0, .int .u64 0, .bool false, .slice none 0 0, .slice none 0 0, .slice none 0 0, .int .i64 0, .slice none 0 0] 29 (0, 0)) := by rw [hx5]; exact heap_setCell_same x4 w.heap.size 5 _ _ (.int .u64 (lt : Int)) r4
      have o5 : ∀ q, q ≠ w.heap.size → x5.heap[q]? = w15.heap[q]? := fun q hq => by rw [hx5, heap_setCell_other x4 ⟨w.heap.size, 5, none⟩ q _ hq]; exact o4 q hq
      have z5 : x5.heap.size = w15.heap.size := by rw [hx5, size_setCell']; exact z4
      have b5 : Below w.heap.size w x5 := by rw [hx5]; exact Below.setCell (p := ⟨w.heap.size, 5, none⟩) b4 (Nat.le_refl _) (.int .u64 (lt : Int))
      clear hx5
      obtain ⟨x6, hx6⟩ : ∃ x, x = x5.setCell ⟨w.heap.size, 6, none⟩ (.int .u64 (cm : Int)) := ⟨_, rfl⟩
      rw [← hx6]
      have r6 : x6.heap[w.heap.size]? = some (.cells #[.int .i64 (kd : Int), .int .i64 (fr : Int), .int .i64 (tt : Int), .int .u64 (tm : Int), .int .u64 (ix : Int), .int .u64 (lt : Int), .int .u64 (cm : Int), .int .u64 0, .bool false, .slice none 0 0, .slice none 0 0, .slice none 0 0, .int .i64 0, .slice none 0 0] 29 (0, 0)) := by rw [hx6]; exact heap_setCell_same x5 w.heap.size 6 _ _ (.int .u64 (cm : Int)) r5
      have o6 : ∀ q, q ≠ w.heap.size → x6.heap[q]? = w15.heap[q]? := fun q hq => by rw [hx6, heap_setCell_other x5 ⟨w.heap.size, 6, none⟩ q _ hq]; exact o5 q hq
      have z6 : x6.heap.size = w15.heap.size := by rw [hx6, size_setCell']; exact z5
      have b6 : Below w.heap.size w x6 := by rw [hx6]; exact Below.setCell (p := ⟨w.heap.size, 6, none⟩) b5 (Nat.le_refl _) (.int .u64 (cm : Int))
      clear hx6
      obtain ⟨x7, hx7⟩ : ∃ x, x = x6.setCell ⟨w.heap.size, 7, none⟩ (.int .u64 (rd : Int)) := ⟨_, rfl⟩
      rw [← hx7]
      have r7 : x7.heap[w.heap.size]? = some (.cells #[.int .i64 (kd : Int), .int .i64 (fr : Int), .int .i64 (tt : Int), .int .u64 (tm : Int), .int .u64 (ix : Int), .int .u64 (lt : Int), .int .u64 (cm : Int), .int .u64 (rd : Int), .bool false, .slice none 0 0, .slice none 0 0, .slice none 0 0, .int .i64 0, .slice none 0 0] 29 (0, 0)) := by rw [hx7]; exact heap_setCell_same x6 w.heap.size 7 _ _ (.int .u64 (rd : Int)) r6
      have o7 : ∀ q, q ≠ w.heap.size → x7.heap[q]? = w15.heap[q]? := fun q hq => by rw [hx7, heap_setCell_other x6 ⟨w.heap.size, 7, none⟩ q _ hq]; exact o6 q hq
      have z7 : x7.heap.size = w15.heap.size := by rw [hx7, size_setCell']; exact z6
      have b7 : Below w.heap.size w x7 := by rw [hx7]; exact Below.setCell (p := ⟨w.heap.size, 7, none⟩) b6 (Nat.le_refl _) (.int .u64 (rd : Int))
      clear hx7
      obtain ⟨x8, hx8⟩ : ∃ x, x = x7.setCell ⟨w.heap.size, 8, none⟩ (.bool ok) := ⟨_, rfl⟩
      rw [← hx8]
      have r8 : x8.heap[w.heap.size]? = some (.cells #[.int .i64 (kd : Int), .int .i64 (fr : Int), .int .i64 (tt : Int), .int .u64 (tm : Int), .int .u64 (ix : Int), .int .u64 (lt : Int), .int .u64 (cm : Int), .int .u64 (rd : Int), .bool ok, .slice none 0 0, .slice none 0 0, .slice none 0 0, .int .i64 0, .slice none 0 0] 29 (0, 0)) := by rw [hx8]; exact heap_setCell_same x7 w.heap.size 8 _ _ (.bool ok) r7
      have o8 : ∀ q, q ≠ w.heap.size → x8.heap[q]? = w15.heap[q]? := fun q hq => by rw [hx8, heap_setCell_other x7 ⟨w.heap.size, 8, none⟩ q _ hq]; exact o7 q hq
      have z8 : x8.heap.size = w15.heap.size := by rw [hx8, size_setCell']; exact z7
      have b8 : Below w.heap.size w x8 := by rw [hx8]; exact Below.setCell (p := ⟨w.heap.size, 8, none⟩) b7 (Nat.le_refl _) (.bool ok)
      clear hx8
      obtain ⟨x9, hx9⟩ : ∃ x, x = x8.setCell ⟨w.heap.size, 9, none⟩ (.slice Ae es.length ce) := ⟨_, rfl⟩
      rw [← hx9]
      have r9 : x9.heap[w.heap.size]? = some (.cells #[.int .i64 (kd : Int), .int .i64 (fr : Int), .int .i64 (tt : Int), .int .u64 (tm : Int), .int .u64 (ix : Int), .int .u64 (lt : Int), .int .u64 (cm : Int), .int .u64 (rd : Int), .bool ok, .slice Ae es.length ce, .slice none 0 0, .slice none 0 0, .int .i64 0, .slice none 0 0] 29 (0, 0)) := by rw [hx9]; exact heap_setCell_same x8 w.heap.size 9 _ _ (.slice Ae es.length ce) r8
      have o9 : ∀ q, q ≠ w.heap.size → x9.heap[q]? = w15.heap[q]? := fun q hq => by rw [hx9, heap_setCell_other x8 ⟨w.heap.size, 9, none⟩ q _ hq]; exact o8 q hq
      have z9 : x9.heap.size = w15.heap.size := by rw [hx9, size_setCell']; exact z8
      have b9 : Below w.heap.size w x9 := by rw [hx9]; exact Below.setCell (p := ⟨w.heap.size, 9, none⟩) b8 (Nat.le_refl _) (.slice Ae es.length ce)
      clear hx9
      obtain ⟨x10, hx10⟩ : ∃ x, x = x9.setCell ⟨w.heap.size, 10, none⟩ (.slice A0 vs.length c0) := ⟨_, rfl⟩
      rw [← hx10]
      have r10 : x10.heap[w.heap.size]? = some (.cells #[.int .i64 (kd : Int), .int .i64 (fr : Int), .int .i64 (tt : Int), .int .u64 (tm : Int), .int .u64 (ix : Int), .int .u64 (lt : Int), .int .u64 (cm : Int), .int .u64 (rd : Int), .bool ok, .slice Ae es.length ce, .slice A0 vs.length c0, .slice none 0 0, .int .i64 0, .slice none 0 0] 29 (0, 0)) := by rw [hx10]; exact heap_setCell_same x9 w.heap.size 10 _ _ (.slice A0 vs.length c0) r9
      have o10 : ∀ q, q ≠ w.heap.size → x10.heap[q]? = w15.heap[q]? := fun q hq => by rw [hx10, heap_setCell_other x9 ⟨w.heap.size, 10, none⟩ q _ hq]; exact o9 q hq
      have z10 : x10.heap.size = w15.heap.size := by rw [hx10, size_setCell']; exact z9
      have b10 : Below w.heap.size w x10 := by rw [hx10]; exact Below.setCell (p := ⟨w.heap.size, 10, none⟩) b9 (Nat.le_refl _) (.slice A0 vs.length c0)
      clear hx10
      obtain ⟨x11, hx11⟩ : ∃ x, x = x10.setCell ⟨w.heap.size, 11, none⟩ (.slice A1 ls.length c1) := ⟨_, rfl⟩
      rw [← hx11]
      have r11 : x11.heap[w.heap.size]? = some (.cells #[.int .i64 (kd : Int), .int .i64 (fr : Int), .int .i64 (tt : Int), .int .u64 (tm : Int), .int .u64 (ix : Int), .int .u64 (lt : Int), .int .u64 (cm : Int), .int .u64 (rd : Int), .bool ok, .slice Ae es.length ce, .slice A0 vs.length c0, .slice A1 ls.length c1, .int .i64 0, .slice none 0 0] 29 (0, 0)) := by rw [hx11]; exact heap_setCell_same x10 w.heap.size 11 _ _ (.slice A1 ls.length c1) r10
      have o11 : ∀ q, q ≠ w.heap.size → x11.heap[q]? = w15.heap[q]? := fun q hq => by rw [hx11, heap_setCell_other x10 ⟨w.heap.size, 11, none⟩ q _ hq]; exact o10 q hq
      have z11 : x11.heap.size = w15.heap.size := by rw [hx11, size_setCell']; exact z10
      have b11 : Below w.heap.size w x11 := by rw [hx11]; exact Below.setCell (p := ⟨w.heap.size, 11, none⟩) b10 (Nat.le_refl _) (.slice A1 ls.length c1)
      clear hx11
      obtain ⟨x12, hx12⟩ : ∃ x, x = x11.setCell ⟨w.heap.size, 12, none⟩ (.int .i64 (fo : Int)) := ⟨_, rfl⟩
      rw [← hx12]
      have r12 : x12.heap[w.heap.size]? = some (.cells #[.int .i64 (kd : Int), .int .i64 (fr : Int), .int .i64 (tt : Int), .int .u64 (tm : Int), .int .u64 (ix : Int), .int .u64 (lt : Int), .int .u64 (cm : Int), .int .u64 (rd : Int), .bool ok, .slice Ae es.length ce, .slice A0 vs.length c0, .slice A1 ls.length c1, .int .i64 (fo : Int), .slice none 0 0] 29 (0, 0)) := by rw [hx12]; exact heap_setCell_same x11 w.heap.size 12 _ _ (.int .i64 (fo : Int)) r11
      have o12 : ∀ q, q ≠ w.heap.size → x12.heap[q]? = w15.heap[q]? := fun q hq => by rw [hx12, heap_setCell_other x11 ⟨w.heap.size, 12, none⟩ q _ hq]; exact o11 q hq
      have z12 : x12.heap.size = w15.heap.size := by rw [hx12, size_setCell']; exact z11
      have b12 : Below w.heap.size w x12 := by rw [hx12]; exact Below.setCell (p := ⟨w.heap.size, 12, none⟩) b11 (Nat.le_refl _) (.int .i64 (fo : Int))
      clear hx12
      obtain ⟨x13, hx13⟩ : ∃ x, x = x12.setCell ⟨w.heap.size, 13, none⟩ (.slice A4 da.length c4) := ⟨_, rfl⟩
      rw [← hx13]
      have r13 : x13.heap[w.heap.size]? = some (.cells #[.int .i64 (kd : Int), .int .i64 (fr : Int), .int .i64 (tt : Int), .int .u64 (tm : Int), .int .u64 (ix : Int), .int .u64 (lt : Int), .int .u64 (cm : Int), .int .u64 (rd : Int), .bool ok, .slice Ae es.length ce, .slice A0 vs.length c0, .slice A1 ls.length c1, .int .i64 (fo : Int), .slice A4 da.length c4] 29 (0, 0)) := by rw [hx13]; exact heap_setCell_same x12 w.heap.size 13 _ _ (.slice A4 da.length c4) r12
      have o13 : ∀ q, q ≠ w.heap.size → x13.heap[q]? = w15.heap[q]? := fun q hq => by rw [hx13, heap_setCell_other x12 ⟨w.heap.size, 13, none⟩ q _ hq]; exact o12 q hq
      have z13 : x13.heap.size = w15.heap.size := by rw [hx13, size_setCell']; exact z12
      have b13 : Below w.heap.size w x13 := by rw [hx13]; exact Below.setCell (p := ⟨w.heap.size, 13, none⟩) b12 (Nat.le_refl _) (.slice A4 da.length c4)
      clear hx13
      have hrep := msgK_ok.keep HREP4.out (S' := New w x13) (fun q hq => o13 q (by have := hq.1; omega)) (fun q hq => ⟨by have := hq.1; omega, by rw [z13]; exact hq.2⟩)
      exact bodyPost_ret (v := .tuple #[.agg #[.int .i64 (kd : Int), .int .i64 (fr : Int), .int .i64 (tt : Int), .int .u64 (tm : Int), .int .u64 (ix : Int), .int .u64 (lt : Int), .int .u64 (cm : Int), .int .u64 (rd : Int), .bool ok, .slice Ae es.length ce, .slice A0 vs.length c0, .slice A1 ls.length c1, .int .i64 (fo : Int), .slice A4 da.length c4], .bool sd]) (results_cell_tmp (fn := Tryz.f6) (p := 2) (q := 3) rfl _ _ w.heap.size 29 #[.int .i64 (kd : Int), .int .i64 (fr : Int), .int .i64 (tt : Int), .int .u64 (tm : Int), .int .u64 (ix : Int), .int .u64 (lt : Int), .int .u64 (cm : Int), .int .u64 (rd : Int), .bool ok, .slice Ae es.length ce, .slice A0 vs.length c0, .slice A1 ls.length c1, .int .i64 (fo : Int), .slice A4 da.length c4] (0, 0) _ rfl r13 Tryz.underlying29 (by kernel_rfl)) rfl ⟨_, by rw [HPW.out, HSD.out, Bool.true_and], hrep, b13⟩
end Go.Proofs.YtlgbipmmpocepaaGreat.Kd
