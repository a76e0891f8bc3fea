/- Package scupperref03's ToHard, ToShot, as contracts of calls. Written by genref2.py. -/
import Derived.Test.YtloieecpgndbhaaGreatKvB
import Derived.Test.YtloieecpgndbhaaGreatGS
namespace Go.Proofs.YtloieecpgndbhaaGreat.Kd
open Go.RowKit By CoP Co Mo

theorem inAt_set {B g X : Nat} {w : World} {b : List UInt8} {s : St} (h : InAt B g w b s) (hX : X ≠ g) (hB : B ≤ X) (o : Nat) (u : Value) : InAt B g (w.setCell ⟨X, o, none⟩ u) b s := by
  obtain ⟨A, c, at_, bad, h1, h2, h3, h4, h5, h6⟩ := h
  exact ⟨A, c, at_, bad, h1, h2, h3, (heap_setCell_other w ⟨X, o, none⟩ g u (fun e => hX e.symm)).trans h4, h5.setCell (p := ⟨X, o, none⟩) hB u, h6⟩
theorem asI_len (l : List Nat) : (asI l).length = l.length := by simp [asI]
theorem ownI_ids {base : Nat} {w : World} {A : Option Addr} {c : Nat} {l : List Nat} (h : OwnI base w (.slice A l.length c) l) (hl : ∀ x ∈ l, x ≤ 16) (h16 : l.length ≤ 16) {S : Nat → Prop} (hS : ∀ q, base ≤ q → q < w.heap.size → S q) :
    idsK.rep w S [.slice A l.length c] (.agg ((asI l).map litZ)) := by
  have hr := h.lies hl
  have hlt := h.lt
  obtain ⟨A', c', e, hc, _⟩ := h.form
  simp only [Value.slice.injEq, true_and] at e
  obtain ⟨rfl, rfl⟩ := e
  refine ⟨A, c, (asI l).map litZ, by rw [List.length_map, asI_len], rfl, by rw [List.length_map, asI_len]; exact hc, by rw [List.length_map, asI_len]; omega, fun hp => ?_⟩
  rw [List.length_map, asI_len] at hp
  obtain ⟨g, o, rfl, hg, h4⟩ := hr (by rw [asI_len]; exact hp)
  have hb := hlt g rfl
  refine ⟨g, o, rfl, hS g hb.1 hb.2, fun j d hd => ?_⟩
  rw [List.getElem?_map, Option.map_eq_some_iff] at hd
  obtain ⟨x, hx, rfl⟩ := hd
  obtain ⟨h5, h6, h7⟩ := h4 j x hx
  refine ⟨[.int .i64 x], ⟨x, h6, h7, rfl, rfl⟩, fun i v hv => ?_⟩
  have hi : i = 0 := by
    have := (List.getElem?_eq_some_iff.1 hv).1
    simpa using this
  subst hi
  have hv2 : Value.int .i64 x = v := by simpa using hv
  subst hv2
  have e1 : (intK 1 16).size = 1 := rfl
  rw [e1, Nat.mul_one, Nat.add_zero]
  exact h5
theorem ownI_conf {base : Nat} {w : World} {A0 A1 : Option Addr} {c0 c1 : Nat} {vs ls : List Nat} (h0 : OwnI base w (.slice A0 vs.length c0) vs) (h1 : OwnI base w (.slice A1 ls.length c1) ls) (hl0 : ∀ x ∈ vs, x ≤ 16) (hl1 : ∀ x ∈ ls, x ≤ 16) (k0 : vs.length ≤ 16) (k1 : ls.length ≤ 16)
    {S : Nat → Prop} (hS : ∀ q, base ≤ q → q < w.heap.size → S q) : confK.rep w S [.slice A0 vs.length c0, .slice A1 ls.length c1] (confD (asI vs) (asI ls)) :=
  ⟨_, rfl, [_], _, _, _, rfl, rfl, ownI_ids h0 hl0 k0 hS, [_], _, _, _, rfl, rfl, ownI_ids h1 hl1 k1 hS, rfl, rfl⟩
def pConfD : Rdr := fun s => (confD (asI (pConf s).1.1) (asI (pConf s).1.2), (pConf s).2)
def pShotD : Rdr := pRec [pNumD, pNumD, pConfD, pDataD]
theorem pIds_st (s : St) : stLen (pIds s).2 ≤ stLen s := by
  have hL : ∀ (n : Nat) (s : St), stLen (pIdsL n s).2 ≤ stLen s := by
    intro n
    induction n with
    | zero => intro s; exact Nat.le_refl _
    | succ n ih =>
      intro s
      cases s with
      | none => rw [pIdsL_none]; exact Nat.le_refl _
      | some r => exact Nat.le_trans (ih _) (pInt_len 16 (some r))
  exact Nat.le_trans (hL _ _) (pInt_len 16 s)
theorem pConf_st (s : St) : stLen (pConf s).2 ≤ stLen s := Nat.le_trans (pIds_st _) (pIds_st s)
set_option maxRecDepth 100000 in
set_option maxHeartbeats 4000000 in
theorem refToHard_any {A : Option Addr} {n c : Nat} {b : List UInt8} (w : World) (hn : n = b.length) (hnc : n ≤ c) (hm : n ≤ 140737488355328) (hr : Lies w w.heap.size A b) :
    Calls Tryz.prog 51 #[.slice A n c] w (RefTo hardK pHardD b w) := by
  subst hn
  obtain ⟨n1, s1, q1⟩ : ∃ n1 s1, pNum (some b) = (n1, s1) := ⟨_, _, rfl⟩
  obtain ⟨n2, st, q2⟩ : ∃ n2 st, pInt 16 s1 = (n2, st) := ⟨_, _, rfl⟩
  have l1 : n1 < 18446744073709551616 := by have := pNum_lt (some b); rw [q1] at this; exact this
  have l2 : n2 ≤ 16 := by have := pInt_le' 16 s1; rw [q2] at this; exact this
  have hd : pHardD (some b) = (hardD n1 (n2 : Nat), st) := by simp only [pHardD, pRec, pAll, pNumD, pIntD, q1, q2, hardD]
  have hsd : hardK.sound (hardD n1 (n2 : Nat)) = true := by
    rw [hard_sound l1, Bool.and_eq_true, decide_eq_true_eq, decide_eq_true_eq]; omega
  unfold RefTo
  rw [hd]
  simp only
  have hrep : ∀ (w : World) (S : Nat → Prop), hardK.rep w S [.int .u64 (n1 : Int), .int .i64 (n2 : Int)] (hardD n1 (n2 : Nat)) := fun w S => ⟨_, rfl, [_], _, _, _, rfl, rfl, ⟨n1, l1, rfl, rfl⟩, [_], _, _, _, rfl, rfl, ⟨(n2 : Int), by omega, by omega, rfl, rfl⟩, rfl, rfl⟩
  generalize hardD n1 (n2 : Nat) = d at hsd hrep ⊢
  have HQ1 := Lib.hid q1
  have HQ2 := Lib.hid q2
  have HSD := Lib.hid hsd
  have HREP := Lib.hid hrep
  clear q1 q2 l1 l2 hd hsd hrep
  obtain ⟨w0, hw0⟩ : ∃ w0, w0 = (((w.alloc (.cells #[.int .u64 0, .int .i64 0] 32)).alloc (.cells #[.slice A b.length c, .int .i64 0, .bool false] 194)).alloc (.cells #[.int .u64 0, .int .i64 0] 32)) := ⟨_, rfl⟩
  have hb0 : Below w.heap.size w w0 := by rw [hw0]; exact (((Below.refl _ _).alloc (Nat.le_refl _) _).alloc (by simp only [World.size_alloc]; omega) _).alloc (by simp only [World.size_alloc]; omega) _
  have hri : w0.heap[w.heap.size + 1]? = some (.cells #[.slice A b.length c, .int .i64 0, .bool false] 194 (0, 0)) := by
    rw [hw0, heap_alloc_old _ _ (by simp only [World.size_alloc]; omega)]; exact heap_alloc2_new w _ _
  have hin0 : InAt w.heap.size (w.heap.size + 1) w0 b (some b) := ⟨A, c, 0, false, Nat.le_succ _, hnc, hm, hri, hr.below hb0, Nat.zero_le _, .inr ⟨rfl, rfl⟩⟩
  have hrr0 : w0.heap[w.heap.size]? = some (.cells #[.int .u64 0, .int .i64 0] 32 (0, 0)) := by rw [hw0, heap_alloc_old _ _ (by simp only [World.size_alloc]; omega)]; exact heap_alloc2_old w _ _
  have hx0 : w0.heap[w.heap.size + 1 + 1]? = some (.cells #[.int .u64 0, .int .i64 0] 32 (0, 0)) := by
    have h := heap_alloc_new ((w.alloc (.cells #[.int .u64 0, .int .i64 0] 32)).alloc (.cells #[.slice A b.length c, .int .i64 0, .bool false] 194)) (.cells #[.int .u64 0, .int .i64 0] 32)
    rw [hw0]
    simpa only [World.size_alloc] using h
  have HB := Lib.hid hb0
  have HIN := Lib.hid hin0
  have HR := Lib.hid hrr0
  have HX := Lib.hid hx0
  clear hb0 hri hin0 hrr0 hx0 hr hnc hm
  go_enter Tryz.func51, Tryz.ntmps51
  go_wp2_with fail
  rw [← hw0]
  clear hw0
  have hzw := HB.out.size
  have hcall := inNum_any w.heap.size (w.heap.size + 1) b (some b) w0 HIN.out
  rw [HQ1.out] at hcall
  refine hcall.mono ?_
  rintro e u0 ⟨rfl, hin, hgr⟩
  have hx := (hgr.block (w.heap.size + 1 + 1) (row_lt HX.out) (fun e => by have := Option.some.inj e; omega)).trans HX.out
  have hr := (hgr.block w.heap.size (row_lt HR.out) (fun e => by have := Option.some.inj e; omega)).trans HR.out
  have hb := HB.out.grown hgr hzw (fun k e => by have := Option.some.inj e; omega)
  have hlx := row_lt HX.out
  have hzu := hgr.size
  have hcx0 : u0.cell? ⟨w.heap.size + 1 + 1, 0, none⟩ = some (.int .u64 0) := by rw [cell_of_row u0 _ 0 _ _ _ hx]; rfl
  have hfx0 : u0.frozen? ⟨w.heap.size + 1 + 1, 0, none⟩ = false := frozen_of_row u0 _ 0 _ _ hx
  have hx1 := heap_setCell_same u0 (w.heap.size + 1 + 1) 0 _ _ (.int .u64 (n1 : Int)) hx
  have hoth : ∀ q, q ≠ w.heap.size + 1 + 1 → (u0.setCell ⟨w.heap.size + 1 + 1, 0, none⟩ (.int .u64 (n1 : Int))).heap[q]? = u0.heap[q]? := fun q hq => heap_setCell_other _ ⟨w.heap.size + 1 + 1, 0, none⟩ q _ hq
  have hsz : (u0.setCell ⟨w.heap.size + 1 + 1, 0, none⟩ (.int .u64 (n1 : Int))).heap.size = u0.heap.size := by simp only [size_setCell']
  replace HX := Lib.hid (show (u0.setCell ⟨w.heap.size + 1 + 1, 0, none⟩ (.int .u64 (n1 : Int))).heap[w.heap.size + 1 + 1]? = some (.cells #[.int .u64 (n1 : Int), .int .i64 0] 32 (0, 0)) from hx1)
  replace HR := Lib.hid ((hoth w.heap.size (by omega)).trans hr)
  replace HIN := Lib.hid (inAt_set (X := w.heap.size + 1 + 1) hin (by omega) (by omega) 0 (.int .u64 (n1 : Int)))
  replace HB := Lib.hid (hb.setCell (p := ⟨w.heap.size + 1 + 1, 0, none⟩) (by show w.heap.size ≤ w.heap.size + 1 + 1; omega) (.int .u64 (n1 : Int)))
  clear hoth hsz hcall hx hx1 hr hb hin hgr hlx hzu hzw
  go_wp2_with fail
  generalize (u0.setCell ⟨w.heap.size + 1 + 1, 0, none⟩ (.int .u64 (n1 : Int))) = w1 at HX HR HIN HB ⊢
  clear hcx0 hfx0
  have hzw := HB.out.size
  have hcall : Calls Tryz.prog 103 #[.pointer (some ⟨w.heap.size + 1, 0, none⟩), .int .u64 16] w1 _ := inInt_any w.heap.size (w.heap.size + 1) b s1 16 (by decide) w1 HIN.out
  rw [HQ2.out] at hcall
  refine hcall.mono ?_
  rintro e u1 ⟨rfl, hin, hgr⟩
  have hx := (hgr.block (w.heap.size + 1 + 1) (row_lt HX.out) (fun e => by have := Option.some.inj e; omega)).trans HX.out
  have hr := (hgr.block w.heap.size (row_lt HR.out) (fun e => by have := Option.some.inj e; omega)).trans HR.out
  have hb := HB.out.grown hgr hzw (fun k e => by have := Option.some.inj e; omega)
  have hlx := row_lt HX.out
  have hzu := hgr.size
  have hcx0 : u1.cell? ⟨w.heap.size + 1 + 1, 1, none⟩ = some (.int .i64 0) := by rw [cell_of_row u1 _ 1 _ _ _ hx]; rfl
  have hfx0 : u1.frozen? ⟨w.heap.size + 1 + 1, 1, none⟩ = false := frozen_of_row u1 _ 1 _ _ hx
  have hx1 := heap_setCell_same u1 (w.heap.size + 1 + 1) 1 _ _ (.int .i64 (n2 : Int)) hx
  have hoth : ∀ q, q ≠ w.heap.size + 1 + 1 → (u1.setCell ⟨w.heap.size + 1 + 1, 1, none⟩ (.int .i64 (n2 : Int))).heap[q]? = u1.heap[q]? := fun q hq => heap_setCell_other _ ⟨w.heap.size + 1 + 1, 1, none⟩ q _ hq
  have hsz : (u1.setCell ⟨w.heap.size + 1 + 1, 1, none⟩ (.int .i64 (n2 : Int))).heap.size = u1.heap.size := by simp only [size_setCell']
  replace HX := Lib.hid (show (u1.setCell ⟨w.heap.size + 1 + 1, 1, none⟩ (.int .i64 (n2 : Int))).heap[w.heap.size + 1 + 1]? = some (.cells #[.int .u64 (n1 : Int), .int .i64 (n2 : Int)] 32 (0, 0)) from hx1)
  replace HR := Lib.hid ((hoth w.heap.size (by omega)).trans hr)
  replace HIN := Lib.hid (inAt_set (X := w.heap.size + 1 + 1) hin (by omega) (by omega) 1 (.int .i64 (n2 : Int)))
  replace HB := Lib.hid (hb.setCell (p := ⟨w.heap.size + 1 + 1, 1, none⟩) (by show w.heap.size ≤ w.heap.size + 1 + 1; omega) (.int .i64 (n2 : Int)))
  clear hoth hsz hcall hx hx1 hr hb hin hgr hlx hzu hzw
  go_wp2_with fail
  generalize (u1.setCell ⟨w.heap.size + 1 + 1, 1, none⟩ (.int .i64 (n2 : Int))) = w2 at HX HR HIN HB ⊢
  clear hcx0 hfx0
  have HX2 := HX
  have HR2 := HR
  have HIN2 := HIN
  have HREP2 := Lib.hid (HREP.out w2 (fun q => w.heap.size + 1 < q ∧ q < w2.heap.size))
  have HB2 := HB
  have hca0 : w2.cell? ⟨w.heap.size + 1 + 1, 0, none⟩ = some (.int .u64 (n1 : Int)) := by rw [cell_of_row w2 _ 0 _ _ _ HX.out]; rfl
  have hca1 : w2.cell? ⟨w.heap.size + 1 + 1, 1, none⟩ = some (.int .i64 (n2 : Int)) := by rw [cell_of_row w2 _ 1 _ _ _ HX.out]; rfl
  have hXg : (some (w.heap.size + 1 + 1) : Option Nat) ≠ some (w.heap.size + 1) := fun e => by have := Option.some.inj e; omega
  clear HX HR HIN HB HREP
  have hRg : (some w.heap.size : Option Nat) ≠ some (w.heap.size + 1) := fun e => by have := Option.some.inj e; omega
  have hW := inWhole_any w.heap.size (w.heap.size + 1) b st w2.drew HIN2.out
  obtain ⟨ok, hpw⟩ : ∃ x, pWhole st = x := ⟨_, rfl⟩
  rw [hpw] at hW
  have HPW := Lib.hid hpw
  have HW := Lib.hid hW
  clear hpw hW
  go_region_law ((go_simp; go_at_call 96; refine HW.out.mono ?_; rintro e w3 ⟨rfl, hin3, hgr3⟩
                  have hgr : w2.grownBy w3 (some (w.heap.size + 1)) := ⟨hgr3.os, hgr3.tape, hgr3.output, hgr3.size, hgr3.block⟩
                  have hx := (hgr.block (w.heap.size + 1 + 1) (row_lt HX2.out) hXg).trans HX2.out
                  have hr := (hgr.block w.heap.size (row_lt HR2.out) hRg).trans HR2.out
                  have hc0w3 : w3.cell? ⟨(w.heap.size + 1 + 1), 0, none⟩ = some (.int .u64 (n1 : Int)) := by rw [cell_of_row w3 _ 0 _ _ _ hx]; rfl
                  have hz0w3 : w3.cell? ⟨w.heap.size, 0, none⟩ = some (.int .u64 0) := by rw [cell_of_row w3 _ 0 _ _ _ hr]; rfl
                  have hf0w3 : w3.frozen? ⟨w.heap.size, 0, none⟩ = false := frozen_of_row w3 _ 0 _ _ hr
                  have hc1w3 : w3.cell? ⟨(w.heap.size + 1 + 1), 1, none⟩ = some (.int .i64 (n2 : Int)) := by rw [cell_of_row w3 _ 1 _ _ _ hx]; rfl
                  have hz1w3 : w3.cell? ⟨w.heap.size, 1, none⟩ = some (.int .i64 0) := by rw [cell_of_row w3 _ 1 _ _ _ hr]; rfl
                  have hf1w3 : w3.frozen? ⟨w.heap.size, 1, none⟩ = false := frozen_of_row w3 _ 1 _ _ hr
                  have HR3 := Lib.hid hr
                  have HX3 := Lib.hid hx
                  have HREP3 := Lib.hid (hardK_ok.keep HREP2.out (S' := (fun q => w.heap.size + 1 < q ∧ q < w3.heap.size)) (fun q hq => hgr.block q hq.2 (fun e => by have := Option.some.inj e; have := hq.1; omega)) (fun q hq => ⟨hq.1, Nat.lt_of_lt_of_le hq.2 hgr.size⟩))
                  have HB3 := Lib.hid (HB2.out.grown hgr HB2.out.size (fun k e => by have := Option.some.inj e; omega))
                  clear hin3 hgr3 hgr hx hr))
  all_goals
    go_wp2
    have r0 := heap_setCell_same w3 w.heap.size 0 _ _ (.int .u64 (n1 : Int)) HR3.out
    have r1 := heap_setCell_same (w3.setCell ⟨w.heap.size, 0, none⟩ (.int .u64 (n1 : Int))) w.heap.size 1 _ _ (.int .i64 (n2 : Int)) r0
    have hrow : ((w3.setCell ⟨w.heap.size, 0, none⟩ (.int .u64 (n1 : Int))).setCell ⟨w.heap.size, 1, none⟩ (.int .i64 (n2 : Int))).heap[w.heap.size]? = some (.cells #[.int .u64 (n1 : Int), .int .i64 (n2 : Int)] 32 (0, 0)) := r1
    have hoth : ∀ q, q ≠ w.heap.size → ((w3.setCell ⟨w.heap.size, 0, none⟩ (.int .u64 (n1 : Int))).setCell ⟨w.heap.size, 1, none⟩ (.int .i64 (n2 : Int))).heap[q]? = w3.heap[q]? := fun q hq => (heap_setCell_other _ ⟨w.heap.size, 1, none⟩ q _ hq).trans (heap_setCell_other _ ⟨w.heap.size, 0, none⟩ q _ hq)
    have hsz : ((w3.setCell ⟨w.heap.size, 0, none⟩ (.int .u64 (n1 : Int))).setCell ⟨w.heap.size, 1, none⟩ (.int .i64 (n2 : Int))).heap.size = w3.heap.size := by simp only [size_setCell']
    have hbz := ((HB3.out).setCell (p := ⟨w.heap.size, 0, none⟩) (Nat.le_refl _) (.int .u64 (n1 : Int))).setCell (p := ⟨w.heap.size, 1, none⟩) (Nat.le_refl _) (.int .i64 (n2 : Int))
    have hrep := hardK_ok.keep HREP3.out (S' := New w ((w3.setCell ⟨w.heap.size, 0, none⟩ (.int .u64 (n1 : Int))).setCell ⟨w.heap.size, 1, none⟩ (.int .i64 (n2 : Int)))) (fun q hq => hoth q (by have := hq.1; omega)) (fun q hq => ⟨by have := hq.1; omega, by rw [hsz]; exact hq.2⟩)
    exact bodyPost_ret (v := .tuple #[.agg #[.int .u64 (n1 : Int), .int .i64 (n2 : Int)], .bool ok]) (results_cell_tmp (fn := Tryz.f51) (p := 2) (q := 3) rfl _ _ w.heap.size 32 #[.int .u64 (n1 : Int), .int .i64 (n2 : Int)] (0, 0) _ rfl hrow Tryz.underlying32 (by kernel_rfl)) rfl ⟨_, by rw [HPW.out, HSD.out, Bool.and_true], hrep, hbz⟩
set_option maxRecDepth 100000 in
set_option maxHeartbeats 8000000 in
theorem refToShot_any {A : Option Addr} {n c : Nat} {b : List UInt8} (w : World) (hn : n = b.length) (hnc : n ≤ c) (hm : n ≤ 140737488355328) (hr : Lies w w.heap.size A b) :
    Calls Tryz.prog 49 #[.slice A n c] w (RefTo shotK pShotD b w) := by
  subst hn
  obtain ⟨n1, s1, q1⟩ : ∃ n1 s1, pNum (some b) = (n1, s1) := ⟨_, _, rfl⟩
  obtain ⟨n2, s2, q2⟩ : ∃ n2 s2, pNum s1 = (n2, s2) := ⟨_, _, rfl⟩
  obtain ⟨vs, ls, s3, q3⟩ : ∃ vs ls s3, pConf s2 = ((vs, ls), s3) := ⟨_, _, _, rfl⟩
  obtain ⟨da, st, q4⟩ : ∃ da st, pData s3 = (da, st) := ⟨_, _, rfl⟩
  have l1 : n1 < 18446744073709551616 := by have := pNum_lt (some b); rw [q1] at this; exact this
  have l2 : n2 < 18446744073709551616 := by have := pNum_lt s1; rw [q2] at this; exact this
  have k0 : ∀ x ∈ vs, x ≤ 16 := by have h : ∀ x ∈ (pConf s2).1.1, x ≤ 16 := pIdsL_le _ _; rw [q3] at h; exact h
  have k1 : ∀ x ∈ ls, x ≤ 16 := by have h : ∀ x ∈ (pConf s2).1.2, x ≤ 16 := pIdsL_le _ _; rw [q3] at h; exact h
  have k2 : vs.length ≤ 16 := by have h : (pConf s2).1.1.length ≤ 16 := pIds_len _; rw [q3] at h; exact h
  have k3 : ls.length ≤ 16 := by have h : (pConf s2).1.2.length ≤ 16 := pIds_len _; rw [q3] at h; exact h
  have l5 : da.length ≤ 140737488355328 := by
    have h1 := pNum_len (some b)
    have h2 := pNum_len s1
    have h3 := pConf_st s2
    have h4 := pData_len s3
    rw [q1] at h1
    rw [q2] at h2
    rw [q3] at h3
    rw [q4] at h4
    simp only [stLen] at h1 h2 h3 h4
    omega
  have hd : pShotD (some b) = (shotD n1 n2 (asI vs) (asI ls) da, st) := by simp only [pShotD, pRec, pAll, pNumD, pConfD, pDataD, q1, q2, q3, q4, shotD]
  unfold RefTo
  rw [hd]
  simp only
  have hrep : ∀ (w : World) (S : Nat → Prop) (A0 A1 A4 : Option Addr) (c0 c1 c4 : Nat), confK.rep w S [.slice A0 vs.length c0, .slice A1 ls.length c1] (confD (asI vs) (asI ls)) → da.length ≤ c4 → LiesS w S A4 da → shotK.rep w S [.int .u64 (n1 : Int), .int .u64 (n2 : Int), .slice A0 vs.length c0, .slice A1 ls.length c1, .slice A4 da.length c4] (shotD n1 n2 (asI vs) (asI ls) da) := fun w S A0 A1 A4 c0 c1 c4 h1 h2 h3 => shot_rep l1 l2 h1 h2 l5 h3
  generalize shotD n1 n2 (asI vs) (asI ls) da = d at hrep ⊢
  have HQ1 := Lib.hid q1
  have HQ2 := Lib.hid q2
  have HQ3 := Lib.hid q3
  have HQ4 := Lib.hid q4
  have HL0 := Lib.hid k0
  have HL1 := Lib.hid k1
  have HL2 := Lib.hid k2
  have HL3 := Lib.hid k3
  have HREP := Lib.hid hrep
  clear q1 q2 q3 q4 l1 l2 k0 k1 k2 k3 l5 hd hrep
  obtain ⟨w0, hw0⟩ : ∃ w0, w0 = (((w.alloc (.cells #[.int .u64 0, .int .u64 0, .slice none 0 0, .slice none 0 0, .slice none 0 0] 30)).alloc (.cells #[.slice A b.length c, .int .i64 0, .bool false] 194)).alloc (.cells #[.int .u64 0, .int .u64 0, .slice none 0 0, .slice none 0 0, .slice none 0 0] 30)) := ⟨_, rfl⟩
  have hb0 : Below w.heap.size w w0 := by rw [hw0]; exact (((Below.refl _ _).alloc (Nat.le_refl _) _).alloc (by simp only [World.size_alloc]; omega) _).alloc (by simp only [World.size_alloc]; omega) _
  have hri : w0.heap[w.heap.size + 1]? = some (.cells #[.slice A b.length c, .int .i64 0, .bool false] 194 (0, 0)) := by
    rw [hw0, heap_alloc_old _ _ (by simp only [World.size_alloc]; omega)]; exact heap_alloc2_new w _ _
  have hin0 : InAt w.heap.size (w.heap.size + 1) w0 b (some b) := ⟨A, c, 0, false, Nat.le_succ _, hnc, hm, hri, hr.below hb0, Nat.zero_le _, .inr ⟨rfl, rfl⟩⟩
  have hrr0 : w0.heap[w.heap.size]? = some (.cells #[.int .u64 0, .int .u64 0, .slice none 0 0, .slice none 0 0, .slice none 0 0] 30 (0, 0)) := by rw [hw0, heap_alloc_old _ _ (by simp only [World.size_alloc]; omega)]; exact heap_alloc2_old w _ _
  have hx0 : w0.heap[w.heap.size + 1 + 1]? = some (.cells #[.int .u64 0, .int .u64 0, .slice none 0 0, .slice none 0 0, .slice none 0 0] 30 (0, 0)) := by
    have h := heap_alloc_new ((w.alloc (.cells #[.int .u64 0, .int .u64 0, .slice none 0 0, .slice none 0 0, .slice none 0 0] 30)).alloc (.cells #[.slice A b.length c, .int .i64 0, .bool false] 194)) (.cells #[.int .u64 0, .int .u64 0, .slice none 0 0, .slice none 0 0, .slice none 0 0] 30)
    rw [hw0]
    simpa only [World.size_alloc] using h
  have HB := Lib.hid hb0
  have HIN := Lib.hid hin0
  have HR := Lib.hid hrr0
  have HX := Lib.hid hx0
  clear hb0 hri hin0 hrr0 hx0 hr hnc hm
  go_enter Tryz.func49, Tryz.ntmps49
  go_wp2_with fail
  rw [← hw0]
  clear hw0
  have hzw := HB.out.size
  have hcall := inNum_any w.heap.size (w.heap.size + 1) b (some b) w0 HIN.out
  rw [HQ1.out] at hcall
  refine hcall.mono ?_
  rintro e u0 ⟨rfl, hin, hgr⟩
  have hx := (hgr.block (w.heap.size + 1 + 1) (row_lt HX.out) (fun e => by have := Option.some.inj e; omega)).trans HX.out
  have hr := (hgr.block w.heap.size (row_lt HR.out) (fun e => by have := Option.some.inj e; omega)).trans HR.out
  have hb := HB.out.grown hgr hzw (fun k e => by have := Option.some.inj e; omega)
  have hlx := row_lt HX.out
  have hzu := hgr.size
  have hcx0 : u0.cell? ⟨w.heap.size + 1 + 1, 0, none⟩ = some (.int .u64 0) := by rw [cell_of_row u0 _ 0 _ _ _ hx]; rfl
  have hfx0 : u0.frozen? ⟨w.heap.size + 1 + 1, 0, none⟩ = false := frozen_of_row u0 _ 0 _ _ hx
  have hx1 := heap_setCell_same u0 (w.heap.size + 1 + 1) 0 _ _ (.int .u64 (n1 : Int)) hx
  have hoth : ∀ q, q ≠ w.heap.size + 1 + 1 → (u0.setCell ⟨w.heap.size + 1 + 1, 0, none⟩ (.int .u64 (n1 : Int))).heap[q]? = u0.heap[q]? := fun q hq => heap_setCell_other _ ⟨w.heap.size + 1 + 1, 0, none⟩ q _ hq
  have hsz : (u0.setCell ⟨w.heap.size + 1 + 1, 0, none⟩ (.int .u64 (n1 : Int))).heap.size = u0.heap.size := by simp only [size_setCell']
  replace HX := Lib.hid (show (u0.setCell ⟨w.heap.size + 1 + 1, 0, none⟩ (.int .u64 (n1 : Int))).heap[w.heap.size + 1 + 1]? = some (.cells #[.int .u64 (n1 : Int), .int .u64 0, .slice none 0 0, .slice none 0 0, .slice none 0 0] 30 (0, 0)) from hx1)
  replace HR := Lib.hid ((hoth w.heap.size (by omega)).trans hr)
  replace HIN := Lib.hid (inAt_set (X := w.heap.size + 1 + 1) hin (by omega) (by omega) 0 (.int .u64 (n1 : Int)))
  replace HB := Lib.hid (hb.setCell (p := ⟨w.heap.size + 1 + 1, 0, none⟩) (by show w.heap.size ≤ w.heap.size + 1 + 1; omega) (.int .u64 (n1 : Int)))
  clear hoth hsz hcall hx hx1 hr hb hin hgr hlx hzu hzw
  go_wp2_with fail
  generalize (u0.setCell ⟨w.heap.size + 1 + 1, 0, none⟩ (.int .u64 (n1 : Int))) = w1 at HX HR HIN HB ⊢
  clear hcx0 hfx0
  have hzw := HB.out.size
  have hcall := inNum_any w.heap.size (w.heap.size + 1) b s1 w1 HIN.out
  rw [HQ2.out] at hcall
  refine hcall.mono ?_
  rintro e u1 ⟨rfl, hin, hgr⟩
  have hx := (hgr.block (w.heap.size + 1 + 1) (row_lt HX.out) (fun e => by have := Option.some.inj e; omega)).trans HX.out
  have hr := (hgr.block w.heap.size (row_lt HR.out) (fun e => by have := Option.some.inj e; omega)).trans HR.out
  have hb := HB.out.grown hgr hzw (fun k e => by have := Option.some.inj e; omega)
  have hlx := row_lt HX.out
  have hzu := hgr.size
  have hcx0 : u1.cell? ⟨w.heap.size + 1 + 1, 1, none⟩ = some (.int .u64 0) := by rw [cell_of_row u1 _ 1 _ _ _ hx]; rfl
  have hfx0 : u1.frozen? ⟨w.heap.size + 1 + 1, 1, none⟩ = false := frozen_of_row u1 _ 1 _ _ hx
  have hx1 := heap_setCell_same u1 (w.heap.size + 1 + 1) 1 _ _ (.int .u64 (n2 : Int)) hx
  have hoth : ∀ q, q ≠ w.heap.size + 1 + 1 → (u1.setCell ⟨w.heap.size + 1 + 1, 1, none⟩ (.int .u64 (n2 : Int))).heap[q]? = u1.heap[q]? := fun q hq => heap_setCell_other _ ⟨w.heap.size + 1 + 1, 1, none⟩ q _ hq
  have hsz : (u1.setCell ⟨w.heap.size + 1 + 1, 1, none⟩ (.int .u64 (n2 : Int))).heap.size = u1.heap.size := by simp only [size_setCell']
  replace HX := Lib.hid (show (u1.setCell ⟨w.heap.size + 1 + 1, 1, none⟩ (.int .u64 (n2 : Int))).heap[w.heap.size + 1 + 1]? = some (.cells #[.int .u64 (n1 : Int), .int .u64 (n2 : Int), .slice none 0 0, .slice none 0 0, .slice none 0 0] 30 (0, 0)) from hx1)
  replace HR := Lib.hid ((hoth w.heap.size (by omega)).trans hr)
  replace HIN := Lib.hid (inAt_set (X := w.heap.size + 1 + 1) hin (by omega) (by omega) 1 (.int .u64 (n2 : Int)))
  replace HB := Lib.hid (hb.setCell (p := ⟨w.heap.size + 1 + 1, 1, none⟩) (by show w.heap.size ≤ w.heap.size + 1 + 1; omega) (.int .u64 (n2 : Int)))
  clear hoth hsz hcall hx hx1 hr hb hin hgr hlx hzu hzw
  go_wp2_with fail
  generalize (u1.setCell ⟨w.heap.size + 1 + 1, 1, none⟩ (.int .u64 (n2 : Int))) = w2 at HX HR HIN HB ⊢
  clear hcx0 hfx0
  have hzw := HB.out.size
  have hcall := inConf_any w.heap.size (w.heap.size + 1) b s2 w2 HIN.out hzw
  rw [HQ3.out] at hcall
  refine hcall.mono ?_
  rintro e u2 ⟨v0, v1, rfl, ho0, ho1, hin, hgr⟩
  obtain ⟨A0, c0, rfl, hc0, hM0⟩ := ho0.form
  obtain ⟨A1, c1, rfl, hc1, hM1⟩ := ho1.form
  have hx := (hgr.block (w.heap.size + 1 + 1) (row_lt HX.out) (fun e => by have := Option.some.inj e; omega)).trans HX.out
  have hr := (hgr.block w.heap.size (row_lt HR.out) (fun e => by have := Option.some.inj e; omega)).trans HR.out
  have hb := HB.out.grown hgr hzw (fun k e => by have := Option.some.inj e; omega)
  have hlx := row_lt HX.out
  have hzu := hgr.size
  have hpc : confK.rep u2 (fun q => w.heap.size + 1 + 1 < q ∧ q < u2.heap.size) [.slice A0 vs.length c0, .slice A1 ls.length c1] (confD (asI vs) (asI ls)) := ownI_conf ho0 ho1 HL0.out HL1.out HL2.out HL3.out (fun q h1 h2 => ⟨by omega, h2⟩)
  have hcx0 : u2.cell? ⟨w.heap.size + 1 + 1, 2, none⟩ = some (.slice none 0 0) := by rw [cell_of_row u2 _ 2 _ _ _ hx]; rfl
  have hfx0 : u2.frozen? ⟨w.heap.size + 1 + 1, 2, none⟩ = false := frozen_of_row u2 _ 2 _ _ hx
  have hcx1 : u2.cell? ⟨w.heap.size + 1 + 1, 3, none⟩ = some (.slice none 0 0) := by rw [cell_of_row u2 _ 3 _ _ _ hx]; rfl
  have hfx1 : u2.frozen? ⟨w.heap.size + 1 + 1, 3, none⟩ = false := frozen_of_row u2 _ 3 _ _ hx
  have hx1 := heap_setCell_same u2 (w.heap.size + 1 + 1) 2 _ _ (.slice A0 vs.length c0) hx
  have hx2 := heap_setCell_same (u2.setCell ⟨w.heap.size + 1 + 1, 2, none⟩ (.slice A0 vs.length c0)) (w.heap.size + 1 + 1) 3 _ _ (.slice A1 ls.length c1) hx1
  have hoth : ∀ q, q ≠ w.heap.size + 1 + 1 → ((u2.setCell ⟨w.heap.size + 1 + 1, 2, none⟩ (.slice A0 vs.length c0)).setCell ⟨w.heap.size + 1 + 1, 3, none⟩ (.slice A1 ls.length c1)).heap[q]? = u2.heap[q]? := fun q hq => (heap_setCell_other _ ⟨w.heap.size + 1 + 1, 3, none⟩ q _ hq).trans (heap_setCell_other _ ⟨w.heap.size + 1 + 1, 2, none⟩ q _ hq)
  have hsz : ((u2.setCell ⟨w.heap.size + 1 + 1, 2, none⟩ (.slice A0 vs.length c0)).setCell ⟨w.heap.size + 1 + 1, 3, none⟩ (.slice A1 ls.length c1)).heap.size = u2.heap.size := by simp only [size_setCell']
  replace HX := Lib.hid (show ((u2.setCell ⟨w.heap.size + 1 + 1, 2, none⟩ (.slice A0 vs.length c0)).setCell ⟨w.heap.size + 1 + 1, 3, none⟩ (.slice A1 ls.length c1)).heap[w.heap.size + 1 + 1]? = some (.cells #[.int .u64 (n1 : Int), .int .u64 (n2 : Int), .slice A0 vs.length c0, .slice A1 ls.length c1, .slice none 0 0] 30 (0, 0)) from hx2)
  replace HR := Lib.hid ((hoth w.heap.size (by omega)).trans hr)
  replace HIN := Lib.hid (inAt_set (X := w.heap.size + 1 + 1) (inAt_set (X := w.heap.size + 1 + 1) hin (by omega) (by omega) 2 (.slice A0 vs.length c0)) (by omega) (by omega) 3 (.slice A1 ls.length c1))
  replace HB := Lib.hid ((hb.setCell (p := ⟨w.heap.size + 1 + 1, 2, none⟩) (by show w.heap.size ≤ w.heap.size + 1 + 1; omega) (.slice A0 vs.length c0)).setCell (p := ⟨w.heap.size + 1 + 1, 3, none⟩) (by show w.heap.size ≤ w.heap.size + 1 + 1; omega) (.slice A1 ls.length c1))
  have HPC := Lib.hid (confK_ok.keep hpc (S' := (fun q => w.heap.size + 1 + 1 < q ∧ q < ((u2.setCell ⟨w.heap.size + 1 + 1, 2, none⟩ (.slice A0 vs.length c0)).setCell ⟨w.heap.size + 1 + 1, 3, none⟩ (.slice A1 ls.length c1)).heap.size)) (fun q hq => hoth q (by have := hq.1; omega)) (fun q hq => ⟨hq.1, by rw [hsz]; exact hq.2⟩))
  clear hoth hsz hcall hx hx1 hx2 hr hb hin hgr hlx hzu hzw hpc ho0 ho1 hc0 hc1 hM0 hM1
  go_wp2_with fail
  generalize ((u2.setCell ⟨w.heap.size + 1 + 1, 2, none⟩ (.slice A0 vs.length c0)).setCell ⟨w.heap.size + 1 + 1, 3, none⟩ (.slice A1 ls.length c1)) = w3 at HX HR HIN HB HPC ⊢
  clear hcx0 hfx0 hcx1 hfx1
  have hzw := HB.out.size
  have hcall := inData_any w.heap.size (w.heap.size + 1) b s3 w3 HIN.out hzw
  rw [HQ4.out] at hcall
  refine hcall.mono ?_
  rintro e u3 ⟨v, rfl, ho, hin, hgr⟩
  obtain ⟨A4, c4, rfl, hc4, _, _, _, _⟩ := ho.form
  have hx := (hgr.block (w.heap.size + 1 + 1) (row_lt HX.out) (fun e => by have := Option.some.inj e; omega)).trans HX.out
  have hr := (hgr.block w.heap.size (row_lt HR.out) (fun e => by have := Option.some.inj e; omega)).trans HR.out
  have hb := HB.out.grown hgr hzw (fun k e => by have := Option.some.inj e; omega)
  have hlx := row_lt HX.out
  have hzu := hgr.size
  have hpc := confK_ok.keep HPC.out (S' := (fun q => w.heap.size + 1 + 1 < q ∧ q < u3.heap.size)) (fun q hq => hgr.block q hq.2 (fun e => by have := Option.some.inj e; have := hq.1; omega)) (fun q hq => ⟨hq.1, Nat.lt_of_lt_of_le hq.2 hzu⟩)
  have hpd : LiesS u3 (fun q => w.heap.size + 1 + 1 < q ∧ q < u3.heap.size) A4 da := (LiesS.own ho).keep (fun _ _ => rfl) (fun q hq => ⟨by have := hq.1; omega, hq.2⟩)
  have hcx0 : u3.cell? ⟨w.heap.size + 1 + 1, 4, none⟩ = some (.slice none 0 0) := by rw [cell_of_row u3 _ 4 _ _ _ hx]; rfl
  have hfx0 : u3.frozen? ⟨w.heap.size + 1 + 1, 4, none⟩ = false := frozen_of_row u3 _ 4 _ _ hx
  have hx1 := heap_setCell_same u3 (w.heap.size + 1 + 1) 4 _ _ (.slice A4 da.length c4) hx
  have hoth : ∀ q, q ≠ w.heap.size + 1 + 1 → (u3.setCell ⟨w.heap.size + 1 + 1, 4, none⟩ (.slice A4 da.length c4)).heap[q]? = u3.heap[q]? := fun q hq => heap_setCell_other _ ⟨w.heap.size + 1 + 1, 4, none⟩ q _ hq
  have hsz : (u3.setCell ⟨w.heap.size + 1 + 1, 4, none⟩ (.slice A4 da.length c4)).heap.size = u3.heap.size := by simp only [size_setCell']
  replace HX := Lib.hid (show (u3.setCell ⟨w.heap.size + 1 + 1, 4, none⟩ (.slice A4 da.length c4)).heap[w.heap.size + 1 + 1]? = some (.cells #[.int .u64 (n1 : Int), .int .u64 (n2 : Int), .slice A0 vs.length c0, .slice A1 ls.length c1, .slice A4 da.length c4] 30 (0, 0)) from hx1)
  replace HR := Lib.hid ((hoth w.heap.size (by omega)).trans hr)
  replace HIN := Lib.hid (inAt_set (X := w.heap.size + 1 + 1) hin (by omega) (by omega) 4 (.slice A4 da.length c4))
  replace HB := Lib.hid (hb.setCell (p := ⟨w.heap.size + 1 + 1, 4, none⟩) (by show w.heap.size ≤ w.heap.size + 1 + 1; omega) (.slice A4 da.length c4))
  replace HPC := Lib.hid (confK_ok.keep hpc (S' := (fun q => w.heap.size + 1 + 1 < q ∧ q < (u3.setCell ⟨w.heap.size + 1 + 1, 4, none⟩ (.slice A4 da.length c4)).heap.size)) (fun q hq => hoth q (by have := hq.1; omega)) (fun q hq => ⟨hq.1, by rw [hsz]; exact hq.2⟩))
  have HPD := Lib.hid (hpd.keep (S' := (fun q => w.heap.size + 1 + 1 < q ∧ q < (u3.setCell ⟨w.heap.size + 1 + 1, 4, none⟩ (.slice A4 da.length c4)).heap.size)) (fun q hq => hoth q (by have := hq.1; omega)) (fun q hq => ⟨hq.1, by rw [hsz]; exact hq.2⟩))
  have HC4 := Lib.hid hc4
  clear hoth hsz hcall hx hx1 hr hb hin hgr hlx hzu hzw hpc hpd ho hc4
  go_wp2_with fail
  generalize (u3.setCell ⟨w.heap.size + 1 + 1, 4, none⟩ (.slice A4 da.length c4)) = w4 at HX HR HIN HB HPC HPD ⊢
  clear hcx0 hfx0
  have HX2 := HX
  have HR2 := HR
  have HIN2 := HIN
  have HREP2 := Lib.hid (shotK_ok.keep (HREP.out w4 _ _ _ _ _ _ _ HPC.out HC4.out HPD.out) (S' := fun q => w.heap.size + 1 < q ∧ q < w4.heap.size) (fun _ _ => rfl) (fun q hq => ⟨by have := hq.1; omega, hq.2⟩))
  have HB2 := HB
  have hca0 : w4.cell? ⟨w.heap.size + 1 + 1, 0, none⟩ = some (.int .u64 (n1 : Int)) := by rw [cell_of_row w4 _ 0 _ _ _ HX.out]; rfl
  have hca1 : w4.cell? ⟨w.heap.size + 1 + 1, 1, none⟩ = some (.int .u64 (n2 : Int)) := by rw [cell_of_row w4 _ 1 _ _ _ HX.out]; rfl
  have hca2 : w4.cell? ⟨w.heap.size + 1 + 1, 2, none⟩ = some (.slice A0 vs.length c0) := by rw [cell_of_row w4 _ 2 _ _ _ HX.out]; rfl
  have hca3 : w4.cell? ⟨w.heap.size + 1 + 1, 3, none⟩ = some (.slice A1 ls.length c1) := by rw [cell_of_row w4 _ 3 _ _ _ HX.out]; rfl
  have hca4 : w4.cell? ⟨w.heap.size + 1 + 1, 4, none⟩ = some (.slice A4 da.length c4) := by rw [cell_of_row w4 _ 4 _ _ _ HX.out]; rfl
  have hXg : (some (w.heap.size + 1 + 1) : Option Nat) ≠ some (w.heap.size + 1) := fun e => by have := Option.some.inj e; omega
  clear HX HR HIN HB HREP HPC HPD HC4
  have hRg : (some w.heap.size : Option Nat) ≠ some (w.heap.size + 1) := fun e => by have := Option.some.inj e; omega
  have hW := inWhole_any w.heap.size (w.heap.size + 1) b st w4.drew HIN2.out
  obtain ⟨ok, hpw⟩ : ∃ x, pWhole st = x := ⟨_, rfl⟩
  rw [hpw] at hW
  have HPW := Lib.hid hpw
  have HW := Lib.hid hW
  clear hpw hW
  cases ok with
  | false =>
    go_region_law ((go_simp; go_at_call 96; refine HW.out.mono ?_; rintro e w5 ⟨rfl, hin3, hgr3⟩
                    have hgr : w4.grownBy w5 (some (w.heap.size + 1)) := ⟨hgr3.os, hgr3.tape, hgr3.output, hgr3.size, hgr3.block⟩
                    have hx := (hgr.block (w.heap.size + 1 + 1) (row_lt HX2.out) hXg).trans HX2.out
                    have hr := (hgr.block w.heap.size (row_lt HR2.out) hRg).trans HR2.out
                    have hc0w5 : w5.cell? ⟨(w.heap.size + 1 + 1), 0, none⟩ = some (.int .u64 (n1 : Int)) := by rw [cell_of_row w5 _ 0 _ _ _ hx]; rfl
                    have hz0w5 : w5.cell? ⟨w.heap.size, 0, none⟩ = some (.int .u64 0) := by rw [cell_of_row w5 _ 0 _ _ _ hr]; rfl
                    have hf0w5 : w5.frozen? ⟨w.heap.size, 0, none⟩ = false := frozen_of_row w5 _ 0 _ _ hr
                    have hc1w5 : w5.cell? ⟨(w.heap.size + 1 + 1), 1, none⟩ = some (.int .u64 (n2 : Int)) := by rw [cell_of_row w5 _ 1 _ _ _ hx]; rfl
                    have hz1w5 : w5.cell? ⟨w.heap.size, 1, none⟩ = some (.int .u64 0) := by rw [cell_of_row w5 _ 1 _ _ _ hr]; rfl
                    have hf1w5 : w5.frozen? ⟨w.heap.size, 1, none⟩ = false := frozen_of_row w5 _ 1 _ _ hr
                    have hc2w5 : w5.cell? ⟨(w.heap.size + 1 + 1), 2, none⟩ = some (.slice A0 vs.length c0) := by rw [cell_of_row w5 _ 2 _ _ _ hx]; rfl
                    have hz2w5 : w5.cell? ⟨w.heap.size, 2, none⟩ = some (.slice none 0 0) := by rw [cell_of_row w5 _ 2 _ _ _ hr]; rfl
                    have hf2w5 : w5.frozen? ⟨w.heap.size, 2, none⟩ = false := frozen_of_row w5 _ 2 _ _ hr
                    have hc3w5 : w5.cell? ⟨(w.heap.size + 1 + 1), 3, none⟩ = some (.slice A1 ls.length c1) := by rw [cell_of_row w5 _ 3 _ _ _ hx]; rfl
                    have hz3w5 : w5.cell? ⟨w.heap.size, 3, none⟩ = some (.slice none 0 0) := by rw [cell_of_row w5 _ 3 _ _ _ hr]; rfl
                    have hf3w5 : w5.frozen? ⟨w.heap.size, 3, none⟩ = false := frozen_of_row w5 _ 3 _ _ hr
                    have hc4w5 : w5.cell? ⟨(w.heap.size + 1 + 1), 4, none⟩ = some (.slice A4 da.length c4) := by rw [cell_of_row w5 _ 4 _ _ _ hx]; rfl
                    have hz4w5 : w5.cell? ⟨w.heap.size, 4, none⟩ = some (.slice none 0 0) := by rw [cell_of_row w5 _ 4 _ _ _ hr]; rfl
                    have hf4w5 : w5.frozen? ⟨w.heap.size, 4, none⟩ = false := frozen_of_row w5 _ 4 _ _ hr
                    have HR3 := Lib.hid hr
                    have HX3 := Lib.hid hx
                    have HREP3 := Lib.hid (shotK_ok.keep HREP2.out (S' := (fun q => w.heap.size + 1 < q ∧ q < w5.heap.size)) (fun q hq => hgr.block q hq.2 (fun e => by have := Option.some.inj e; have := hq.1; omega)) (fun q hq => ⟨hq.1, Nat.lt_of_lt_of_le hq.2 hgr.size⟩))
                    have HB3 := Lib.hid (HB2.out.grown hgr HB2.out.size (fun k e => by have := Option.some.inj e; omega))
                    clear hin3 hgr3 hgr hx hr))
    all_goals
      go_wp2
      have r0 := heap_setCell_same w5 w.heap.size 0 _ _ (.int .u64 (n1 : Int)) HR3.out
      have r1 := heap_setCell_same (w5.setCell ⟨w.heap.size, 0, none⟩ (.int .u64 (n1 : Int))) w.heap.size 1 _ _ (.int .u64 (n2 : Int)) r0
      have r2 := heap_setCell_same ((w5.setCell ⟨w.heap.size, 0, none⟩ (.int .u64 (n1 : Int))).setCell ⟨w.heap.size, 1, none⟩ (.int .u64 (n2 : Int))) w.heap.size 2 _ _ (.slice A0 vs.length c0) r1
      have r3 := heap_setCell_same (((w5.setCell ⟨w.heap.size, 0, none⟩ (.int .u64 (n1 : Int))).setCell ⟨w.heap.size, 1, none⟩ (.int .u64 (n2 : Int))).setCell ⟨w.heap.size, 2, none⟩ (.slice A0 vs.length c0)) w.heap.size 3 _ _ (.slice A1 ls.length c1) r2
      have r4 := heap_setCell_same ((((w5.setCell ⟨w.heap.size, 0, none⟩ (.int .u64 (n1 : Int))).setCell ⟨w.heap.size, 1, none⟩ (.int .u64 (n2 : Int))).setCell ⟨w.heap.size, 2, none⟩ (.slice A0 vs.length c0)).setCell ⟨w.heap.size, 3, none⟩ (.slice A1 ls.length c1)) w.heap.size 4 _ _ (.slice A4 da.length c4) r3
      have hrow : (((((w5.setCell ⟨w.heap.size, 0, none⟩ (.int .u64 (n1 : Int))).setCell ⟨w.heap.size, 1, none⟩ (.int .u64 (n2 : Int))).setCell ⟨w.heap.size, 2, none⟩ (.slice A0 vs.length c0)).setCell ⟨w.heap.size, 3, none⟩ (.slice A1 ls.length c1)).setCell ⟨w.heap.size, 4, none⟩ (.slice A4 da.length c4)).heap[w.heap.size]? = some (.cells #[.int .u64 (n1 : Int), .int .u64 (n2 : Int), .slice A0 vs.length c0, .slice A1 ls.length c1, .slice A4 da.length c4] 30 (0, 0)) := r4
      have hoth : ∀ q, q ≠ w.heap.size → (((((w5.setCell ⟨w.heap.size, 0, none⟩ (.int .u64 (n1 : Int))).setCell ⟨w.heap.size, 1, none⟩ (.int .u64 (n2 : Int))).setCell ⟨w.heap.size, 2, none⟩ (.slice A0 vs.length c0)).setCell ⟨w.heap.size, 3, none⟩ (.slice A1 ls.length c1)).setCell ⟨w.heap.size, 4, none⟩ (.slice A4 da.length c4)).heap[q]? = w5.heap[q]? := fun q hq => (heap_setCell_other _ ⟨w.heap.size, 4, none⟩ q _ hq).trans ((heap_setCell_other _ ⟨w.heap.size, 3, none⟩ q _ hq).trans ((heap_setCell_other _ ⟨w.heap.size, 2, none⟩ q _ hq).trans ((heap_setCell_other _ ⟨w.heap.size, 1, none⟩ q _ hq).trans (heap_setCell_other _ ⟨w.heap.size, 0, none⟩ q _ hq))))
      have hsz : (((((w5.setCell ⟨w.heap.size, 0, none⟩ (.int .u64 (n1 : Int))).setCell ⟨w.heap.size, 1, none⟩ (.int .u64 (n2 : Int))).setCell ⟨w.heap.size, 2, none⟩ (.slice A0 vs.length c0)).setCell ⟨w.heap.size, 3, none⟩ (.slice A1 ls.length c1)).setCell ⟨w.heap.size, 4, none⟩ (.slice A4 da.length c4)).heap.size = w5.heap.size := by simp only [size_setCell']
      have hbz := (((((HB3.out).setCell (p := ⟨w.heap.size, 0, none⟩) (Nat.le_refl _) (.int .u64 (n1 : Int))).setCell (p := ⟨w.heap.size, 1, none⟩) (Nat.le_refl _) (.int .u64 (n2 : Int))).setCell (p := ⟨w.heap.size, 2, none⟩) (Nat.le_refl _) (.slice A0 vs.length c0)).setCell (p := ⟨w.heap.size, 3, none⟩) (Nat.le_refl _) (.slice A1 ls.length c1)).setCell (p := ⟨w.heap.size, 4, none⟩) (Nat.le_refl _) (.slice A4 da.length c4)
      have hrep := shotK_ok.keep HREP3.out (S' := New w (((((w5.setCell ⟨w.heap.size, 0, none⟩ (.int .u64 (n1 : Int))).setCell ⟨w.heap.size, 1, none⟩ (.int .u64 (n2 : Int))).setCell ⟨w.heap.size, 2, none⟩ (.slice A0 vs.length c0)).setCell ⟨w.heap.size, 3, none⟩ (.slice A1 ls.length c1)).setCell ⟨w.heap.size, 4, none⟩ (.slice A4 da.length c4))) (fun q hq => hoth q (by have := hq.1; omega)) (fun q hq => ⟨by have := hq.1; omega, by rw [hsz]; exact hq.2⟩)
      exact bodyPost_ret (v := .tuple #[.agg #[.int .u64 (n1 : Int), .int .u64 (n2 : Int), .slice A0 vs.length c0, .slice A1 ls.length c1, .slice A4 da.length c4], .bool false]) (results_cell_tmp (fn := Tryz.f49) (p := 2) (q := 3) rfl _ _ w.heap.size 30 #[.int .u64 (n1 : Int), .int .u64 (n2 : Int), .slice A0 vs.length c0, .slice A1 ls.length c1, .slice A4 da.length c4] (0, 0) _ rfl hrow Tryz.underlying30 (by kernel_rfl)) rfl ⟨_, by rw [HPW.out, Bool.false_and], hrep, hbz⟩
  | true =>
    obtain ⟨sd, hsd⟩ : ∃ x, shotK.sound d = x := ⟨_, rfl⟩
    have HSD := Lib.hid hsd
    have HOK := Lib.hid (fun (w : World) (h : shotK.rep w (Old w) [.int .u64 (n1 : Int), .int .u64 (n2 : Int), .slice A0 vs.length c0, .slice A1 ls.length c1, .slice A4 da.length c4] d) => hsd ▸ shot_ok w h)
    clear hsd
    go_region_law (first
      | (go_simp; go_at_call 96; refine HW.out.mono ?_; rintro e w5 ⟨rfl, hin3, hgr3⟩
         have hgr : w4.grownBy w5 (some (w.heap.size + 1)) := ⟨hgr3.os, hgr3.tape, hgr3.output, hgr3.size, hgr3.block⟩
         have hx := (hgr.block (w.heap.size + 1 + 1) (row_lt HX2.out) hXg).trans HX2.out
         have hr := (hgr.block w.heap.size (row_lt HR2.out) hRg).trans HR2.out
         have hc0w5 : w5.cell? ⟨(w.heap.size + 1 + 1), 0, none⟩ = some (.int .u64 (n1 : Int)) := by rw [cell_of_row w5 _ 0 _ _ _ hx]; rfl
         have hz0w5 : w5.cell? ⟨w.heap.size, 0, none⟩ = some (.int .u64 0) := by rw [cell_of_row w5 _ 0 _ _ _ hr]; rfl
         have hf0w5 : w5.frozen? ⟨w.heap.size, 0, none⟩ = false := frozen_of_row w5 _ 0 _ _ hr
         have hc1w5 : w5.cell? ⟨(w.heap.size + 1 + 1), 1, none⟩ = some (.int .u64 (n2 : Int)) := by rw [cell_of_row w5 _ 1 _ _ _ hx]; rfl
         have hz1w5 : w5.cell? ⟨w.heap.size, 1, none⟩ = some (.int .u64 0) := by rw [cell_of_row w5 _ 1 _ _ _ hr]; rfl
         have hf1w5 : w5.frozen? ⟨w.heap.size, 1, none⟩ = false := frozen_of_row w5 _ 1 _ _ hr
         have hc2w5 : w5.cell? ⟨(w.heap.size + 1 + 1), 2, none⟩ = some (.slice A0 vs.length c0) := by rw [cell_of_row w5 _ 2 _ _ _ hx]; rfl
         have hz2w5 : w5.cell? ⟨w.heap.size, 2, none⟩ = some (.slice none 0 0) := by rw [cell_of_row w5 _ 2 _ _ _ hr]; rfl
         have hf2w5 : w5.frozen? ⟨w.heap.size, 2, none⟩ = false := frozen_of_row w5 _ 2 _ _ hr
         have hc3w5 : w5.cell? ⟨(w.heap.size + 1 + 1), 3, none⟩ = some (.slice A1 ls.length c1) := by rw [cell_of_row w5 _ 3 _ _ _ hx]; rfl
         have hz3w5 : w5.cell? ⟨w.heap.size, 3, none⟩ = some (.slice none 0 0) := by rw [cell_of_row w5 _ 3 _ _ _ hr]; rfl
         have hf3w5 : w5.frozen? ⟨w.heap.size, 3, none⟩ = false := frozen_of_row w5 _ 3 _ _ hr
         have hc4w5 : w5.cell? ⟨(w.heap.size + 1 + 1), 4, none⟩ = some (.slice A4 da.length c4) := by rw [cell_of_row w5 _ 4 _ _ _ hx]; rfl
         have hz4w5 : w5.cell? ⟨w.heap.size, 4, none⟩ = some (.slice none 0 0) := by rw [cell_of_row w5 _ 4 _ _ _ hr]; rfl
         have hf4w5 : w5.frozen? ⟨w.heap.size, 4, none⟩ = false := frozen_of_row w5 _ 4 _ _ hr
         have HR3 := Lib.hid hr
         have HX3 := Lib.hid hx
         have HREP3 := Lib.hid (shotK_ok.keep HREP2.out (S' := (fun q => w.heap.size + 1 < q ∧ q < w5.heap.size)) (fun q hq => hgr.block q hq.2 (fun e => by have := Option.some.inj e; have := hq.1; omega)) (fun q hq => ⟨hq.1, Nat.lt_of_lt_of_le hq.2 hgr.size⟩))
         have HB3 := Lib.hid (HB2.out.grown hgr HB2.out.size (fun k e => by have := Option.some.inj e; omega))
         clear hin3 hgr3 hgr hx hr)
      | (go_simp; go_at_call 24; refine (HOK.out _ (shotK_ok.keep HREP3.out (S' := Old w5) (fun _ _ => rfl) (fun q hq => hq.2))).mono ?_; rintro e w6 ⟨rfl, hb4⟩
         have hx := (hb4.block (w.heap.size + 1 + 1) (row_lt HX3.out)).trans HX3.out
         have hr := (hb4.block w.heap.size (row_lt HR3.out)).trans HR3.out
         have hc0w6 : w6.cell? ⟨(w.heap.size + 1 + 1), 0, none⟩ = some (.int .u64 (n1 : Int)) := by rw [cell_of_row w6 _ 0 _ _ _ hx]; rfl
         have hz0w6 : w6.cell? ⟨w.heap.size, 0, none⟩ = some (.int .u64 0) := by rw [cell_of_row w6 _ 0 _ _ _ hr]; rfl
         have hf0w6 : w6.frozen? ⟨w.heap.size, 0, none⟩ = false := frozen_of_row w6 _ 0 _ _ hr
         have hc1w6 : w6.cell? ⟨(w.heap.size + 1 + 1), 1, none⟩ = some (.int .u64 (n2 : Int)) := by rw [cell_of_row w6 _ 1 _ _ _ hx]; rfl
         have hz1w6 : w6.cell? ⟨w.heap.size, 1, none⟩ = some (.int .u64 0) := by rw [cell_of_row w6 _ 1 _ _ _ hr]; rfl
         have hf1w6 : w6.frozen? ⟨w.heap.size, 1, none⟩ = false := frozen_of_row w6 _ 1 _ _ hr
         have hc2w6 : w6.cell? ⟨(w.heap.size + 1 + 1), 2, none⟩ = some (.slice A0 vs.length c0) := by rw [cell_of_row w6 _ 2 _ _ _ hx]; rfl
         have hz2w6 : w6.cell? ⟨w.heap.size, 2, none⟩ = some (.slice none 0 0) := by rw [cell_of_row w6 _ 2 _ _ _ hr]; rfl
         have hf2w6 : w6.frozen? ⟨w.heap.size, 2, none⟩ = false := frozen_of_row w6 _ 2 _ _ hr
         have hc3w6 : w6.cell? ⟨(w.heap.size + 1 + 1), 3, none⟩ = some (.slice A1 ls.length c1) := by rw [cell_of_row w6 _ 3 _ _ _ hx]; rfl
         have hz3w6 : w6.cell? ⟨w.heap.size, 3, none⟩ = some (.slice none 0 0) := by rw [cell_of_row w6 _ 3 _ _ _ hr]; rfl
         have hf3w6 : w6.frozen? ⟨w.heap.size, 3, none⟩ = false := frozen_of_row w6 _ 3 _ _ hr
         have hc4w6 : w6.cell? ⟨(w.heap.size + 1 + 1), 4, none⟩ = some (.slice A4 da.length c4) := by rw [cell_of_row w6 _ 4 _ _ _ hx]; rfl
         have hz4w6 : w6.cell? ⟨w.heap.size, 4, none⟩ = some (.slice none 0 0) := by rw [cell_of_row w6 _ 4 _ _ _ hr]; rfl
         have hf4w6 : w6.frozen? ⟨w.heap.size, 4, none⟩ = false := frozen_of_row w6 _ 4 _ _ hr
         have HR4 := Lib.hid hr
         have HREP4 := Lib.hid (shotK_ok.keep HREP3.out (S' := (fun q => w.heap.size + 1 < q ∧ q < w6.heap.size)) (fun q hq => hb4.block q hq.2) (fun q hq => ⟨hq.1, Nat.lt_of_lt_of_le hq.2 hb4.size⟩))
         have HB4 := Lib.hid (HB3.out.trans (hb4.mono HB3.out.size))
         clear hx hr hb4))
    all_goals
      go_wp2
      have r0 := heap_setCell_same w6 w.heap.size 0 _ _ (.int .u64 (n1 : Int)) HR4.out
      have r1 := heap_setCell_same (w6.setCell ⟨w.heap.size, 0, none⟩ (.int .u64 (n1 : Int))) w.heap.size 1 _ _ (.int .u64 (n2 : Int)) r0
      have r2 := heap_setCell_same ((w6.setCell ⟨w.heap.size, 0, none⟩ (.int .u64 (n1 : Int))).setCell ⟨w.heap.size, 1, none⟩ (.int .u64 (n2 : Int))) w.heap.size 2 _ _ (.slice A0 vs.length c0) r1
      have r3 := heap_setCell_same (((w6.setCell ⟨w.heap.size, 0, none⟩ (.int .u64 (n1 : Int))).setCell ⟨w.heap.size, 1, none⟩ (.int .u64 (n2 : Int))).setCell ⟨w.heap.size, 2, none⟩ (.slice A0 vs.length c0)) w.heap.size 3 _ _ (.slice A1 ls.length c1) r2
      have r4 := heap_setCell_same ((((w6.setCell ⟨w.heap.size, 0, none⟩ (.int .u64 (n1 : Int))).setCell ⟨w.heap.size, 1, none⟩ (.int .u64 (n2 : Int))).setCell ⟨w.heap.size, 2, none⟩ (.slice A0 vs.length c0)).setCell ⟨w.heap.size, 3, none⟩ (.slice A1 ls.length c1)) w.heap.size 4 _ _ (.slice A4 da.length c4) r3
      have hrow : (((((w6.setCell ⟨w.heap.size, 0, none⟩ (.int .u64 (n1 : Int))).setCell ⟨w.heap.size, 1, none⟩ (.int .u64 (n2 : Int))).setCell ⟨w.heap.size, 2, none⟩ (.slice A0 vs.length c0)).setCell ⟨w.heap.size, 3, none⟩ (.slice A1 ls.length c1)).setCell ⟨w.heap.size, 4, none⟩ (.slice A4 da.length c4)).heap[w.heap.size]? = some (.cells #[.int .u64 (n1 : Int), .int .u64 (n2 : Int), .slice A0 vs.length c0, .slice A1 ls.length c1, .slice A4 da.length c4] 30 (0, 0)) := r4
      have hoth : ∀ q, q ≠ w.heap.size → (((((w6.setCell ⟨w.heap.size, 0, none⟩ (.int .u64 (n1 : Int))).setCell ⟨w.heap.size, 1, none⟩ (.int .u64 (n2 : Int))).setCell ⟨w.heap.size, 2, none⟩ (.slice A0 vs.length c0)).setCell ⟨w.heap.size, 3, none⟩ (.slice A1 ls.length c1)).setCell ⟨w.heap.size, 4, none⟩ (.slice A4 da.length c4)).heap[q]? = w6.heap[q]? := fun q hq => (heap_setCell_other _ ⟨w.heap.size, 4, none⟩ q _ hq).trans ((heap_setCell_other _ ⟨w.heap.size, 3, none⟩ q _ hq).trans ((heap_setCell_other _ ⟨w.heap.size, 2, none⟩ q _ hq).trans ((heap_setCell_other _ ⟨w.heap.size, 1, none⟩ q _ hq).trans (heap_setCell_other _ ⟨w.heap.size, 0, none⟩ q _ hq))))
      have hsz : (((((w6.setCell ⟨w.heap.size, 0, none⟩ (.int .u64 (n1 : Int))).setCell ⟨w.heap.size, 1, none⟩ (.int .u64 (n2 : Int))).setCell ⟨w.heap.size, 2, none⟩ (.slice A0 vs.length c0)).setCell ⟨w.heap.size, 3, none⟩ (.slice A1 ls.length c1)).setCell ⟨w.heap.size, 4, none⟩ (.slice A4 da.length c4)).heap.size = w6.heap.size := by simp only [size_setCell']
      have hbz := (((((HB4.out).setCell (p := ⟨w.heap.size, 0, none⟩) (Nat.le_refl _) (.int .u64 (n1 : Int))).setCell (p := ⟨w.heap.size, 1, none⟩) (Nat.le_refl _) (.int .u64 (n2 : Int))).setCell (p := ⟨w.heap.size, 2, none⟩) (Nat.le_refl _) (.slice A0 vs.length c0)).setCell (p := ⟨w.heap.size, 3, none⟩) (Nat.le_refl _) (.slice A1 ls.length c1)).setCell (p := ⟨w.heap.size, 4, none⟩) (Nat.le_refl _) (.slice A4 da.length c4)
      have hrep := shotK_ok.keep HREP4.out (S' := New w (((((w6.setCell ⟨w.heap.size, 0, none⟩ (.int .u64 (n1 : Int))).setCell ⟨w.heap.size, 1, none⟩ (.int .u64 (n2 : Int))).setCell ⟨w.heap.size, 2, none⟩ (.slice A0 vs.length c0)).setCell ⟨w.heap.size, 3, none⟩ (.slice A1 ls.length c1)).setCell ⟨w.heap.size, 4, none⟩ (.slice A4 da.length c4))) (fun q hq => hoth q (by have := hq.1; omega)) (fun q hq => ⟨by have := hq.1; omega, by rw [hsz]; exact hq.2⟩)
      exact bodyPost_ret (v := .tuple #[.agg #[.int .u64 (n1 : Int), .int .u64 (n2 : Int), .slice A0 vs.length c0, .slice A1 ls.length c1, .slice A4 da.length c4], .bool sd]) (results_cell_tmp (fn := Tryz.f49) (p := 2) (q := 3) rfl _ _ w.heap.size 30 #[.int .u64 (n1 : Int), .int .u64 (n2 : Int), .slice A0 vs.length c0, .slice A1 ls.length c1, .slice A4 da.length c4] (0, 0) _ rfl hrow Tryz.underlying30 (by kernel_rfl)) rfl ⟨_, by rw [HPW.out, HSD.out, Bool.true_and], hrep, hbz⟩
end Go.Proofs.YtloieecpgndbhaaGreat.Kd
