/- The reference's Pass, as a contract of a call. -/
import Derived.Test.YthpcmcnkiiebkaaCkG
namespace Go.Proofs.Ythpcmcnkiiebkaa.Ck
open Go.RowKit Go.Maps By Mp SumP SumW

theorem rpass_bad {w : World} {g : Nat} {c : C9} {S : Nat → Prop} (h : RefIs w g c S) (n d : Int) (hn : ¬ okN n) :
    Calls Try.prog 21 #[.pointer (some ⟨g, 0, none⟩), .int .i64 n, .int .u64 d] w (RStep (.int .i64 1) g c S w) := by
  have HC := Lib.hid h
  have hk : n < 0 ∨ (0 ≤ n ∧ 1099511627776 < n) := by
    unfold okN at hn
    omega
  clear hn h
  rcases hk with h1 | ⟨h0, h1⟩ <;>
    (go_enter Try.func21, Try.ntmps21
     go_wp2
     go_ret
     exact RStep.same HC.out)
/-- Behind some rounds of the reference's Pass: the first k of the next times are there. -/
def RMid (bn : Nat) (c : C9) (n d : Int) (k : Nat) (w wr : World) : Prop := ∃ l : List Int, l.length = c.nodes + c.edges ∧ wr.heap[bn]? = some (.cells (l.map iv).toArray tI64 (0, 0)) ∧ l.take k = (nextT c n d).take k ∧ Below w.heap.size w wr
/-- Was a time too long till now? -/
def ovR (c : C9) (n d : Int) (k : Nat) : Bool := decide (top < c.real + n) || ((nextT c n d).take k).any (fun x => decide (top < x))
theorem ovR_zero (c : C9) (n d : Int) : ovR c n d 0 = decide (top < c.real + n) := by simp [ovR]
theorem ovR_step {c : C9} {n d : Int} {k : Nat} {x : Int} (h : (nextT c n d)[k]? = some x) : ovR c n d (k + 1) = (ovR c n d k || decide (top < x)) := by
  unfold ovR
  rw [List.take_add_one, h, Option.toList_some, List.any_append, List.any_cons, List.any_nil, Bool.or_false, Bool.or_assoc]
theorem ovR_end {c : C9} {n d : Int} {k : Nat} (h : (nextT c n d).length ≤ k) : ovR c n d k = decide (overP c n d) := by
  unfold ovR overP
  rw [List.take_of_length_le h, Bool.eq_iff_iff]
  simp only [Bool.or_eq_true, List.any_eq_true, decide_eq_true_eq]
  exact (decide_eq_true_iff).symm
theorem RMid.step {bn : Nat} {c : C9} {n d x : Int} {k : Nat} {w wr w1 : World} (h : RMid bn c n d k w wr) (hb : bn = w.heap.size) (hx : (nextT c n d)[k]? = some x) (hk : k < c.nodes + c.edges) (hw : w1.heap = wr.heap) (h1 : w1.os = wr.os) (h2 : w1.tape = wr.tape) (h3 : w1.output = wr.output) :
    RMid bn c n d (k + 1) w (w1.setCell ⟨bn, k, none⟩ (.int .i64 x)) := by
  obtain ⟨l, hl, hr, ht, hbw⟩ := h
  rw [← hw] at hr
  refine ⟨l.set k x, by simpa using hl, ?_, ?_, ?_⟩
  · rw [heap_setCell_same _ bn k _ _ _ hr]
    simp [iv, List.map_set]
  · rw [List.take_add_one, List.take_add_one, hx, List.getElem?_set_self (by omega), List.take_set_of_le (Nat.le_refl _), ht]
  · have h0 : Below w.heap.size w w1 := ⟨h1.trans hbw.os, h2.trans hbw.tape, h3.trans hbw.output, by rw [hw]; exact hbw.size, fun i hi => by rw [hw]; exact hbw.block i hi⟩
    exact h0.setCell (by show w.heap.size ≤ bn; omega) _
theorem RMid.cell {bn : Nat} {c : C9} {n d x : Int} {k j : Nat} {w wr : World} (h : RMid bn c n d k w wr) (hx : (nextT c n d)[j]? = some x) (hj : j < k) : wr.cell? ⟨bn, j, none⟩ = some (.int .i64 x) := by
  obtain ⟨l, hl, hr, ht, hbw⟩ := h
  rw [cell_of_row wr bn j _ _ _ hr]
  have h1 : l[j]? = some x := by
    have := congrArg (fun z => z[j]?) ht
    simp only [List.getElem?_take_of_lt hj] at this
    rw [this, hx]
  simp [h1, iv]
theorem RMid.frozen {bn : Nat} {c : C9} {n d : Int} {k j : Nat} {w wr : World} (h : RMid bn c n d k w wr) : wr.frozen? ⟨bn, j, none⟩ = false := by
  obtain ⟨l, hl, hr, ht, hbw⟩ := h
  exact frozen_of_row wr bn j _ _ hr
/-- There is a cell. -/
theorem RMid.there {bn : Nat} {c : C9} {n d : Int} {k j : Nat} {w wr : World} (h : RMid bn c n d k w wr) (hj : j < c.nodes + c.edges) : ∃ x, wr.cell? ⟨bn, j, none⟩ = some (.int .i64 x) := by
  obtain ⟨l, hl, hr, ht, hbw⟩ := h
  rw [cell_of_row wr bn j _ _ _ hr]
  exact ⟨l[j], by simp [List.getElem?_eq_getElem (show j < l.length by omega), iv]⟩
theorem dr_ref {d : Int} (d0 : 0 ≤ d) (d1 : d ≤ 18446744073709551615) (b : Nat) : wrap64 ((d / 2 ^ b).tmod 16) = dr d b := by
  have h := div_in d0 d1 b
  rw [Int.tmod_eq_emod_of_nonneg h.1]
  unfold dr wrap64
  omega
theorem rpassed {w wr : World} {g q bn : Nat} {c : C9} {S : Nat → Prop} {n d : Int} (h : RAt w g c q S) (hn : okN n) (ho : ¬ overP c n d) {k : Nat} (hk : c.nodes + c.edges ≤ k) (hm : RMid bn c n d k w wr) (hbn : bn = w.heap.size) :
    RStep (.int .i64 0) g (passC c n d) S w (.returned (.int .i64 0)) ((wr.setCell ⟨g, 4, none⟩ (.int .i64 (c.real + n))).setCell ⟨g, 3, none⟩ (.slice (some ⟨bn, 0, none⟩) (c.nodes + c.edges) (c.nodes + c.edges))) := by
  obtain ⟨l, hl, hr, ht, hb⟩ := hm
  have hln := nextT_length c n d
  have hcl := h.ok.len
  obtain rfl : l = nextT c n d := by rwa [List.take_of_length_le (by omega), List.take_of_length_le (by omega)] at ht
  have a1 : passC c n d = { c with t := nextT c n d, real := c.real + n } := by
    unfold passC
    rw [if_neg (fun h => h hn), if_neg ho]
  have hk := h.ok.pass n d
  rw [a1] at hk ⊢
  have hgl := row_lt h.row
  have hg := (hb.block g hgl).trans h.row
  have hne : bn ≠ g := by omega
  have hbl := row_lt hr
  have hz := hb.size
  refine ⟨rfl, fun x => S x ∨ x = bn, ⟨bn, ⟨?_, ?_, .inl h.sg, .inr rfl, fun x hx => ?_, hk⟩⟩, fun x hx => hx.imp id (fun e => by omega), ?_⟩
  · have := heap_setCell_same _ g 3 _ _ (.slice (some ⟨bn, 0, none⟩) (c.nodes + c.edges) (c.nodes + c.edges)) (heap_setCell_same wr g 4 _ _ (.int .i64 (c.real + n)) hg)
    rw [this]; rfl
  · exact ((heap_setCell_other _ ⟨g, 3, none⟩ bn _ hne).trans (heap_setCell_other wr ⟨g, 4, none⟩ bn _ hne)).trans hr
  · simp only [World.setCell, Array.size_modify]
    rcases hx with hx | rfl
    · have := h.lt x hx; omega
    · exact hbl
  · exact ((Kept.of_below hb).setCell (fun _ => h.sg) _).setCell (fun _ => h.sg) _
theorem rstopped {w wr : World} {g q bn : Nat} {c : C9} {S : Nat → Prop} {n d : Int} (h : RAt w g c q S) (hn : okN n) (ho : overP c n d) {k : Nat} (hm : RMid bn c n d k w wr) : RStep (.int .i64 3) g (passC c n d) S w (.returned (.int .i64 3)) wr := by
  obtain ⟨l, hl, hr, ht, hb⟩ := hm
  have a1 : passC c n d = c := by
    unfold passC
    rw [if_neg (fun h => h hn), if_pos ho]
  rw [a1]
  exact ⟨rfl, S, RefIs.below ⟨q, h⟩ hb, fun _ hb => .inl hb, Kept.of_below hb⟩
set_option maxRecDepth 100000 in
set_option maxHeartbeats 4000000 in
theorem rpass_run {w : World} {g : Nat} {c : C9} {S : Nat → Prop} (h : RefIs w g c S) (n d : Int) (hn : okN n) (d0 : 0 ≤ d) (d1 : d ≤ 18446744073709551615) :
    Calls Try.prog 21 #[.pointer (some ⟨g, 0, none⟩), .int .i64 n, .int .u64 d] w (RStep (.int .i64 (passE c n d)) g (passC c n d) S w) := by
  obtain ⟨q, h⟩ := h
  have HC := Lib.hid h
  obtain ⟨c0, c1, c2, c3, c4, c5⟩ := h.cells
  have ht := h.ok.tame hn
  have HN := Lib.hid hn
  have HD := Lib.hid (And.intro d0 d1)
  have hN2 := h.ok.n2
  have hM2 := h.ok.m
  have HRE : 0 ≤ c.real ∧ c.real ≤ 1152921504606846976 := h.ok.real
  have hgl := row_lt h.row
  have hql := row_lt h.times
  have hlen := nextT_length c n d
  rw [h.ok.len] at hlen
  obtain ⟨L, hL⟩ : ∃ L, L = c.nodes + c.edges := ⟨_, rfl⟩
  have HL := Lib.hid hL
  rw [← hL] at c3 hlen
  have hL2 : L ≤ 32 := by omega
  have hL1 : 1 ≤ L := by have := h.ok.n1; omega
  clear hL
  obtain ⟨n0, n1⟩ := hn
  have n2 : ¬ n < 0 := by omega
  have n3 : ¬ 1099511627776 < n := by omega
  have hmk := run_zeros w L (L : Int) rfl (by omega)
  have HMID := Lib.hid (show RMid w.heap.size c n d 0 w (w.alloc (.cells (List.replicate L (.int .i64 0)).toArray tI64)) from
    ⟨List.replicate L 0, by rw [List.length_replicate, HL.out], by rw [heap_alloc_new, List.map_replicate]; rfl, by simp, (Below.refl _ _).alloc (Nat.le_refl _) _⟩)
  obtain ⟨bn, hbn⟩ : ∃ bn, bn = w.heap.size := ⟨_, rfl⟩
  have HBN := Lib.hid hbn
  obtain ⟨wm, hwm⟩ : ∃ wm, wm = w.alloc (.cells (List.replicate L (.int .i64 0)).toArray tI64) := ⟨_, rfl⟩
  rw [← hwm] at hmk HMID
  have hb0 : Below w.heap.size w wm := by rw [hwm]; exact (Below.refl _ _).alloc (Nat.le_refl _) _
  have m4 : wm.cell? ⟨g, 4, none⟩ = some (.int .i64 c.real) := (hb0.cell hgl).trans c4
  rw [← hbn] at hmk HMID
  have HO0 := Lib.hid (ovR_zero c n d)
  clear h d0 d1 hwm hb0 hbn c0 c1 c2 c4 c5
  go_enter Try.func21, Try.ntmps21
  go_wp2
  clear m4 hmk
  go_loopw [8, 9] (fun o i wr => ∃ k : Nat, k ≤ L ∧ i = .int .i64 (k : Int) ∧ o = .bool (ovR c n d k) ∧ RMid bn c n d k w wr) (fun _ i _ => L - (intOf i).toNat)
  case atStart => exact ⟨0, by omega, rfl, by rw [HO0.out], HMID.out⟩
  case round =>
    clear HMID HO0
    obtain ⟨k, hk, rfl, rfl, hm⟩ := hrel
    have HM := Lib.hid hm
    have hbw : Below w.heap.size w wr := by obtain ⟨_, _, _, _, hb⟩ := hm; exact hb
    have hr := HC.out.below hbw
    have HALL := Lib.hid (show ∀ w' : World, w'.heap = wr.heap → w'.cell? ⟨g, 0, none⟩ = some (.int .i64 (c.nodes : Nat)) ∧ w'.cell? ⟨g, 2, none⟩ = some (.int .i64 c.rho) ∧ w'.cell? ⟨g, 3, none⟩ = some (.slice (some ⟨q, 0, none⟩) L L) ∧ w'.cell? ⟨g, 4, none⟩ = some (.int .i64 c.real) from fun w' hw => by
      obtain ⟨c0, c1, c2, c3, c4, c5⟩ := hr.cells
      rw [HL.out]
      simp only [World.cell?, hw] at *
      exact ⟨c0, c2, c3, c4⟩)
    obtain ⟨r0, r2, r3, r4⟩ := HALL.out wr rfl
    have HR := Lib.hid hr
    clear hm hr hbw
    by_cases hk2 : k < L
    · have hki : (k : Int) < L := by omega
      have hxk : c.t[k]? = some (c.t.getD k 0) := by
        rw [List.getD_eq_getElem?_getD, List.getElem?_eq_getElem (show k < c.t.length by rw [HC.out.ok.len, ← HL.out]; exact hk2)]; rfl
      obtain ⟨x, hx⟩ : ∃ x, x = c.t.getD k 0 := ⟨_, rfl⟩
      rw [← hx] at hxk
      clear hx
      have hx0 := HC.out.ok.ts x (List.mem_of_getElem? hxk)
      have hnx := nextT_at c n d hxk
      obtain ⟨dd, hdd⟩ : ∃ dd, dd = dr d (bitAt c.nodes k) := ⟨_, rfl⟩
      have hd1 := dr_in d (bitAt c.nodes k)
      rw [← hdd] at hd1 hnx
      have s1 := step_prod ht hd1.1 hd1.2
      have s2 := step_in ht hd1.1 hd1.2
      have s3 := least_in ht
      have s4 := most_in ht
      have HXK := Lib.hid hxk
      have HNX := Lib.hid hnx
      have HDD := Lib.hid hdd
      have HT := Lib.hid ht
      clear hxk hnx hdd
      have HE1 := Lib.hid (show k < c.nodes → wrap64 ((d / 2 ^ (4 * k)).tmod 16) = dd from fun h => by rw [dr_ref HD.out.1 HD.out.2, HDD.out, bitAt, if_pos h])
      have HE2 := Lib.hid (show ¬ k < c.nodes → wrap64 ((d / 2 ^ (4 * (k - c.nodes + 8) % 64)).tmod 16) = dd from fun h => by rw [dr_ref HD.out.1 HD.out.2, HDD.out, bitAt, if_neg h])
      by_cases hkN : k < c.nodes
      all_goals
        first
          | (have hkN2 : ¬ (c.nodes : Int) ≤ k := (by omega); go_upto_region 12 with fail; rw [HE1.out hkN])
          | (have hkN2 : (c.nodes : Int) ≤ k := (by omega); go_upto_region 12 with fail; rw [HE2.out hkN])
      all_goals
        clear hkN2 HE1 HE2 HDD hkN
        go_upto_region 13 with (go_at_call 29; refine (rleast_good _ _ HT.out _).mono ?_; rintro e w9 ⟨rfl, nq, rfl⟩)
        obtain ⟨w9, hw9⟩ : ∃ w9, w9 = wr.drewN nq := ⟨_, rfl⟩
        rw [← hw9]
        obtain ⟨y, hy⟩ := HM.out.there (j := k) (by rw [← HL.out]; exact hk2)
        have HC9 := Lib.hid (show ∀ w' : World, w'.heap = w9.heap → w'.cell? ⟨g, 3, none⟩ = some (.slice (some ⟨q, 0, none⟩) L L) ∧ w'.cell? ⟨q, k, none⟩ = some (.int .i64 x) ∧ w'.cell? ⟨g, 2, none⟩ = some (.int .i64 c.rho) from fun w' hw => by
          have hw : w'.heap = wr.heap := by rw [hw, hw9]; rfl
          obtain ⟨a0, a2, a3, a4⟩ := HALL.out w' hw
          have a5 := HR.out.cellAt HXK.out
          refine ⟨a3, ?_, a2⟩
          simp only [World.cell?, hw] at *
          exact a5)
        have HCS := Lib.hid (show ∀ (m : Nat) (v : Value), ((w9.drewN m).setCell ⟨bn, k, none⟩ v).cell? ⟨g, 3, none⟩ = some (.slice (some ⟨q, 0, none⟩) L L) ∧ ((w9.drewN m).setCell ⟨bn, k, none⟩ v).cell? ⟨q, k, none⟩ = some (.int .i64 x) ∧ ((w9.drewN m).setCell ⟨bn, k, none⟩ v).cell? ⟨g, 2, none⟩ = some (.int .i64 c.rho) from fun m v => by
          obtain ⟨a1, a2, a3⟩ := HC9.out (w9.drewN m) rfl
          have e1 := HBN.out
          exact ⟨(World.cell?_setCell_far _ _ _ _ (by show bn ≠ g; omega)).trans a1, (World.cell?_setCell_far _ _ _ _ (by show bn ≠ q; omega)).trans a2, (World.cell?_setCell_far _ _ _ _ (by show bn ≠ g; omega)).trans a3⟩)
        have HV := Lib.hid (show IntKind.i64.wrap (IntKind.i64.wrap (x + leastF n c.rho) + IntKind.i64.wrap ((IntKind.i64.wrap (IntKind.i64.wrap (mostF n c.rho - leastF n c.rho) * dd)).tdiv 15)) = x + stepF n c.rho dd from by
          have hxt : x ≤ 1152921504606846976 := hx0.2
          rw [IntWalk.i64_in (x + leastF n c.rho) (by omega), IntWalk.i64_in (mostF n c.rho - leastF n c.rho) (by omega), IntWalk.i64_in ((mostF n c.rho - leastF n c.rho) * dd) (by omega), Int.tdiv_eq_ediv_of_nonneg s1.2.1]
          unfold stepF at s2 ⊢
          generalize (mostF n c.rho - leastF n c.rho) * dd = P at *
          rw [IntWalk.i64_in (P / 15) (by omega), IntWalk.i64_in _ (by omega)]
          omega)
        have hy9 : w9.cell? ⟨bn, k, none⟩ = some (.int .i64 y) := by rw [hw9]; exact hy
        have hf9 : w9.frozen? ⟨bn, k, none⟩ = false := by rw [hw9]; exact HM.out.frozen
        have HW9 := Lib.hid hw9
        clear r0 r2 r3 r4 hy hw9
        go_region_held3 (fun w' => w'.cell? ⟨g, 3, none⟩ = some (.slice (some ⟨q, 0, none⟩) L L) ∧ w'.cell? ⟨q, k, none⟩ = some (.int .i64 x) ∧ w'.cell? ⟨g, 2, none⟩ = some (.int .i64 c.rho))
          (first
            | assumption
            | exact HC9.out _ rfl
            | exact HCS.out _ _)
          (first
            | (go_at_call 30; refine (rmost_good _ _ HT.out _).mono ?_; rintro e w10 ⟨rfl, nr, rfl⟩))
        rw [HV.out]
        have hm11 := HM.out.step (w1 := w9.drewN (1 + nr)) HBN.out HNX.out (by rw [← HL.out]; exact hk2) (by rw [HW9.out]; rfl) (by rw [HW9.out]; rfl) (by rw [HW9.out]; rfl) (by rw [HW9.out]; rfl)
        obtain ⟨w11, hw11⟩ : ∃ w11, w11 = (w9.drewN (1 + nr)).setCell ⟨bn, k, none⟩ (.int .i64 (x + stepF n c.rho dd)) := ⟨_, rfl⟩
        rw [← hw11] at hm11 ⊢
        have hc11 := hm11.cell HNX.out (Nat.lt_succ_self k)
        have HM11 := Lib.hid hm11
        have HOS := Lib.hid (ovR_step HNX.out)
        obtain ⟨ob, hob⟩ : ∃ ob, ob = ovR c n d k := ⟨_, rfl⟩
        rw [← hob]
        rw [← hob] at HOS
        obtain ⟨z, hz⟩ : ∃ z, z = x + stepF n c.rho dd := ⟨_, rfl⟩
        rw [← hz] at hc11 HOS
        have hz2 : -9223372036854775808 ≤ z ∧ z ≤ 9223372036854775807 := by
          have hxt : x ≤ 1152921504606846976 := hx0.2
          omega
        clear hm11 hw11 hob hz HM HV HCS HC9 HW9 hy9 hf9 HT s1 s2 s3 s4 hd1 hx0
        cases ob
        · go_wp2
          go_roundw
          case rel => exact ⟨k + 1, by omega, by go_num, by rw [HOS.out]; rfl, HM11.out⟩
          case measure => simp [intOf]; omega
        · go_wp2
          go_roundw
          case rel => exact ⟨k + 1, by omega, by go_num, by rw [HOS.out]; rfl, HM11.out⟩
          case measure => simp [intOf]; omega
    · have hki : ¬ (k : Int) < L := by omega
      have hov := ovR_end (c := c) (n := n) (d := d) (k := k) (by omega)
      have hg := HR.out.row
      have hfg : ∀ j, wr.frozen? ⟨g, j, none⟩ = false := fun j => frozen_of_row wr g j _ _ hg
      have HKL := Lib.hid (show c.nodes + c.edges ≤ k by rw [← HL.out]; omega)
      by_cases ho : overP c n d
      · rw [hov, decide_eq_true ho]
        have HF := Lib.hid (rstopped HC.out HN.out ho HM.out)
        have HPE := Lib.hid (show passE c n d = 3 by unfold passE; rw [if_neg (fun h => h HN.out), if_pos ho])
        clear hg hov
        go_wp2
        go_ret
        rw [HPE.out]
        exact HF.out
      · rw [hov, decide_eq_false ho]
        have hf := rpassed HC.out HN.out ho HKL.out HM.out HBN.out
        rw [← HL.out] at hf
        have HF := Lib.hid hf
        have HPE := Lib.hid (show passE c n d = 0 by unfold passE; rw [if_neg (fun h => h HN.out), if_neg ho])
        clear hg hov hf
        go_wp2
        go_ret
        rw [HPE.out]
        exact HF.out
/-- Pass. -/
theorem rpass_any {w : World} {g : Nat} {c : C9} {S : Nat → Prop} (h : RefIs w g c S) (n d : Int) (d0 : 0 ≤ d) (d1 : d ≤ 18446744073709551615) :
    Calls Try.prog 21 #[.pointer (some ⟨g, 0, none⟩), .int .i64 n, .int .u64 d] w (RStep (.int .i64 (passE c n d)) g (passC c n d) S w) := by
  by_cases hn : okN n
  · exact rpass_run h n d hn d0 d1
  · have e1 : passC c n d = c := by
      unfold passC
      rw [if_pos hn]
    have e2 : passE c n d = 1 := by
      unfold passE
      rw [if_pos hn]
    rw [e1, e2]
    exact rpass_bad h n d hn
end Go.Proofs.Ythpcmcnkiiebkaa.Ck
