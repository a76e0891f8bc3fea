/- Package scupperref03's ToEntry, as a contract of a call. Written by genref.py. -/
import Derived.Test.YtloieecpgndbhaaGreatKvA
import Derived.Test.YtloieecpgndbhaaGreatGR
import Derived.Test.YtloieecpgndbhaaGreatGF
import Derived.Test.YtloieecpgndbhaaGreatKfG
import Derived.Test.YtloieecpgndbhaaGreatKnD
import Derived.Deep.RegionLaw
namespace Go.Proofs.YtloieecpgndbhaaGreat.Kd
open Go.RowKit By CoP Co Mo

/-- What the reference reads of bytes, and whether they are a sound value's. -/
def RefTo (k : Kd) (p : Rdr) (b : List UInt8) (w : World) (e : Ending) (w' : World) : Prop := ∃ vs : Array Value, e = .returned (.tuple #[.agg vs, .bool (pWhole (p (some b)).2 && k.sound (p (some b)).1)]) ∧ k.rep w' (New w w') vs.toList (p (some b)).1 ∧ Below w.heap.size w w'
theorem pNum_lt (s : St) : (pNum s).1 < 18446744073709551616 := by
  cases s with
  | none => decide
  | some r =>
    by_cases h : (numR r).2.2 = 0
    · rw [pNum_of h]; exact numR_lt h
    · rw [pNum_bad h]; decide
theorem pInt_le' (most : Nat) (s : St) : (pInt most s).1 ≤ most := by
  unfold pInt
  split
  · exact Nat.zero_le _
  · omega
theorem wrap_in (n : Nat) : -9223372036854775808 ≤ wrap64 (n : Int) ∧ wrap64 (n : Int) ≤ 9223372036854775807 := by unfold wrap64; omega
def stLen : St → Nat
  | none => 0
  | some r => r.length
theorem pNum_len (s : St) : stLen (pNum s).2 ≤ stLen s := by
  cases s with
  | none => exact Nat.le_refl _
  | some r =>
    by_cases h : (numR r).2.2 = 0
    · rw [pNum_of h]; show (r.drop _).length ≤ r.length; rw [List.length_drop]; omega
    · rw [pNum_bad h]; exact Nat.zero_le _
theorem pInt_len (most : Nat) (s : St) : stLen (pInt most s).2 ≤ stLen s := by
  unfold pInt
  split
  · exact Nat.zero_le _
  · exact pNum_len s
theorem pData_len (s : St) : (pData s).1.length ≤ stLen s := by
  cases s with
  | none => exact Nat.zero_le _
  | some r =>
    have hb : (bytesR r).1.length ≤ r.length := by
      unfold bytesR
      split
      · exact Nat.zero_le _
      · split
        · exact Nat.zero_le _
        · simp only [List.length_take, List.length_drop]; omega
    by_cases h : (bytesR r).2.2 = 0
    · have e : pData (some r) = ((bytesR r).1, some (r.drop (bytesR r).2.1)) := by simp [pData, h]
      rw [e]
      exact hb
    · have e : pData (some r) = ([], none) := by simp [pData, h]
      rw [e]
      exact Nat.zero_le _
def pEntryD : Rdr := pRec [pNumD, pNumD, pIntD 3, pI64D, pDataD]
def pHardD : Rdr := pRec [pNumD, pIntD 16]
set_option maxRecDepth 100000 in
set_option maxHeartbeats 4000000 in
theorem refToEntry_any {A : Option Addr} {n c : Nat} {b : List UInt8} (w : World) (hn : n = b.length) (hnc : n ≤ c) (hm : n ≤ 140737488355328) (hr : Lies w w.heap.size A b) :
    Calls Tryz.prog 45 #[.slice A n c] w (RefTo entryK pEntryD b w) := by
  subst hn
  obtain ⟨w0, hw0⟩ : ∃ w0, w0 = (w.alloc (.cells #[.int .u64 0, .int .u64 0, .int .i64 0, .int .i64 0, .slice none 0 0] 25)).alloc (.cells #[.slice A b.length c, .int .i64 0, .bool false] 194) := ⟨_, rfl⟩
  have hb0 : Below w.heap.size w w0 := by rw [hw0]; exact ((Below.refl _ _).alloc (Nat.le_refl _) _).alloc (((Below.refl _ _).alloc (Nat.le_refl _) _).size) _
  have hin0 : InAt w.heap.size (w.heap.size + 1) w0 b (some b) := by
    refine ⟨A, c, 0, false, Nat.le_succ _, hnc, hm, ?_, hr.below hb0, Nat.zero_le _, .inr ⟨rfl, rfl⟩⟩
    rw [hw0]; exact heap_alloc2_new w _ _
  have hrr0 : w0.heap[w.heap.size]? = some (.cells #[.int .u64 0, .int .u64 0, .int .i64 0, .int .i64 0, .slice none 0 0] 25 (0, 0)) := by rw [hw0]; exact heap_alloc2_old w _ _
  have hsz0 : w0.heap.size = w.heap.size + 1 + 1 := by rw [hw0]; simp
  have hcall := inEntry_any w.heap.size (w.heap.size + 1) b (some b) w0 hin0 hb0.size
  have l1 : (pEntry (some b)).1.1 < 18446744073709551616 := pNum_lt _
  have l2 : (pEntry (some b)).1.2.1 < 18446744073709551616 := pNum_lt _
  have l3 : (pEntry (some b)).1.2.2.1 ≤ 3 := pInt_le' 3 _
  have l4 : -9223372036854775808 ≤ (pEntry (some b)).1.2.2.2.1 ∧ (pEntry (some b)).1.2.2.2.1 ≤ 9223372036854775807 := wrap_in _
  have l5 : (pEntry (some b)).1.2.2.2.2.length ≤ b.length := Nat.le_trans (pData_len _) (Nat.le_trans (pNum_len _) (Nat.le_trans (pInt_len _ _) (Nat.le_trans (pNum_len _) (pNum_len (some b)))))
  have hd : (pEntryD (some b)).1 = entryD (pEntry (some b)).1.1 (pEntry (some b)).1.2.1 ((pEntry (some b)).1.2.2.1 : Nat) (pEntry (some b)).1.2.2.2.1 (pEntry (some b)).1.2.2.2.2 := rfl
  have hst : (pEntryD (some b)).2 = (pEntry (some b)).2 := rfl
  unfold RefTo
  rw [hst]
  generalize pEntry (some b) = P at hcall l1 l2 l3 l4 l5 hd ⊢
  obtain ⟨⟨ix, tm, kd0, dl, da⟩, st⟩ := P
  simp only at hcall l1 l2 l3 l4 l5 hd ⊢
  obtain ⟨kd, hkd⟩ : ∃ kd : Int, (kd0 : Int) = kd := ⟨_, rfl⟩
  rw [hkd] at hcall hd
  have lk : -9223372036854775808 ≤ kd ∧ kd ≤ 9223372036854775807 := by omega
  rw [hd]
  generalize hdd : entryD ix tm kd dl da = d
  clear hkd l3 hd hst
  have HDD := Lib.hid hdd
  have HC := Lib.hid hcall
  have HL := Lib.hid (And.intro l1 (And.intro l2 (And.intro lk l4)))
  have HB0 := Lib.hid hb0
  have HRR0 := Lib.hid hrr0
  have HSZ0 := Lib.hid hsz0
  clear hcall l1 l2 lk l4 hb0 hrr0 hin0 hr hdd hsz0
  go_enter Tryz.func45, Tryz.ntmps45
  go_wp2_with fail
  rw [← hw0]
  refine HC.out.mono ?_
  rintro e w1 ⟨v4, rfl, ho4, hin1, hgr1⟩
  clear hw0
  obtain ⟨A4, c4, rfl, hc4, hcm, _, hr4, _⟩ := ho4.form
  have hz0 := HB0.out.size
  have hs0 := HSZ0.out
  have hz1 := hgr1.size
  have hlt0 := row_lt HRR0.out
  obtain ⟨X, hX⟩ : ∃ X, X = w1.heap.size := ⟨_, rfl⟩
  obtain ⟨w2, hw2⟩ : ∃ w2, w2 = w1.alloc (.cells #[.int .u64 (ix : Int), .int .u64 (tm : Int), .int .i64 kd, .int .i64 dl, .slice A4 da.length c4] 25) := ⟨_, rfl⟩
  have hx2 : w2.heap[X]? = some (.cells #[.int .u64 (ix : Int), .int .u64 (tm : Int), .int .i64 kd, .int .i64 dl, .slice A4 da.length c4] 25 (0, 0)) := by rw [hw2, hX]; exact heap_alloc_new w1 _
  have hr2 : w2.heap[w.heap.size]? = some (.cells #[.int .u64 0, .int .u64 0, .int .i64 0, .int .i64 0, .slice none 0 0] 25 (0, 0)) := by
    rw [hw2, heap_alloc_old w1 _ (by omega), hgr1.block w.heap.size hlt0 (fun e => by have := Option.some.inj e; omega)]; exact HRR0.out
  have hin2 : InAt w.heap.size (w.heap.size + 1) w2 b st := by rw [hw2]; exact hin1.alloc _
  have hb2 : Below w.heap.size w w2 := by
    rw [hw2]
    exact ((HB0.out).grown hgr1 hz0 (fun k e => by have := Option.some.inj e; omega)).alloc (by omega) _
  have hli : LiesS w2 (fun q => w.heap.size + 1 < q ∧ q < w2.heap.size) A4 da := (LiesS.own ho4).keep (fun q hq => by rw [hw2]; exact heap_alloc_old w1 _ hq.2) (fun q hq => ⟨by have := hq.1; omega, by rw [hw2, World.size_alloc]; have := hq.2; omega⟩)
  have hrep2 : entryK.rep w2 (fun q => w.heap.size + 1 < q ∧ q < w2.heap.size) [.int .u64 (ix : Int), .int .u64 (tm : Int), .int .i64 kd, .int .i64 dl, .slice A4 da.length c4] d := by
    rw [← HDD.out]
    exact entry_rep HL.out.1 HL.out.2.1 HL.out.2.2.1 HL.out.2.2.2 hc4 (by omega) hli
  have hca0 : w2.cell? ⟨X, 0, none⟩ = some (.int .u64 (ix : Int)) := by rw [cell_of_row w2 _ 0 _ _ _ hx2]; rfl
  have hca1 : w2.cell? ⟨X, 1, none⟩ = some (.int .u64 (tm : Int)) := by rw [cell_of_row w2 _ 1 _ _ _ hx2]; rfl
  have hca2 : w2.cell? ⟨X, 2, none⟩ = some (.int .i64 kd) := by rw [cell_of_row w2 _ 2 _ _ _ hx2]; rfl
  have hca3 : w2.cell? ⟨X, 3, none⟩ = some (.int .i64 dl) := by rw [cell_of_row w2 _ 3 _ _ _ hx2]; rfl
  have hca4 : w2.cell? ⟨X, 4, none⟩ = some (.slice A4 da.length c4) := by rw [cell_of_row w2 _ 4 _ _ _ hx2]; rfl
  have HX2 := Lib.hid hx2
  have HR2 := Lib.hid hr2
  have HIN2 := Lib.hid hin2
  have HREP2 := Lib.hid hrep2
  have HB2 := Lib.hid hb2
  have hXg : (some X : Option Nat) ≠ some (w.heap.size + 1) := fun e => by have := Option.some.inj e; omega
  clear hx2 hr2 hin2 hrep2 hb2 ho4 hin1 hgr1 HRR0 HB0 hr4 hli hc4 hcm HL HDD
  go_wp2
  rw [← hw2, ← hX]
  clear hw2 hX
  have hRg : (some w.heap.size : Option Nat) ≠ some (w.heap.size + 1) := fun e => by have := Option.some.inj e; omega
  have hW := inWhole_any w.heap.size (w.heap.size + 1) b st w2.drew HIN2.out
  obtain ⟨ok, hpw⟩ : ∃ x, pWhole st = x := ⟨_, rfl⟩
  rw [hpw] at hW
  have HPW := Lib.hid hpw
  have HW := Lib.hid hW
  clear hpw hW
  cases ok with
  | false =>
    go_region_law ((go_simp; go_at_call 96; refine HW.out.mono ?_; rintro e w3 ⟨rfl, hin3, hgr3⟩
                    have hgr : w2.grownBy w3 (some (w.heap.size + 1)) := ⟨hgr3.os, hgr3.tape, hgr3.output, hgr3.size, hgr3.block⟩
                    have hx := (hgr.block X (row_lt HX2.out) hXg).trans HX2.out
                    have hr := (hgr.block w.heap.size (row_lt HR2.out) hRg).trans HR2.out
                    have hc0w3 : w3.cell? ⟨X, 0, none⟩ = some (.int .u64 (ix : Int)) := by rw [cell_of_row w3 _ 0 _ _ _ hx]; rfl
                    have hz0w3 : w3.cell? ⟨w.heap.size, 0, none⟩ = some (.int .u64 0) := by rw [cell_of_row w3 _ 0 _ _ _ hr]; rfl
                    have hf0w3 : w3.frozen? ⟨w.heap.size, 0, none⟩ = false := frozen_of_row w3 _ 0 _ _ hr
                    have hc1w3 : w3.cell? ⟨X, 1, none⟩ = some (.int .u64 (tm : Int)) := by rw [cell_of_row w3 _ 1 _ _ _ hx]; rfl
                    have hz1w3 : w3.cell? ⟨w.heap.size, 1, none⟩ = some (.int .u64 0) := by rw [cell_of_row w3 _ 1 _ _ _ hr]; rfl
                    have hf1w3 : w3.frozen? ⟨w.heap.size, 1, none⟩ = false := frozen_of_row w3 _ 1 _ _ hr
                    have hc2w3 : w3.cell? ⟨X, 2, none⟩ = some (.int .i64 kd) := by rw [cell_of_row w3 _ 2 _ _ _ hx]; rfl
                    have hz2w3 : w3.cell? ⟨w.heap.size, 2, none⟩ = some (.int .i64 0) := by rw [cell_of_row w3 _ 2 _ _ _ hr]; rfl
                    have hf2w3 : w3.frozen? ⟨w.heap.size, 2, none⟩ = false := frozen_of_row w3 _ 2 _ _ hr
                    have hc3w3 : w3.cell? ⟨X, 3, none⟩ = some (.int .i64 dl) := by rw [cell_of_row w3 _ 3 _ _ _ hx]; rfl
                    have hz3w3 : w3.cell? ⟨w.heap.size, 3, none⟩ = some (.int .i64 0) := by rw [cell_of_row w3 _ 3 _ _ _ hr]; rfl
                    have hf3w3 : w3.frozen? ⟨w.heap.size, 3, none⟩ = false := frozen_of_row w3 _ 3 _ _ hr
                    have hc4w3 : w3.cell? ⟨X, 4, none⟩ = some (.slice A4 da.length c4) := by rw [cell_of_row w3 _ 4 _ _ _ hx]; rfl
                    have hz4w3 : w3.cell? ⟨w.heap.size, 4, none⟩ = some (.slice none 0 0) := by rw [cell_of_row w3 _ 4 _ _ _ hr]; rfl
                    have hf4w3 : w3.frozen? ⟨w.heap.size, 4, none⟩ = false := frozen_of_row w3 _ 4 _ _ hr
                    have HR3 := Lib.hid hr
                    have HX3 := Lib.hid hx
                    have HREP3 := Lib.hid (entryK_ok.keep HREP2.out (S' := (fun q => w.heap.size + 1 < q ∧ q < w3.heap.size)) (fun q hq => hgr.block q hq.2 (fun e => by have := Option.some.inj e; have := hq.1; omega)) (fun q hq => ⟨hq.1, Nat.lt_of_lt_of_le hq.2 hgr.size⟩))
                    have HB3 := Lib.hid (HB2.out.grown hgr HB2.out.size (fun k e => by have := Option.some.inj e; omega))
                    clear hin3 hgr3 hgr hx hr))
    all_goals
      go_wp2
      have r0 := heap_setCell_same w3 w.heap.size 0 _ _ (.int .u64 (ix : Int)) HR3.out
      have r1 := heap_setCell_same (w3.setCell ⟨w.heap.size, 0, none⟩ (.int .u64 (ix : Int))) w.heap.size 1 _ _ (.int .u64 (tm : Int)) r0
      have r2 := heap_setCell_same ((w3.setCell ⟨w.heap.size, 0, none⟩ (.int .u64 (ix : Int))).setCell ⟨w.heap.size, 1, none⟩ (.int .u64 (tm : Int))) w.heap.size 2 _ _ (.int .i64 kd) r1
      have r3 := heap_setCell_same (((w3.setCell ⟨w.heap.size, 0, none⟩ (.int .u64 (ix : Int))).setCell ⟨w.heap.size, 1, none⟩ (.int .u64 (tm : Int))).setCell ⟨w.heap.size, 2, none⟩ (.int .i64 kd)) w.heap.size 3 _ _ (.int .i64 dl) r2
      have r4 := heap_setCell_same ((((w3.setCell ⟨w.heap.size, 0, none⟩ (.int .u64 (ix : Int))).setCell ⟨w.heap.size, 1, none⟩ (.int .u64 (tm : Int))).setCell ⟨w.heap.size, 2, none⟩ (.int .i64 kd)).setCell ⟨w.heap.size, 3, none⟩ (.int .i64 dl)) w.heap.size 4 _ _ (.slice A4 da.length c4) r3
      have hrow : (((((w3.setCell ⟨w.heap.size, 0, none⟩ (.int .u64 (ix : Int))).setCell ⟨w.heap.size, 1, none⟩ (.int .u64 (tm : Int))).setCell ⟨w.heap.size, 2, none⟩ (.int .i64 kd)).setCell ⟨w.heap.size, 3, none⟩ (.int .i64 dl)).setCell ⟨w.heap.size, 4, none⟩ (.slice A4 da.length c4)).heap[w.heap.size]? = some (.cells #[.int .u64 (ix : Int), .int .u64 (tm : Int), .int .i64 kd, .int .i64 dl, .slice A4 da.length c4] 25 (0, 0)) := r4
      have hoth : ∀ q, q ≠ w.heap.size → (((((w3.setCell ⟨w.heap.size, 0, none⟩ (.int .u64 (ix : Int))).setCell ⟨w.heap.size, 1, none⟩ (.int .u64 (tm : Int))).setCell ⟨w.heap.size, 2, none⟩ (.int .i64 kd)).setCell ⟨w.heap.size, 3, none⟩ (.int .i64 dl)).setCell ⟨w.heap.size, 4, none⟩ (.slice A4 da.length c4)).heap[q]? = w3.heap[q]? := fun q hq => (heap_setCell_other _ ⟨w.heap.size, 4, none⟩ q _ hq).trans ((heap_setCell_other _ ⟨w.heap.size, 3, none⟩ q _ hq).trans ((heap_setCell_other _ ⟨w.heap.size, 2, none⟩ q _ hq).trans ((heap_setCell_other _ ⟨w.heap.size, 1, none⟩ q _ hq).trans (heap_setCell_other _ ⟨w.heap.size, 0, none⟩ q _ hq))))
      have hsz : (((((w3.setCell ⟨w.heap.size, 0, none⟩ (.int .u64 (ix : Int))).setCell ⟨w.heap.size, 1, none⟩ (.int .u64 (tm : Int))).setCell ⟨w.heap.size, 2, none⟩ (.int .i64 kd)).setCell ⟨w.heap.size, 3, none⟩ (.int .i64 dl)).setCell ⟨w.heap.size, 4, none⟩ (.slice A4 da.length c4)).heap.size = w3.heap.size := by simp only [size_setCell']
      have hbz := (((((HB3.out).setCell (p := ⟨w.heap.size, 0, none⟩) (Nat.le_refl _) (.int .u64 (ix : Int))).setCell (p := ⟨w.heap.size, 1, none⟩) (Nat.le_refl _) (.int .u64 (tm : Int))).setCell (p := ⟨w.heap.size, 2, none⟩) (Nat.le_refl _) (.int .i64 kd)).setCell (p := ⟨w.heap.size, 3, none⟩) (Nat.le_refl _) (.int .i64 dl)).setCell (p := ⟨w.heap.size, 4, none⟩) (Nat.le_refl _) (.slice A4 da.length c4)
      have hrep := entryK_ok.keep HREP3.out (S' := New w (((((w3.setCell ⟨w.heap.size, 0, none⟩ (.int .u64 (ix : Int))).setCell ⟨w.heap.size, 1, none⟩ (.int .u64 (tm : Int))).setCell ⟨w.heap.size, 2, none⟩ (.int .i64 kd)).setCell ⟨w.heap.size, 3, none⟩ (.int .i64 dl)).setCell ⟨w.heap.size, 4, none⟩ (.slice A4 da.length c4))) (fun q hq => hoth q (by have := hq.1; omega)) (fun q hq => ⟨by have := hq.1; omega, by rw [hsz]; exact hq.2⟩)
      exact bodyPost_ret (v := .tuple #[.agg #[.int .u64 (ix : Int), .int .u64 (tm : Int), .int .i64 kd, .int .i64 dl, .slice A4 da.length c4], .bool false]) (results_cell_tmp (fn := Tryz.f45) (p := 2) (q := 3) rfl _ _ w.heap.size 25 #[.int .u64 (ix : Int), .int .u64 (tm : Int), .int .i64 kd, .int .i64 dl, .slice A4 da.length c4] (0, 0) _ rfl hrow Tryz.underlying25 (by kernel_rfl)) rfl ⟨_, by rw [HPW.out, Bool.false_and], hrep, hbz⟩
  | true =>
    obtain ⟨sd, hsd⟩ : ∃ x, entryK.sound d = x := ⟨_, rfl⟩
    have HSD := Lib.hid hsd
    have HOK := Lib.hid (fun (w : World) (h : entryK.rep w (Old w) [.int .u64 (ix : Int), .int .u64 (tm : Int), .int .i64 kd, .int .i64 dl, .slice A4 da.length c4] d) => hsd ▸ ent_ok w h)
    clear hsd
    go_region_law (first
      | (go_simp; go_at_call 96; refine HW.out.mono ?_; rintro e w3 ⟨rfl, hin3, hgr3⟩
         have hgr : w2.grownBy w3 (some (w.heap.size + 1)) := ⟨hgr3.os, hgr3.tape, hgr3.output, hgr3.size, hgr3.block⟩
         have hx := (hgr.block X (row_lt HX2.out) hXg).trans HX2.out
         have hr := (hgr.block w.heap.size (row_lt HR2.out) hRg).trans HR2.out
         have hc0w3 : w3.cell? ⟨X, 0, none⟩ = some (.int .u64 (ix : Int)) := by rw [cell_of_row w3 _ 0 _ _ _ hx]; rfl
         have hz0w3 : w3.cell? ⟨w.heap.size, 0, none⟩ = some (.int .u64 0) := by rw [cell_of_row w3 _ 0 _ _ _ hr]; rfl
         have hf0w3 : w3.frozen? ⟨w.heap.size, 0, none⟩ = false := frozen_of_row w3 _ 0 _ _ hr
         have hc1w3 : w3.cell? ⟨X, 1, none⟩ = some (.int .u64 (tm : Int)) := by rw [cell_of_row w3 _ 1 _ _ _ hx]; rfl
         have hz1w3 : w3.cell? ⟨w.heap.size, 1, none⟩ = some (.int .u64 0) := by rw [cell_of_row w3 _ 1 _ _ _ hr]; rfl
         have hf1w3 : w3.frozen? ⟨w.heap.size, 1, none⟩ = false := frozen_of_row w3 _ 1 _ _ hr
         have hc2w3 : w3.cell? ⟨X, 2, none⟩ = some (.int .i64 kd) := by rw [cell_of_row w3 _ 2 _ _ _ hx]; rfl
         have hz2w3 : w3.cell? ⟨w.heap.size, 2, none⟩ = some (.int .i64 0) := by rw [cell_of_row w3 _ 2 _ _ _ hr]; rfl
         have hf2w3 : w3.frozen? ⟨w.heap.size, 2, none⟩ = false := frozen_of_row w3 _ 2 _ _ hr
         have hc3w3 : w3.cell? ⟨X, 3, none⟩ = some (.int .i64 dl) := by rw [cell_of_row w3 _ 3 _ _ _ hx]; rfl
         have hz3w3 : w3.cell? ⟨w.heap.size, 3, none⟩ = some (.int .i64 0) := by rw [cell_of_row w3 _ 3 _ _ _ hr]; rfl
         have hf3w3 : w3.frozen? ⟨w.heap.size, 3, none⟩ = false := frozen_of_row w3 _ 3 _ _ hr
         have hc4w3 : w3.cell? ⟨X, 4, none⟩ = some (.slice A4 da.length c4) := by rw [cell_of_row w3 _ 4 _ _ _ hx]; rfl
         have hz4w3 : w3.cell? ⟨w.heap.size, 4, none⟩ = some (.slice none 0 0) := by rw [cell_of_row w3 _ 4 _ _ _ hr]; rfl
         have hf4w3 : w3.frozen? ⟨w.heap.size, 4, none⟩ = false := frozen_of_row w3 _ 4 _ _ hr
         have HR3 := Lib.hid hr
         have HX3 := Lib.hid hx
         have HREP3 := Lib.hid (entryK_ok.keep HREP2.out (S' := (fun q => w.heap.size + 1 < q ∧ q < w3.heap.size)) (fun q hq => hgr.block q hq.2 (fun e => by have := Option.some.inj e; have := hq.1; omega)) (fun q hq => ⟨hq.1, Nat.lt_of_lt_of_le hq.2 hgr.size⟩))
         have HB3 := Lib.hid (HB2.out.grown hgr HB2.out.size (fun k e => by have := Option.some.inj e; omega))
         clear hin3 hgr3 hgr hx hr)
      | (go_simp; go_at_call 20; refine (HOK.out _ (entryK_ok.keep HREP3.out (S' := Old w3) (fun _ _ => rfl) (fun q hq => hq.2))).mono ?_; rintro e w4 ⟨rfl, hb4⟩
         have hx := (hb4.block X (row_lt HX3.out)).trans HX3.out
         have hr := (hb4.block w.heap.size (row_lt HR3.out)).trans HR3.out
         have hc0w4 : w4.cell? ⟨X, 0, none⟩ = some (.int .u64 (ix : Int)) := by rw [cell_of_row w4 _ 0 _ _ _ hx]; rfl
         have hz0w4 : w4.cell? ⟨w.heap.size, 0, none⟩ = some (.int .u64 0) := by rw [cell_of_row w4 _ 0 _ _ _ hr]; rfl
         have hf0w4 : w4.frozen? ⟨w.heap.size, 0, none⟩ = false := frozen_of_row w4 _ 0 _ _ hr
         have hc1w4 : w4.cell? ⟨X, 1, none⟩ = some (.int .u64 (tm : Int)) := by rw [cell_of_row w4 _ 1 _ _ _ hx]; rfl
         have hz1w4 : w4.cell? ⟨w.heap.size, 1, none⟩ = some (.int .u64 0) := by rw [cell_of_row w4 _ 1 _ _ _ hr]; rfl
         have hf1w4 : w4.frozen? ⟨w.heap.size, 1, none⟩ = false := frozen_of_row w4 _ 1 _ _ hr
         have hc2w4 : w4.cell? ⟨X, 2, none⟩ = some (.int .i64 kd) := by rw [cell_of_row w4 _ 2 _ _ _ hx]; rfl
         have hz2w4 : w4.cell? ⟨w.heap.size, 2, none⟩ = some (.int .i64 0) := by rw [cell_of_row w4 _ 2 _ _ _ hr]; rfl
         have hf2w4 : w4.frozen? ⟨w.heap.size, 2, none⟩ = false := frozen_of_row w4 _ 2 _ _ hr
         have hc3w4 : w4.cell? ⟨X, 3, none⟩ = some (.int .i64 dl) := by rw [cell_of_row w4 _ 3 _ _ _ hx]; rfl
         have hz3w4 : w4.cell? ⟨w.heap.size, 3, none⟩ = some (.int .i64 0) := by rw [cell_of_row w4 _ 3 _ _ _ hr]; rfl
         have hf3w4 : w4.frozen? ⟨w.heap.size, 3, none⟩ = false := frozen_of_row w4 _ 3 _ _ hr
         have hc4w4 : w4.cell? ⟨X, 4, none⟩ = some (.slice A4 da.length c4) := by rw [cell_of_row w4 _ 4 _ _ _ hx]; rfl
         have hz4w4 : w4.cell? ⟨w.heap.size, 4, none⟩ = some (.slice none 0 0) := by rw [cell_of_row w4 _ 4 _ _ _ hr]; rfl
         have hf4w4 : w4.frozen? ⟨w.heap.size, 4, none⟩ = false := frozen_of_row w4 _ 4 _ _ hr
         have HR4 := Lib.hid hr
         have HREP4 := Lib.hid (entryK_ok.keep HREP3.out (S' := (fun q => w.heap.size + 1 < q ∧ q < w4.heap.size)) (fun q hq => hb4.block q hq.2) (fun q hq => ⟨hq.1, Nat.lt_of_lt_of_le hq.2 hb4.size⟩))
         have HB4 := Lib.hid (HB3.out.trans (hb4.mono HB3.out.size))
         clear hx hr hb4))
    all_goals
      go_wp2
      have r0 := heap_setCell_same w4 w.heap.size 0 _ _ (.int .u64 (ix : Int)) HR4.out
      have r1 := heap_setCell_same (w4.setCell ⟨w.heap.size, 0, none⟩ (.int .u64 (ix : Int))) w.heap.size 1 _ _ (.int .u64 (tm : Int)) r0
      have r2 := heap_setCell_same ((w4.setCell ⟨w.heap.size, 0, none⟩ (.int .u64 (ix : Int))).setCell ⟨w.heap.size, 1, none⟩ (.int .u64 (tm : Int))) w.heap.size 2 _ _ (.int .i64 kd) r1
      have r3 := heap_setCell_same (((w4.setCell ⟨w.heap.size, 0, none⟩ (.int .u64 (ix : Int))).setCell ⟨w.heap.size, 1, none⟩ (.int .u64 (tm : Int))).setCell ⟨w.heap.size, 2, none⟩ (.int .i64 kd)) w.heap.size 3 _ _ (.int .i64 dl) r2
      have r4 := heap_setCell_same ((((w4.setCell ⟨w.heap.size, 0, none⟩ (.int .u64 (ix : Int))).setCell ⟨w.heap.size, 1, none⟩ (.int .u64 (tm : Int))).setCell ⟨w.heap.size, 2, none⟩ (.int .i64 kd)).setCell ⟨w.heap.size, 3, none⟩ (.int .i64 dl)) w.heap.size 4 _ _ (.slice A4 da.length c4) r3
      have hrow : (((((w4.setCell ⟨w.heap.size, 0, none⟩ (.int .u64 (ix : Int))).setCell ⟨w.heap.size, 1, none⟩ (.int .u64 (tm : Int))).setCell ⟨w.heap.size, 2, none⟩ (.int .i64 kd)).setCell ⟨w.heap.size, 3, none⟩ (.int .i64 dl)).setCell ⟨w.heap.size, 4, none⟩ (.slice A4 da.length c4)).heap[w.heap.size]? = some (.cells #[.int .u64 (ix : Int), .int .u64 (tm : Int), .int .i64 kd, .int .i64 dl, .slice A4 da.length c4] 25 (0, 0)) := r4
      have hoth : ∀ q, q ≠ w.heap.size → (((((w4.setCell ⟨w.heap.size, 0, none⟩ (.int .u64 (ix : Int))).setCell ⟨w.heap.size, 1, none⟩ (.int .u64 (tm : Int))).setCell ⟨w.heap.size, 2, none⟩ (.int .i64 kd)).setCell ⟨w.heap.size, 3, none⟩ (.int .i64 dl)).setCell ⟨w.heap.size, 4, none⟩ (.slice A4 da.length c4)).heap[q]? = w4.heap[q]? := fun q hq => (heap_setCell_other _ ⟨w.heap.size, 4, none⟩ q _ hq).trans ((heap_setCell_other _ ⟨w.heap.size, 3, none⟩ q _ hq).trans ((heap_setCell_other _ ⟨w.heap.size, 2, none⟩ q _ hq).trans ((heap_setCell_other _ ⟨w.heap.size, 1, none⟩ q _ hq).trans (heap_setCell_other _ ⟨w.heap.size, 0, none⟩ q _ hq))))
      have hsz : (((((w4.setCell ⟨w.heap.size, 0, none⟩ (.int .u64 (ix : Int))).setCell ⟨w.heap.size, 1, none⟩ (.int .u64 (tm : Int))).setCell ⟨w.heap.size, 2, none⟩ (.int .i64 kd)).setCell ⟨w.heap.size, 3, none⟩ (.int .i64 dl)).setCell ⟨w.heap.size, 4, none⟩ (.slice A4 da.length c4)).heap.size = w4.heap.size := by simp only [size_setCell']
      have hbz := (((((HB4.out).setCell (p := ⟨w.heap.size, 0, none⟩) (Nat.le_refl _) (.int .u64 (ix : Int))).setCell (p := ⟨w.heap.size, 1, none⟩) (Nat.le_refl _) (.int .u64 (tm : Int))).setCell (p := ⟨w.heap.size, 2, none⟩) (Nat.le_refl _) (.int .i64 kd)).setCell (p := ⟨w.heap.size, 3, none⟩) (Nat.le_refl _) (.int .i64 dl)).setCell (p := ⟨w.heap.size, 4, none⟩) (Nat.le_refl _) (.slice A4 da.length c4)
      have hrep := entryK_ok.keep HREP4.out (S' := New w (((((w4.setCell ⟨w.heap.size, 0, none⟩ (.int .u64 (ix : Int))).setCell ⟨w.heap.size, 1, none⟩ (.int .u64 (tm : Int))).setCell ⟨w.heap.size, 2, none⟩ (.int .i64 kd)).setCell ⟨w.heap.size, 3, none⟩ (.int .i64 dl)).setCell ⟨w.heap.size, 4, none⟩ (.slice A4 da.length c4))) (fun q hq => hoth q (by have := hq.1; omega)) (fun q hq => ⟨by have := hq.1; omega, by rw [hsz]; exact hq.2⟩)
      exact bodyPost_ret (v := .tuple #[.agg #[.int .u64 (ix : Int), .int .u64 (tm : Int), .int .i64 kd, .int .i64 dl, .slice A4 da.length c4], .bool sd]) (results_cell_tmp (fn := Tryz.f45) (p := 2) (q := 3) rfl _ _ w.heap.size 25 #[.int .u64 (ix : Int), .int .u64 (tm : Int), .int .i64 kd, .int .i64 dl, .slice A4 da.length c4] (0, 0) _ rfl hrow Tryz.underlying25 (by kernel_rfl)) rfl ⟨_, by rw [HPW.out, HSD.out, Bool.true_and], hrep, hbz⟩
end Go.Proofs.YtloieecpgndbhaaGreat.Kd
