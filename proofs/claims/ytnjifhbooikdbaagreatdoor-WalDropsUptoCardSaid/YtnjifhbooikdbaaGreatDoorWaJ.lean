/- Package wal: Read, as a contract of a call. -/
import Derived.Test.YtnjifhbooikdbaaGreatDoorWaI
import Derived.Deep.CutRange
namespace Go.Proofs.YtnjifhbooikdbaaGreatDoor.Wa
open Go.RowKit Go.Maps By Mp Dk

/-- A box with the segment that has record i. -/
def SegBox (l : List Seg) (i : Nat) (w : World) (v : Value) (wx : World) : Prop := ∃ (q k : Nat) (sg : Seg) (A : Option Addr) (c : Nat), v = .pointer (some ⟨q, 0, none⟩) ∧ wx.heap[q]? = some (.cells (segC sg A c) tSeg (0, 0)) ∧ l[k]? = some sg ∧ sg.first ≤ i ∧ (∀ (b : Nat) (s : Seg), k < b → l[b]? = some s → i < s.first) ∧ LiesI wx wx.heap.size A sg.ends ∧ SegOk sg ∧ Below w.heap.size w wx
def ReadOk (R : Bs) (w : World) (e : Ending) (w' : World) : Prop := ∃ v, e = .returned (.tuple #[v, .int .i64 0]) ∧ Own w.heap.size w' v R ∧ Below w.heap.size w w'
theorem segbox_of {w1 wx : World} {g d i k q : Nat} {l : List Seg} {dead : Bool} {T : Nat → Prop} {v : Value} {ac : List AC} {sF : Nat → Seg} {aF : Nat → AC} (hl : LogW w1 g d l dead T v ac) (hsF : ∀ k (h : k < l.length), sF k = l[k]) (haF : ∀ (k : Nat) (a : AC), ac[k]? = some a → aF k = a)
    (hkl : k < l.length) (hk1 : ∀ s, l[k]? = some s → s.first ≤ i) (hk2 : ∀ (b : Nat) (s : Seg), k < b → l[b]? = some s → i < s.first) (hrow : wx.heap[q]? = some (.cells (segC (sF k) (aF k).1 (aF k).2) tSeg (0, 0))) (hb : Below w1.heap.size w1 wx) : SegBox l i w1 (.pointer (some ⟨q, 0, none⟩)) wx := by
  obtain ⟨ub, cap, A, c, -, -, ha, hli, hok, -⟩ := hl.at_ hkl
  have hx : l[k]? = some l[k] := List.getElem?_eq_getElem hkl
  have e1 := hsF k hkl
  have e2 := haF k _ ha
  rw [e1, e2] at hrow
  exact ⟨q, k, l[k], A, c, rfl, hrow, hx, hk1 _ hx, hk2, (hli.below hb).more hb.size, hok, hb⟩
set_option maxRecDepth 100000 in
set_option maxHeartbeats 4000000 in
theorem lread_any (g d i : Nat) (s : DS) (S T : Nat → Prop) (l : List Seg) (R : Bs) (w : World) (h : LogAt w g d l false T) (hd : DiskAt w d s S) (hup : Rising l) (hne : 0 < l.length) (hfi : firstS l ≤ i) (hnx : i < nextS l)
    (hk : ∀ (k : Nat) (sg : Seg), l[k]? = some sg → sg.first ≤ i → (∀ (b : Nat) (u : Seg), k < b → l[b]? = some u → i < u.first) → i ≤ sg.next ∧ ∃ (B : Bs) (U : Nat), readE s sg.name = 0 ∧ readB s sg.name = B ∧ B.length ≤ 140737488355328 ∧ sg.start i ≤ B.length ∧ CoP.unR (B.drop (sg.start i)) = (R, U, 0)) :
    Calls Tryz.prog 12 #[.pointer (some ⟨g, 0, none⟩), .int .u64 (i : Nat)] w (ReadOk R w) := by
  have HLOG := Lib.hid h
  have HD := Lib.hid hd
  have HK := Lib.hid hk
  have HWK := Lib.hid (works_any g d l false T w h)
  have HFI := Lib.hid (first_any g d l false T w h)
  have HNX := Lib.hid (next_any g d l false T w h)
  obtain ⟨f, hf⟩ : ∃ f, f = firstS l := ⟨_, rfl⟩
  obtain ⟨n, hn⟩ : ∃ n, n = nextS l := ⟨_, rfl⟩
  rw [← hf] at HFI hfi
  rw [← hn] at HNX hnx
  have HHO := Lib.hid (fun w' hb => holds_any g d i l false T w' (h.below hb) hup hne (fun s hs => by
    rw [hf] at hfi
    unfold firstS at hfi
    cases l with
    | nil => simp at hs
    | cons a r =>
      simp only [List.getElem?_cons_zero, Option.some.injEq] at hs
      subst hs
      exact hfi))
  clear h hd hk hup hf hn
  have e1 : ¬ ((i : Int) < (f : Int)) := by omega
  have e2 : ¬ ((i : Int) ≥ (n : Int)) := by omega
  go_enter Tryz.func12, Tryz.ntmps12
  go_wp2_with fail
  refine HWK.out.mono ?_
  rintro e w' ⟨rfl, rfl⟩
  go_wp2_with fail
  refine HFI.out.mono ?_
  rintro e w' ⟨rfl, rfl⟩
  go_wp2_with fail
  refine HNX.out.mono ?_
  rintro e w1 ⟨rfl, hb1⟩
  have HB1 := Lib.hid hb1
  clear hb1 HWK HFI HNX
  go_upto_region 8 with fail
  obtain ⟨v, ac, hl1⟩ := HLOG.out.below HB1.out
  have HL1 := Lib.hid hl1
  obtain ⟨ub, cap, A0, c0, hv, hub, -⟩ := hl1.at_ hne
  subst hv
  obtain ⟨sF, hsF⟩ : ∃ sF : Nat → Seg, ∀ k (h : k < l.length), sF k = l[k] := ⟨fun k => l[k]?.getD seg0, fun k h => by show l[k]?.getD seg0 = l[k]; rw [List.getElem?_eq_getElem h]; rfl⟩
  obtain ⟨aF, haF⟩ : ∃ aF : Nat → AC, ∀ (k : Nat) (a : AC), ac[k]? = some a → aF k = a := ⟨fun k => ac[k]?.getD (none, 0), fun k a h => by show ac[k]?.getD (none, 0) = a; rw [h]; rfl⟩
  have HSF := Lib.hid hsF
  have HAF := Lib.hid haF
  have hcells : ∀ w', Below w1.heap.size w1 w' → w'.cell? ⟨g, 1, none⟩ = some (.slice (some ⟨ub, 0, none⟩) l.length cap) ∧ (∀ k, k < l.length → w'.cell? ⟨ub, k * 4, none⟩ = some (.int .u64 ((sF k).era : Nat))) ∧ (∀ k, k < l.length → w'.cell? ⟨ub, k * 4 + 1, none⟩ = some (.int .u64 ((sF k).first : Nat))) ∧ (∀ k, k < l.length → w'.cell? ⟨ub, k * 4 + 2, none⟩ = some (.bool (sF k).base)) ∧ (∀ k, k < l.length → w'.cell? ⟨ub, k * 4 + 3, none⟩ = some (.slice (aF k).1 (sF k).ends.length (aF k).2)) := fun w' hb => by
    have h' := HL1.out.keep (fun b hB => hb.block b (HL1.out.lt b hB)) hb.size
    have hat : ∀ k, k < l.length → w'.cell? ⟨ub, k * 4, none⟩ = some (.int .u64 ((sF k).era : Nat)) ∧ w'.cell? ⟨ub, k * 4 + 1, none⟩ = some (.int .u64 ((sF k).first : Nat)) ∧ w'.cell? ⟨ub, k * 4 + 2, none⟩ = some (.bool (sF k).base) ∧ w'.cell? ⟨ub, k * 4 + 3, none⟩ = some (.slice (aF k).1 (sF k).ends.length (aF k).2) := fun k hk => by
      obtain ⟨ub', cap', A, c, hv, -, ha, -, -, h0, h1, h2, h3⟩ := h'.at_ hk
      injection hv with e1 e2 e3
      injection e1 with e1
      injection e1 with e1
      subst e1
      rw [HSF.out k hk, HAF.out k _ ha]
      exact ⟨h0, h1, h2, h3⟩
    exact ⟨by rw [cell_of_row w' g 1 _ _ _ h'.row]; rfl, fun k hk => (hat k hk).1, fun k hk => (hat k hk).2.1, fun k hk => (hat k hk).2.2.1, fun k hk => (hat k hk).2.2.2⟩
  have HG1 := Lib.hid hcells
  have hfew := hl1.few
  clear hcells hl1 hsF haF
  rw [show decide (n ≤ i) = false from decide_eq_false (by omega)]
  go_cut [7] from 27 to 35 (fun s7 wx => SegBox l i w1 s7 wx)
  case first =>
    have HH1 := Lib.hid (fun w' hb => HHO.out w' (By.ext HB1.out hb))
    go_region_held3 (fun w' => w'.cell? ⟨g, 1, none⟩ = some (.slice (some ⟨ub, 0, none⟩) l.length cap) ∧ (∀ k, k < l.length → w'.cell? ⟨ub, k * 4, none⟩ = some (.int .u64 ((sF k).era : Nat))) ∧ (∀ k, k < l.length → w'.cell? ⟨ub, k * 4 + 1, none⟩ = some (.int .u64 ((sF k).first : Nat))) ∧ (∀ k, k < l.length → w'.cell? ⟨ub, k * 4 + 2, none⟩ = some (.bool (sF k).base)) ∧ (∀ k, k < l.length → w'.cell? ⟨ub, k * 4 + 3, none⟩ = some (.slice (aF k).1 (sF k).ends.length (aF k).2)))
      (first
        | with_reducible assumption
        | exact HG1.out _ (Below.refl _ _)
        | exact HG1.out _ (Below.refl _ _).drew
        | exact HG1.out _ HB2.out
        | exact HG1.out _ (bAlloc HB2.out _)
        | exact HG1.out _ (bSet (bSet (bSet (bSet HB2.out _ (Nat.le_refl _) _) _ (Nat.le_refl _) _) _ (Nat.le_refl _) _) _ (Nat.le_refl _) _)
        | exact HG1.out _ (bAlloc (Below.refl _ _).drew _)
        | exact HG1.out _ (bAlloc (Below.refl _ _) _)
        | exact HG1.out _ (bAlloc (Below.refl _ _) _).drew)
      (first
        | (go_at_call 28; refine (HH1.out _ (Below.refl _ _).drew).mono ?_; rintro e w2 ⟨k, rfl, hkl, hk1, hk2, hb2⟩
           have HB2 := Lib.hid (show Below w1.heap.size w1 w2 from By.ext (Below.refl _ _).drew hb2)
           clear hb2)
        | (go_at_call 28; refine (HH1.out _ (bAlloc (Below.refl _ _) _).drew).mono ?_; rintro e w2 ⟨k, rfl, hkl, hk1, hk2, hb2⟩
           have HB2 := Lib.hid (show Below w1.heap.size w1 w2 from By.ext (bAlloc (Below.refl _ _) (.cells #[.int .u64 0, .int .u64 0, .bool false, .slice none 0 0] 59)).drew hb2)
           have hr2 := (hb2.block w1.heap.size (by show _ < (w1.alloc _).heap.size; simp)).trans (heap_alloc_new w1 (.cells #[.int .u64 0, .int .u64 0, .bool false, .slice none 0 0] 59))
           have hf2 : ∀ i, w2.frozen? ⟨w1.heap.size, i, none⟩ = false := fun i => frozen_of_row w2 _ i _ _ hr2
           have q0 : w2.cell? ⟨w1.heap.size, 0, none⟩ = some (.int .u64 0) := (cell_of_row w2 _ 0 _ _ _ hr2).trans rfl
           have q1 : w2.cell? ⟨w1.heap.size, 1, none⟩ = some (.int .u64 0) := (cell_of_row w2 _ 1 _ _ _ hr2).trans rfl
           have q2 : w2.cell? ⟨w1.heap.size, 2, none⟩ = some (.bool false) := (cell_of_row w2 _ 2 _ _ _ hr2).trans rfl
           have q3 : w2.cell? ⟨w1.heap.size, 3, none⟩ = some (.slice none 0 0) := (cell_of_row w2 _ 3 _ _ _ hr2).trans rfl
           clear hb2)
        | fail)
    all_goals
      go_wp2
      go_meet
      first
        | exact segbox_of HL1.out HSF.out HAF.out hkl hk1 hk2 (heap_alloc_new w2 _) (bAlloc HB2.out _)
        | exact segbox_of HL1.out HSF.out HAF.out hkl hk1 hk2 (Go.heap_setCell_same _ _ 3 _ _ _ (Go.heap_setCell_same _ _ 2 _ _ _ (Go.heap_setCell_same _ _ 1 _ _ _ (Go.heap_setCell_same w2 _ 0 _ _ _ hr2)))) (bSet (bSet (bSet (bSet HB2.out _ (Nat.le_refl _) _) _ (Nat.le_refl _) _) _ (Nat.le_refl _) _) _ (Nat.le_refl _) _)
  obtain ⟨q, k, sg, A, c, rfl, hrow, hlk, hf1, hf2, hli, hok, hb⟩ := hcut
  obtain ⟨w3, hw3⟩ : ∃ w3, w3 = wc := ⟨_, rfl⟩
  subst hw3
  have HB3 := Lib.hid (By.ext HB1.out hb)
  have HROW := Lib.hid hrow
  have HLI := Lib.hid hli
  have HOKS := Lib.hid hok
  obtain ⟨hin, B, U, hre, hrb, hBl, hst, hun⟩ := HK.out k sg hlk hf1 hf2
  have HUN := Lib.hid hun
  have HST := Lib.hid hst
  have HBL := Lib.hid hBl
  have hgc : ∀ w', Below w3.heap.size w3 w' → w'.cell? ⟨g, 0, none⟩ = some (.pointer (some ⟨d, 0, none⟩)) := fun w' hb' => by
    obtain ⟨v, ac, h⟩ := HLOG.out.below (By.ext HB3.out hb')
    rw [cell_of_row w' g 0 _ _ _ h.row]
    rfl
  have HALL := Lib.hid (fun (w' : World) (hb' : Below w3.heap.size w3 w') => And.intro (hgc w' hb') (box_cells HROW.out hb'))
  have hnl : sg.name.length ≤ 140737488355328 := by
    have h1 := b36_le hok.era
    have h2 : (b36 sg.first).length ≤ 13 := b36_le (by have := hok.next; unfold Seg.next at this; omega)
    unfold Seg.name
    simp only [List.length_append]
    have h3 : (if sg.base = true then ([46, 98] : Bs) else []).length ≤ 2 := by cases sg.base <;> decide
    have h4 : ([119, 46] : Bs).length = 2 := rfl
    have h5 : ([46] : Bs).length = 1 := rfl
    omega
  have HNM := Lib.hid (fun w' => lab_name_any sg w' hok.era (by have := hok.next; unfold Seg.next at this; omega))
  have HRD := Lib.hid (fun w' (hb' : Below w3.heap.size w3 w') => (show Calls Tryz.prog 29 #[.pointer (some ⟨d, 0, none⟩), .string (str sg.name)] w' (Dk.GivesE B 0 w') from by
    have h := read_any d s S sg.name w' (HD.out.below (By.ext HB3.out hb')) hnl
    rw [hre, hrb] at h
    exact h))
  have HSS := Lib.hid (fun w' (hb' : Below w3.heap.size w3 w') => seg_start_any sg A c i w' hf1 hin hok.next (Nat.le_trans hok.len (by decide)) ((HLI.out.below hb').more hb'.size))
  obtain ⟨st, hst'⟩ : ∃ st, st = sg.start i := ⟨_, rfl⟩
  rw [← hst'] at HSS HST HUN
  obtain ⟨nm, hnm⟩ : ∃ nm, nm = sg.name := ⟨_, rfl⟩
  rw [← hnm] at HNM HRD
  clear hrow hlk hf1 hf2 hli hok hb hin hre hrb hBl hst hun hgc hnl hst' hnm HK HHO
  obtain ⟨era, first, base, ends⟩ := sg
  dsimp only [segV, segC, labV, labC] at HALL HNM HSS
  go_upto_region 9 with fail
  go_region_held3 (fun w' => w'.cell? ⟨g, 0, none⟩ = some (.pointer (some ⟨d, 0, none⟩)) ∧ w'.cell? ⟨q, 0, none⟩ = some (.int .u64 (era : Nat)) ∧ w'.cell? ⟨q, 1, none⟩ = some (.int .u64 (first : Nat)) ∧ w'.cell? ⟨q, 2, none⟩ = some (.bool base) ∧ w'.cell? ⟨q, 3, none⟩ = some (.slice A ends.length c))
    (first
      | with_reducible assumption
      | exact HALL.out _ (Below.refl _ _)
      | exact HALL.out _ (Below.refl _ _).drew
      | exact HALL.out _ HB4.out
      | exact HALL.out _ HB5.out)
    (first
      | (go_at_call 24; refine (HNM.out _).mono ?_; rintro e w4 ⟨rfl, hb4⟩
         have HB4 := Lib.hid (show Below w3.heap.size w3 w4 from By.ext (Below.refl _ _).drew hb4)
         clear hb4)
      | (go_at_call 29; refine (HRD.out _ HB4.out).mono ?_; rintro e w5 ⟨vd, rfl, hod, hb5⟩
         have HB5 := Lib.hid (show Below w3.heap.size w3 w5 from By.ext HB4.out hb5)
         obtain ⟨Ad, cd, rfl, hcd, -, -, hld, -⟩ := hod.form
         have HLD := Lib.hid hld
         have HCD := Lib.hid hcd
         clear hb5 hod hld hcd))
  obtain ⟨-, b0, b1, b2, b3⟩ := HALL.out _ HB5.out
  clear HNM HRD
  go_wp2_with fail
  refine (HSS.out _ HB5.out).mono ?_
  rintro e w6 ⟨rfl, hb6⟩
  have HB6 := Lib.hid (By.ext HB3.out (By.ext HB5.out hb6))
  have hun := Co.un_in Ad B.length cd st w6.heap.size B rfl HCD.out HST.out HBL.out w6 ((HLD.out.below hb6).more hb6.size) (Nat.le_refl _)
  rw [HUN.out] at hun
  have HU := Lib.hid hun
  clear b0 b1 b2 b3 hb6 hun
  go_wp2_with fail
  refine HU.out.mono ?_
  rintro e w7 ⟨vr, rfl, hor, hb7⟩
  have HFIN := Lib.hid (show ReadOk R w (.returned (.tuple #[vr, .int .i64 0])) w7 from ⟨vr, rfl, ownsRow_base hor HB6.out.size, HB6.out.trans (hb7.mono HB6.out.size)⟩)
  clear hor hb7
  go_wp2
  go_ret2
  exact HFIN.out
end Go.Proofs.YtnjifhbooikdbaaGreatDoor.Wa
