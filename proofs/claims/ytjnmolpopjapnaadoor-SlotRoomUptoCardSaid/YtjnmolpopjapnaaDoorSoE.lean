/- Package slot's files: what the disk has of each turn, as a contract of a call. -/
import Derived.Test.YtjnmolpopjapnaaDoorSoD
namespace Go.Proofs.YtjnmolpopjapnaaDoor.So
open Go.RowKit Go.Maps By Mp Dk

theorem ret_files {w4 : World} {r : Nat} {a : Array Value} {k : Int} {tm : Array Value} (h9 : a.size = 9) (h2 : tm[2]?.getD undef = .pointer (some ⟨r, 0, none⟩)) (h3 : tm[3]?.getD undef = .int .i64 k) (hrow : w4.heap[r]? = some (.cells a tSFiles (0, 0))) :
    (results Tryd.f33 tm).run Tryd.prog w4 = .ok (.tuple #[.agg a, .int .i64 k]) w4 := by
  have hres : Tryd.f33.results = #[.cell 2 tSFiles, .tmp 3] := by kernel_rfl
  have hlv : (loadVar tSFiles ⟨r, 0, none⟩).run Tryd.prog w4 = .ok (.agg a) w4 := run_loadVar_row w4 _ _ _ _ _ _ hrow Tryd.underlying70 rfl (by rw [h9]; kernel_rfl)
  unfold results
  rw [hres]
  simp [asAddr, hlv, h2, h3]
theorem set_same {w : World} {L : Nat} {cs : Array Value} {t : TypeId} (q : Nat) (v : Value) (h : w.heap[L]? = some (.cells cs t (0, 0))) (hv : cs[q]? = some v) : (w.setCell ⟨L, q, none⟩ v).heap[L]? = some (.cells cs t (0, 0)) := by
  rw [Go.heap_setCell_same w L q _ _ v h]
  have e : cs.setIfInBounds q v = cs := by
    apply Array.ext_getElem?
    intro i
    rw [Array.getElem?_setIfInBounds]
    split
    · rename_i e
      subst e
      split
      · exact hv.symm
      · rename_i hn
        rw [Array.getElem?_eq_none (by omega)]
    · rfl
  rw [e]
/-- The cells of the three turns. -/
def filC (b0 c0 : Bool) (v0 : Value) (b1 c1 : Bool) (v1 : Value) (b2 c2 : Bool) (v2 : Value) : Array Value := #[.bool b0, .bool c0, v0, .bool b1, .bool c1, v1, .bool b2, .bool c2, v2]
def FilesPost (f : Nat → Fl) (w : World) (e : Ending) (w' : World) : Prop := ∃ b0 c0 v0 b1 c1 v1 b2 c2 v2, e = .returned (.tuple #[.agg (filC b0 c0 v0 b1 c1 v1 b2 c2 v2), .int .i64 0]) ∧ Cel w.heap.size w' (f 0) b0 c0 v0 ∧ Cel w.heap.size w' (f 1) b1 c1 v1 ∧ Cel w.heap.size w' (f 2) b2 c2 v2 ∧ Below w.heap.size w w'
/-- The files of the first k turns. -/
def fk (f : Nat → Fl) (k t : Nat) : Fl := if t < k then f t else none
def FRow (L : Nat) (f0 f1 f2 : Fl) (w wr : World) : Prop := ∃ b0 c0 v0 b1 c1 v1 b2 c2 v2, wr.heap[L]? = some (.cells (filC b0 c0 v0 b1 c1 v1 b2 c2 v2) tSFiles (0, 0)) ∧ Cel (L + 1) wr f0 b0 c0 v0 ∧ Cel (L + 1) wr f1 b1 c1 v1 ∧ Cel (L + 1) wr f2 b2 c2 v2 ∧ Below w.heap.size w wr
theorem Cel.far {base : Nat} {w w' : World} {f : Fl} {b c : Bool} {v : Value} (h : Cel base w f b c v) (hk : ∀ b, base ≤ b → b < w.heap.size → w'.heap[b]? = w.heap[b]?) : Cel base w' f b c v := ⟨h.1, h.2.1, ownsRow_keep h.2.2 (fun b hb => hk b (ownsRow_lt h.2.2 hb).1 (ownsRow_lt h.2.2 hb).2)⟩
theorem Cel.more {base base' : Nat} {w : World} {f : Fl} {b c : Bool} {v : Value} (h : Cel base w f b c v) (hb : base' ≤ base) : Cel base' w f b c v := ⟨h.1, h.2.1, ownsRow_base h.2.2 hb⟩
theorem FRow.below {L : Nat} {f0 f1 f2 : Fl} {w wr w' : World} (h : FRow L f0 f1 f2 w wr) (hb : Below wr.heap.size wr w') (hz : w.heap.size ≤ wr.heap.size) : FRow L f0 f1 f2 w w' := by
  obtain ⟨b0, c0, v0, b1, c1, v1, b2, c2, v2, h1, h2, h3, h4, h5⟩ := h
  exact ⟨b0, c0, v0, b1, c1, v1, b2, c2, v2, (hb.block _ (row_lt h1)).trans h1, h2.below hb, h3.below hb, h4.below hb, h5.trans (hb.mono hz)⟩
theorem file_none {s : DS} {nm : Bs} {t : Nat} (hd : s.down = false) (hn : named (pth nm t) = true) (h : fget s.files (pth nm t) = none) : readE s (pth nm t) = 8 ∧ fileOf s.files nm t = none := by
  refine ⟨?_, fileOf_gone h⟩
  unfold readE
  rw [if_neg (by rw [hd]; decide), if_neg (by rw [hn]; decide), if_pos (by unfold fthere; rw [h]; rfl)]
theorem file_some {s : DS} {nm : Bs} {t : Nat} {b : Bs} (hd : s.down = false) (hn : named (pth nm t) = true) (h : fget s.files (pth nm t) = some b) : readE s (pth nm t) = 0 ∧ readB s (pth nm t) = b ∧ fileOf s.files nm t = some (whole b) := by
  have e : readE s (pth nm t) = 0 := by
    unfold readE
    rw [if_neg (by rw [hd]; decide), if_neg (by rw [hn]; decide), if_neg (by unfold fthere; rw [h]; simp)]
  refine ⟨e, ?_, ?_⟩
  · unfold readB bytesOf
    rw [if_pos e, h]; rfl
  · unfold fileOf
    rw [h]; rfl
set_option maxRecDepth 100000 in
set_option maxHeartbeats 4000000 in
theorem files_any (g d : Nat) (nm : Bs) (s : DS) (S : Nat → Prop) (w : World) (h : SlotAt w g d nm false) (hd : DiskAt w d s S) (hdn : s.down = false) (hnm : sname nm = true) : Calls Tryd.prog 33 #[.pointer (some ⟨g, 0, none⟩)] w (FilesPost (fileOf s.files nm) w) := by
  have hl8 := (sname_len hnm).2
  obtain ⟨L, hL⟩ : ∃ L, L = w.heap.size := ⟨_, rfl⟩
  have HL := Lib.hid hL
  have HD := Lib.hid hd
  have HSL := Lib.hid h
  have HC := Lib.hid (fun (w' : World) (hb : Below w.heap.size w w') => ((hb.cell (show (⟨g, 0, none⟩ : Addr).block < w.heap.size from h.lt)).trans h.cells.1 : w'.cell? ⟨g, 0, none⟩ = some (.pointer (some ⟨d, 0, none⟩))))
  have HDN := Lib.hid hdn
  have HNM := Lib.hid hnm
  have HBL := Lib.hid (show ∀ nm', (bytesOf s.files nm').length ≤ 4194304 from fun nm' => by
    obtain ⟨bm, sm, pb, ps, v, hw⟩ := hd
    exact bytesOf_le (fit_all hw.ok.fit hw.ok.un) nm')
  obtain ⟨f, hf⟩ : ∃ f, f = fileOf s.files nm := ⟨_, rfl⟩
  have HF := Lib.hid hf
  rw [← hf]
  have HP := Lib.hid (fun (t : Nat) (ht : t < 3) (w' : World) (hb : Below w.heap.size w w') => path_any g d nm false t w' (HSL.out.below hb) ht hl8)
  have HN := Lib.hid (fun (t : Nat) (ht : t < 3) => named_pth hnm ht)
  have HR := Lib.hid (fun (t : Nat) (w' : World) (hb : Below w.heap.size w w') => read_any d s S (pth nm t) w' (HD.out.below hb) (by rw [pth_length]; omega))
  have HI0 := Lib.hid (show FRow L none none none w (w.alloc (.cells (filC false false (.slice none 0 0) false false (.slice none 0 0) false false (.slice none 0 0)) tSFiles)) from
    ⟨_, _, _, _, _, _, _, _, _, by rw [hL]; exact heap_alloc_new w _, Cel.none _ _, Cel.none _ _, Cel.none _ _, nAlloc (Below.refl _ _) (Nat.le_refl _) _⟩)
  clear h hd hdn hnm hf
  go_enter Tryd.func33, Tryd.ntmps33
  go_wp2
  rw [← hL]
  clear hL
  go_loopw [7] (fun i wr => ∃ k : Nat, k ≤ 3 ∧ i = .int .i64 (k : Int) ∧ FRow L (fk f k 0) (fk f k 1) (fk f k 2) w wr) (fun i _ => 3 - (intOf i).toNat)
  case atStart => exact ⟨0, by decide, rfl, HI0.out⟩
  case round =>
    obtain ⟨k, hk, hi, hfr⟩ := hrel
    have hcases : k = 0 ∨ k = 1 ∨ k = 2 ∨ k = 3 := by omega
    rcases hcases with rfl | rfl | rfl | rfl
    · replace hi : _ = Value.int .i64 0 := hi
      subst hi
      obtain ⟨b0, c0, v0, b1, c1, v1, b2, c2, v2, hrow, hq0, hq1, hq2, hb⟩ := hfr
      have HROW := Lib.hid hrow
      have HB := Lib.hid hb
      have HQ0 := Lib.hid hq0
      have HQ1 := Lib.hid hq1
      have HQ2 := Lib.hid hq2
      have HLL := Lib.hid (show L = w.heap.size ∧ L < wr.heap.size from ⟨HL.out, row_lt hrow⟩)
      have HALL := Lib.hid (fun (w' : World) (hb' : Below wr.heap.size wr w') => HC.out w' (HB.out.trans (hb'.mono HB.out.size)))
      have HPK := Lib.hid (fun (w' : World) (hb' : Below wr.heap.size wr w') => HP.out 0 (by decide) w' (HB.out.trans (hb'.mono HB.out.size)))
      have hrd := fun (w' : World) (hb' : Below wr.heap.size wr w') => HR.out 0 w' (HB.out.trans (hb'.mono HB.out.size))
      clear hrow hb hq0 hq1 hq2
      cases hfg : fget s.files (pth nm 0) with
      | none =>
        have hfn := file_none HDN.out (HN.out 0 (by decide)) hfg
        have hbn : readB s (pth nm 0) = [] := by unfold readB; rw [hfn.1]; rfl
        rw [hfn.1, hbn] at hrd
        have HRD := Lib.hid hrd
        have HFN := Lib.hid (show f 0 = none by rw [HF.out]; exact hfn.2)
        clear hrd hfn hbn hfg
        obtain ⟨P, hP⟩ : ∃ P, P = str (pth nm 0) := ⟨_, rfl⟩
        rw [← hP] at HPK HRD
        clear hP
        go_upto_region 4 with fail
        go_region_held3 (fun w' => w'.cell? ⟨g, 0, none⟩ = some (.pointer (some ⟨d, 0, none⟩)))
          (first
            | with_reducible assumption
            | exact HALL.out _ (Below.refl _ _)
            | exact HALL.out _ (Below.refl _ _).drew
            | exact HALL.out _ HB4.out
            | exact HALL.out _ HB5.out)
          (first
            | (go_at_call 44; refine (HPK.out _ (Below.refl _ _).drew).mono ?_; rintro e w4 ⟨rfl, hb4⟩
               have HB4 := Lib.hid (show Below wr.heap.size wr w4 from By.ext (Below.refl _ _).drew hb4)
               clear hb4)
            | (go_at_call 43; refine (HRD.out _ HB4.out).mono ?_; rintro e w5 ⟨vd, rfl, hod, hb5⟩
               have HB5 := Lib.hid (show Below wr.heap.size wr w5 from By.ext HB4.out hb5)
               obtain ⟨Ad, cd, rfl, hcd, -, -, hld, -⟩ := hod.form
               clear hb5 hod hld hcd))
        have HFIN := Lib.hid (show FRow L (fk f 1 0) (fk f 1 1) (fk f 1 2) w w5 from ⟨b0, c0, v0, b1, c1, v1, b2, c2, v2, (HB5.out.block _ HLL.out.2).trans HROW.out, by have h := HQ0.out.below HB5.out; rw [show fk f 1 0 = fk f 0 0 by unfold fk; rw [if_pos (by decide), if_neg (by decide), HFN.out]]; exact h, by have h := HQ1.out.below HB5.out; rw [show fk f 1 1 = fk f 0 1 by unfold fk; rfl]; exact h, by have h := HQ2.out.below HB5.out; rw [show fk f 1 2 = fk f 0 2 by unfold fk; rfl]; exact h, HB.out.trans (HB5.out.mono HB.out.size)⟩)
        go_wp2
        go_roundw
        case rel => exact ⟨1, by decide, rfl, HFIN.out⟩
        case measure => simp [intOf]
      | some B =>
        have hfs := file_some HDN.out (HN.out 0 (by decide)) hfg
        have hbl : B.length ≤ 4194304 := by have h := HBL.out (pth nm 0); unfold bytesOf at h; rw [hfg] at h; exact h
        rw [hfs.1, hfs.2.1] at hrd
        have HRD := Lib.hid hrd
        have HFN := Lib.hid (show f 0 = some (whole B) by rw [HF.out]; exact hfs.2.2)
        have HBB := Lib.hid hbl
        clear hrd hfs hfg hbl
        obtain ⟨P, hP⟩ : ∃ P, P = str (pth nm 0) := ⟨_, rfl⟩
        rw [← hP] at HPK HRD
        clear hP
        go_upto_region 4 with fail
        go_region_held3 (fun w' => w'.cell? ⟨g, 0, none⟩ = some (.pointer (some ⟨d, 0, none⟩)))
          (first
            | with_reducible assumption
            | exact HALL.out _ (Below.refl _ _)
            | exact HALL.out _ (Below.refl _ _).drew
            | exact HALL.out _ HB4.out
            | exact HALL.out _ HB5.out)
          (first
            | (go_at_call 44; refine (HPK.out _ (Below.refl _ _).drew).mono ?_; rintro e w4 ⟨rfl, hb4⟩
               have HB4 := Lib.hid (show Below wr.heap.size wr w4 from By.ext (Below.refl _ _).drew hb4)
               clear hb4)
            | (go_at_call 43; refine (HRD.out _ HB4.out).mono ?_; rintro e w5 ⟨vd, rfl, hod, hb5⟩
               have HB5 := Lib.hid (show Below wr.heap.size wr w5 from By.ext HB4.out hb5)
               obtain ⟨Ad, cd, rfl, hcd, -, -, hld, -⟩ := hod.form
               have HLD := Lib.hid hld
               have HCD := Lib.hid hcd
               clear hb5 hod hld hcd))
        have HTF := Lib.hid (toFile_any Ad B.length cd B w5 rfl HCD.out (by have := HBB.out; omega) HLD.out)
        go_wp2_with fail
        refine HTF.out.mono ?_
        rintro e w6 ⟨cc, vz, rfl, hcel, hb6⟩
        have HB6 := Lib.hid (By.ext HB5.out hb6)
        have HZ5 := Lib.hid HB5.out.size
        obtain ⟨Az, nz, cz, hvz⟩ : ∃ A n c, vz = .slice A n c := by
          obtain ⟨A', c', h, -⟩ := hcel.2.2.form
          exact ⟨_, _, _, h⟩
        subst hvz
        have HCEL := Lib.hid hcel
        have hr6 := (HB6.out.block _ HLL.out.2).trans HROW.out
        have HR6 := Lib.hid hr6
        have HFZ := Lib.hid (fun o => frozen_of_row w6 L o _ _ hr6)
        have hfz : ∀ o, w6.frozen? ⟨L, o, none⟩ = false := HFZ.out
        have k0 : w6.cell? ⟨L, 0, none⟩ = some (.bool b0) := (cell_of_row w6 _ 0 _ _ _ hr6).trans rfl
        have k1 : w6.cell? ⟨L, 1, none⟩ = some (.bool c0) := (cell_of_row w6 _ 1 _ _ _ hr6).trans rfl
        have k2 : w6.cell? ⟨L, 2, none⟩ = some v0 := (cell_of_row w6 _ 2 _ _ _ hr6).trans rfl
        have k3 : (w6.heap[L]?).isSome = true := by rw [hr6]; rfl
        have HFIN := Lib.hid (show FRow L (fk f 1 0) (fk f 1 1) (fk f 1 2) w (((w6.setCell ⟨L, 0, none⟩ (.bool true)).setCell ⟨L, 1, none⟩ (.bool cc)).setCell ⟨L, 2, none⟩ (.slice Az nz cz)) from by
          have hoth : ∀ b, L + 1 ≤ b → b < w6.heap.size → (((w6.setCell ⟨L, 0, none⟩ (.bool true)).setCell ⟨L, 1, none⟩ (.bool cc)).setCell ⟨L, 2, none⟩ (.slice Az nz cz)).heap[b]? = w6.heap[b]? := fun b hb _ =>
            (heap_setCell_other _ ⟨L, 2, none⟩ b _ (by show b ≠ L; omega)).trans ((heap_setCell_other _ ⟨L, 1, none⟩ b _ (by show b ≠ L; omega)).trans (heap_setCell_other _ ⟨L, 0, none⟩ b _ (by show b ≠ L; omega)))
          have hrw := Go.heap_setCell_same _ L 2 _ _ (.slice Az nz cz) (Go.heap_setCell_same _ L 1 _ _ (.bool cc) (Go.heap_setCell_same w6 L 0 _ _ (.bool true) HR6.out))
          have hL5 : L + 1 ≤ w5.heap.size := by have := HLL.out.2; have := HZ5.out; omega
          refine ⟨true, cc, (.slice Az nz cz), b1, c1, v1, b2, c2, v2, hrw, ?_, ?_, ?_, ?_⟩
          · rw [show fk f 1 0 = some (whole B) by unfold fk; rw [if_pos (by decide), HFN.out]]; exact (HCEL.out.more hL5).far hoth
          · rw [show fk f 1 1 = fk f 0 1 from rfl]; exact (HQ1.out.below HB6.out).far hoth
          · rw [show fk f 1 2 = fk f 0 2 from rfl]; exact (HQ2.out.below HB6.out).far hoth
          · have h0 : Below w.heap.size w w6 := HB.out.trans (HB6.out.mono HB.out.size)
            have hLe : w.heap.size ≤ L := by rw [HLL.out.1]; exact Nat.le_refl _
            exact nSet (nSet (nSet h0 ⟨L, 0, none⟩ hLe _) ⟨L, 1, none⟩ hLe _) ⟨L, 2, none⟩ hLe _)
        clear hr6 hcel hb6 HTF
        go_wp2
        go_roundw
        case rel => exact ⟨1, by decide, rfl, HFIN.out⟩
        case measure => simp [intOf]
    · replace hi : _ = Value.int .i64 1 := hi
      subst hi
      obtain ⟨b0, c0, v0, b1, c1, v1, b2, c2, v2, hrow, hq0, hq1, hq2, hb⟩ := hfr
      have HROW := Lib.hid hrow
      have HB := Lib.hid hb
      have HQ0 := Lib.hid hq0
      have HQ1 := Lib.hid hq1
      have HQ2 := Lib.hid hq2
      have HLL := Lib.hid (show L = w.heap.size ∧ L < wr.heap.size from ⟨HL.out, row_lt hrow⟩)
      have HALL := Lib.hid (fun (w' : World) (hb' : Below wr.heap.size wr w') => HC.out w' (HB.out.trans (hb'.mono HB.out.size)))
      have HPK := Lib.hid (fun (w' : World) (hb' : Below wr.heap.size wr w') => HP.out 1 (by decide) w' (HB.out.trans (hb'.mono HB.out.size)))
      have hrd := fun (w' : World) (hb' : Below wr.heap.size wr w') => HR.out 1 w' (HB.out.trans (hb'.mono HB.out.size))
      clear hrow hb hq0 hq1 hq2
      cases hfg : fget s.files (pth nm 1) with
      | none =>
        have hfn := file_none HDN.out (HN.out 1 (by decide)) hfg
        have hbn : readB s (pth nm 1) = [] := by unfold readB; rw [hfn.1]; rfl
        rw [hfn.1, hbn] at hrd
        have HRD := Lib.hid hrd
        have HFN := Lib.hid (show f 1 = none by rw [HF.out]; exact hfn.2)
        clear hrd hfn hbn hfg
        obtain ⟨P, hP⟩ : ∃ P, P = str (pth nm 1) := ⟨_, rfl⟩
        rw [← hP] at HPK HRD
        clear hP
        go_upto_region 4 with fail
        go_region_held3 (fun w' => w'.cell? ⟨g, 0, none⟩ = some (.pointer (some ⟨d, 0, none⟩)))
          (first
            | with_reducible assumption
            | exact HALL.out _ (Below.refl _ _)
            | exact HALL.out _ (Below.refl _ _).drew
            | exact HALL.out _ HB4.out
            | exact HALL.out _ HB5.out)
          (first
            | (go_at_call 44; refine (HPK.out _ (Below.refl _ _).drew).mono ?_; rintro e w4 ⟨rfl, hb4⟩
               have HB4 := Lib.hid (show Below wr.heap.size wr w4 from By.ext (Below.refl _ _).drew hb4)
               clear hb4)
            | (go_at_call 43; refine (HRD.out _ HB4.out).mono ?_; rintro e w5 ⟨vd, rfl, hod, hb5⟩
               have HB5 := Lib.hid (show Below wr.heap.size wr w5 from By.ext HB4.out hb5)
               obtain ⟨Ad, cd, rfl, hcd, -, -, hld, -⟩ := hod.form
               clear hb5 hod hld hcd))
        have HFIN := Lib.hid (show FRow L (fk f 2 0) (fk f 2 1) (fk f 2 2) w w5 from ⟨b0, c0, v0, b1, c1, v1, b2, c2, v2, (HB5.out.block _ HLL.out.2).trans HROW.out, by have h := HQ0.out.below HB5.out; rw [show fk f 2 0 = fk f 1 0 by unfold fk; rfl]; exact h, by have h := HQ1.out.below HB5.out; rw [show fk f 2 1 = fk f 1 1 by unfold fk; rw [if_pos (by decide), if_neg (by decide), HFN.out]]; exact h, by have h := HQ2.out.below HB5.out; rw [show fk f 2 2 = fk f 1 2 by unfold fk; rfl]; exact h, HB.out.trans (HB5.out.mono HB.out.size)⟩)
        go_wp2
        go_roundw
        case rel => exact ⟨2, by decide, rfl, HFIN.out⟩
        case measure => simp [intOf]
      | some B =>
        have hfs := file_some HDN.out (HN.out 1 (by decide)) hfg
        have hbl : B.length ≤ 4194304 := by have h := HBL.out (pth nm 1); unfold bytesOf at h; rw [hfg] at h; exact h
        rw [hfs.1, hfs.2.1] at hrd
        have HRD := Lib.hid hrd
        have HFN := Lib.hid (show f 1 = some (whole B) by rw [HF.out]; exact hfs.2.2)
        have HBB := Lib.hid hbl
        clear hrd hfs hfg hbl
        obtain ⟨P, hP⟩ : ∃ P, P = str (pth nm 1) := ⟨_, rfl⟩
        rw [← hP] at HPK HRD
        clear hP
        go_upto_region 4 with fail
        go_region_held3 (fun w' => w'.cell? ⟨g, 0, none⟩ = some (.pointer (some ⟨d, 0, none⟩)))
          (first
            | with_reducible assumption
            | exact HALL.out _ (Below.refl _ _)
            | exact HALL.out _ (Below.refl _ _).drew
            | exact HALL.out _ HB4.out
            | exact HALL.out _ HB5.out)
          (first
            | (go_at_call 44; refine (HPK.out _ (Below.refl _ _).drew).mono ?_; rintro e w4 ⟨rfl, hb4⟩
               have HB4 := Lib.hid (show Below wr.heap.size wr w4 from By.ext (Below.refl _ _).drew hb4)
               clear hb4)
            | (go_at_call 43; refine (HRD.out _ HB4.out).mono ?_; rintro e w5 ⟨vd, rfl, hod, hb5⟩
               have HB5 := Lib.hid (show Below wr.heap.size wr w5 from By.ext HB4.out hb5)
               obtain ⟨Ad, cd, rfl, hcd, -, -, hld, -⟩ := hod.form
               have HLD := Lib.hid hld
               have HCD := Lib.hid hcd
               clear hb5 hod hld hcd))
        have HTF := Lib.hid (toFile_any Ad B.length cd B w5 rfl HCD.out (by have := HBB.out; omega) HLD.out)
        go_wp2_with fail
        refine HTF.out.mono ?_
        rintro e w6 ⟨cc, vz, rfl, hcel, hb6⟩
        have HB6 := Lib.hid (By.ext HB5.out hb6)
        have HZ5 := Lib.hid HB5.out.size
        obtain ⟨Az, nz, cz, hvz⟩ : ∃ A n c, vz = .slice A n c := by
          obtain ⟨A', c', h, -⟩ := hcel.2.2.form
          exact ⟨_, _, _, h⟩
        subst hvz
        have HCEL := Lib.hid hcel
        have hr6 := (HB6.out.block _ HLL.out.2).trans HROW.out
        have HR6 := Lib.hid hr6
        have HFZ := Lib.hid (fun o => frozen_of_row w6 L o _ _ hr6)
        have hfz : ∀ o, w6.frozen? ⟨L, o, none⟩ = false := HFZ.out
        have k0 : w6.cell? ⟨L, 3, none⟩ = some (.bool b1) := (cell_of_row w6 _ 3 _ _ _ hr6).trans rfl
        have k1 : w6.cell? ⟨L, 4, none⟩ = some (.bool c1) := (cell_of_row w6 _ 4 _ _ _ hr6).trans rfl
        have k2 : w6.cell? ⟨L, 5, none⟩ = some v1 := (cell_of_row w6 _ 5 _ _ _ hr6).trans rfl
        have k3 : (w6.heap[L]?).isSome = true := by rw [hr6]; rfl
        have HFIN := Lib.hid (show FRow L (fk f 2 0) (fk f 2 1) (fk f 2 2) w (((w6.setCell ⟨L, 3, none⟩ (.bool true)).setCell ⟨L, 4, none⟩ (.bool cc)).setCell ⟨L, 5, none⟩ (.slice Az nz cz)) from by
          have hoth : ∀ b, L + 1 ≤ b → b < w6.heap.size → (((w6.setCell ⟨L, 3, none⟩ (.bool true)).setCell ⟨L, 4, none⟩ (.bool cc)).setCell ⟨L, 5, none⟩ (.slice Az nz cz)).heap[b]? = w6.heap[b]? := fun b hb _ =>
            (heap_setCell_other _ ⟨L, 5, none⟩ b _ (by show b ≠ L; omega)).trans ((heap_setCell_other _ ⟨L, 4, none⟩ b _ (by show b ≠ L; omega)).trans (heap_setCell_other _ ⟨L, 3, none⟩ b _ (by show b ≠ L; omega)))
          have hrw := Go.heap_setCell_same _ L 5 _ _ (.slice Az nz cz) (Go.heap_setCell_same _ L 4 _ _ (.bool cc) (Go.heap_setCell_same w6 L 3 _ _ (.bool true) HR6.out))
          have hL5 : L + 1 ≤ w5.heap.size := by have := HLL.out.2; have := HZ5.out; omega
          refine ⟨b0, c0, v0, true, cc, (.slice Az nz cz), b2, c2, v2, hrw, ?_, ?_, ?_, ?_⟩
          · rw [show fk f 2 0 = fk f 1 0 from rfl]; exact (HQ0.out.below HB6.out).far hoth
          · rw [show fk f 2 1 = some (whole B) by unfold fk; rw [if_pos (by decide), HFN.out]]; exact (HCEL.out.more hL5).far hoth
          · rw [show fk f 2 2 = fk f 1 2 from rfl]; exact (HQ2.out.below HB6.out).far hoth
          · have h0 : Below w.heap.size w w6 := HB.out.trans (HB6.out.mono HB.out.size)
            have hLe : w.heap.size ≤ L := by rw [HLL.out.1]; exact Nat.le_refl _
            exact nSet (nSet (nSet h0 ⟨L, 3, none⟩ hLe _) ⟨L, 4, none⟩ hLe _) ⟨L, 5, none⟩ hLe _)
        clear hr6 hcel hb6 HTF
        go_wp2
        go_roundw
        case rel => exact ⟨2, by decide, rfl, HFIN.out⟩
        case measure => simp [intOf]
    · replace hi : _ = Value.int .i64 2 := hi
      subst hi
      obtain ⟨b0, c0, v0, b1, c1, v1, b2, c2, v2, hrow, hq0, hq1, hq2, hb⟩ := hfr
      have HROW := Lib.hid hrow
      have HB := Lib.hid hb
      have HQ0 := Lib.hid hq0
      have HQ1 := Lib.hid hq1
      have HQ2 := Lib.hid hq2
      have HLL := Lib.hid (show L = w.heap.size ∧ L < wr.heap.size from ⟨HL.out, row_lt hrow⟩)
      have HALL := Lib.hid (fun (w' : World) (hb' : Below wr.heap.size wr w') => HC.out w' (HB.out.trans (hb'.mono HB.out.size)))
      have HPK := Lib.hid (fun (w' : World) (hb' : Below wr.heap.size wr w') => HP.out 2 (by decide) w' (HB.out.trans (hb'.mono HB.out.size)))
      have hrd := fun (w' : World) (hb' : Below wr.heap.size wr w') => HR.out 2 w' (HB.out.trans (hb'.mono HB.out.size))
      clear hrow hb hq0 hq1 hq2
      cases hfg : fget s.files (pth nm 2) with
      | none =>
        have hfn := file_none HDN.out (HN.out 2 (by decide)) hfg
        have hbn : readB s (pth nm 2) = [] := by unfold readB; rw [hfn.1]; rfl
        rw [hfn.1, hbn] at hrd
        have HRD := Lib.hid hrd
        have HFN := Lib.hid (show f 2 = none by rw [HF.out]; exact hfn.2)
        clear hrd hfn hbn hfg
        obtain ⟨P, hP⟩ : ∃ P, P = str (pth nm 2) := ⟨_, rfl⟩
        rw [← hP] at HPK HRD
        clear hP
        go_upto_region 4 with fail
        go_region_held3 (fun w' => w'.cell? ⟨g, 0, none⟩ = some (.pointer (some ⟨d, 0, none⟩)))
          (first
            | with_reducible assumption
            | exact HALL.out _ (Below.refl _ _)
            | exact HALL.out _ (Below.refl _ _).drew
            | exact HALL.out _ HB4.out
            | exact HALL.out _ HB5.out)
          (first
            | (go_at_call 44; refine (HPK.out _ (Below.refl _ _).drew).mono ?_; rintro e w4 ⟨rfl, hb4⟩
               have HB4 := Lib.hid (show Below wr.heap.size wr w4 from By.ext (Below.refl _ _).drew hb4)
               clear hb4)
            | (go_at_call 43; refine (HRD.out _ HB4.out).mono ?_; rintro e w5 ⟨vd, rfl, hod, hb5⟩
               have HB5 := Lib.hid (show Below wr.heap.size wr w5 from By.ext HB4.out hb5)
               obtain ⟨Ad, cd, rfl, hcd, -, -, hld, -⟩ := hod.form
               clear hb5 hod hld hcd))
        have HFIN := Lib.hid (show FRow L (fk f 3 0) (fk f 3 1) (fk f 3 2) w w5 from ⟨b0, c0, v0, b1, c1, v1, b2, c2, v2, (HB5.out.block _ HLL.out.2).trans HROW.out, by have h := HQ0.out.below HB5.out; rw [show fk f 3 0 = fk f 2 0 by unfold fk; rfl]; exact h, by have h := HQ1.out.below HB5.out; rw [show fk f 3 1 = fk f 2 1 by unfold fk; rfl]; exact h, by have h := HQ2.out.below HB5.out; rw [show fk f 3 2 = fk f 2 2 by unfold fk; rw [if_pos (by decide), if_neg (by decide), HFN.out]]; exact h, HB.out.trans (HB5.out.mono HB.out.size)⟩)
        go_wp2
        go_roundw
        case rel => exact ⟨3, by decide, rfl, HFIN.out⟩
        case measure => simp [intOf]
      | some B =>
        have hfs := file_some HDN.out (HN.out 2 (by decide)) hfg
        have hbl : B.length ≤ 4194304 := by have h := HBL.out (pth nm 2); unfold bytesOf at h; rw [hfg] at h; exact h
        rw [hfs.1, hfs.2.1] at hrd
        have HRD := Lib.hid hrd
        have HFN := Lib.hid (show f 2 = some (whole B) by rw [HF.out]; exact hfs.2.2)
        have HBB := Lib.hid hbl
        clear hrd hfs hfg hbl
        obtain ⟨P, hP⟩ : ∃ P, P = str (pth nm 2) := ⟨_, rfl⟩
        rw [← hP] at HPK HRD
        clear hP
        go_upto_region 4 with fail
        go_region_held3 (fun w' => w'.cell? ⟨g, 0, none⟩ = some (.pointer (some ⟨d, 0, none⟩)))
          (first
            | with_reducible assumption
            | exact HALL.out _ (Below.refl _ _)
            | exact HALL.out _ (Below.refl _ _).drew
            | exact HALL.out _ HB4.out
            | exact HALL.out _ HB5.out)
          (first
            | (go_at_call 44; refine (HPK.out _ (Below.refl _ _).drew).mono ?_; rintro e w4 ⟨rfl, hb4⟩
               have HB4 := Lib.hid (show Below wr.heap.size wr w4 from By.ext (Below.refl _ _).drew hb4)
               clear hb4)
            | (go_at_call 43; refine (HRD.out _ HB4.out).mono ?_; rintro e w5 ⟨vd, rfl, hod, hb5⟩
               have HB5 := Lib.hid (show Below wr.heap.size wr w5 from By.ext HB4.out hb5)
               obtain ⟨Ad, cd, rfl, hcd, -, -, hld, -⟩ := hod.form
               have HLD := Lib.hid hld
               have HCD := Lib.hid hcd
               clear hb5 hod hld hcd))
        have HTF := Lib.hid (toFile_any Ad B.length cd B w5 rfl HCD.out (by have := HBB.out; omega) HLD.out)
        go_wp2_with fail
        refine HTF.out.mono ?_
        rintro e w6 ⟨cc, vz, rfl, hcel, hb6⟩
        have HB6 := Lib.hid (By.ext HB5.out hb6)
        have HZ5 := Lib.hid HB5.out.size
        obtain ⟨Az, nz, cz, hvz⟩ : ∃ A n c, vz = .slice A n c := by
          obtain ⟨A', c', h, -⟩ := hcel.2.2.form
          exact ⟨_, _, _, h⟩
        subst hvz
        have HCEL := Lib.hid hcel
        have hr6 := (HB6.out.block _ HLL.out.2).trans HROW.out
        have HR6 := Lib.hid hr6
        have HFZ := Lib.hid (fun o => frozen_of_row w6 L o _ _ hr6)
        have hfz : ∀ o, w6.frozen? ⟨L, o, none⟩ = false := HFZ.out
        have k0 : w6.cell? ⟨L, 6, none⟩ = some (.bool b2) := (cell_of_row w6 _ 6 _ _ _ hr6).trans rfl
        have k1 : w6.cell? ⟨L, 7, none⟩ = some (.bool c2) := (cell_of_row w6 _ 7 _ _ _ hr6).trans rfl
        have k2 : w6.cell? ⟨L, 8, none⟩ = some v2 := (cell_of_row w6 _ 8 _ _ _ hr6).trans rfl
        have k3 : (w6.heap[L]?).isSome = true := by rw [hr6]; rfl
        have HFIN := Lib.hid (show FRow L (fk f 3 0) (fk f 3 1) (fk f 3 2) w (((w6.setCell ⟨L, 6, none⟩ (.bool true)).setCell ⟨L, 7, none⟩ (.bool cc)).setCell ⟨L, 8, none⟩ (.slice Az nz cz)) from by
          have hoth : ∀ b, L + 1 ≤ b → b < w6.heap.size → (((w6.setCell ⟨L, 6, none⟩ (.bool true)).setCell ⟨L, 7, none⟩ (.bool cc)).setCell ⟨L, 8, none⟩ (.slice Az nz cz)).heap[b]? = w6.heap[b]? := fun b hb _ =>
            (heap_setCell_other _ ⟨L, 8, none⟩ b _ (by show b ≠ L; omega)).trans ((heap_setCell_other _ ⟨L, 7, none⟩ b _ (by show b ≠ L; omega)).trans (heap_setCell_other _ ⟨L, 6, none⟩ b _ (by show b ≠ L; omega)))
          have hrw := Go.heap_setCell_same _ L 8 _ _ (.slice Az nz cz) (Go.heap_setCell_same _ L 7 _ _ (.bool cc) (Go.heap_setCell_same w6 L 6 _ _ (.bool true) HR6.out))
          have hL5 : L + 1 ≤ w5.heap.size := by have := HLL.out.2; have := HZ5.out; omega
          refine ⟨b0, c0, v0, b1, c1, v1, true, cc, (.slice Az nz cz), hrw, ?_, ?_, ?_, ?_⟩
          · rw [show fk f 3 0 = fk f 2 0 from rfl]; exact (HQ0.out.below HB6.out).far hoth
          · rw [show fk f 3 1 = fk f 2 1 from rfl]; exact (HQ1.out.below HB6.out).far hoth
          · rw [show fk f 3 2 = some (whole B) by unfold fk; rw [if_pos (by decide), HFN.out]]; exact (HCEL.out.more hL5).far hoth
          · have h0 : Below w.heap.size w w6 := HB.out.trans (HB6.out.mono HB.out.size)
            have hLe : w.heap.size ≤ L := by rw [HLL.out.1]; exact Nat.le_refl _
            exact nSet (nSet (nSet h0 ⟨L, 6, none⟩ hLe _) ⟨L, 7, none⟩ hLe _) ⟨L, 8, none⟩ hLe _)
        clear hr6 hcel hb6 HTF
        go_wp2
        go_roundw
        case rel => exact ⟨3, by decide, rfl, HFIN.out⟩
        case measure => simp [intOf]
    · replace hi : _ = Value.int .i64 3 := hi
      subst hi
      obtain ⟨b0, c0, v0, b1, c1, v1, b2, c2, v2, hrow, hq0, hq1, hq2, hb⟩ := hfr
      have HLL := Lib.hid (show w.heap.size ≤ L by rw [HL.out]; exact Nat.le_refl _)
      obtain ⟨X0, n0, m0, hv⟩ : ∃ A n c, v0 = .slice A n c := by obtain ⟨A', c', h, -⟩ := hq0.2.2.form; exact ⟨_, _, _, h⟩
      subst hv
      obtain ⟨X1, n1, m1, hv⟩ : ∃ A n c, v1 = .slice A n c := by obtain ⟨A', c', h, -⟩ := hq1.2.2.form; exact ⟨_, _, _, h⟩
      subst hv
      obtain ⟨X2, n2, m2, hv⟩ : ∃ A n c, v2 = .slice A n c := by obtain ⟨A', c', h, -⟩ := hq2.2.2.form; exact ⟨_, _, _, h⟩
      subst hv
      have HROW := Lib.hid hrow
      have HFIN := Lib.hid (show FilesPost f w (.returned (.tuple #[.agg (filC b0 c0 (.slice X0 n0 m0) b1 c1 (.slice X1 n1 m1) b2 c2 (.slice X2 n2 m2)), .int .i64 0])) (((((((((wr.setCell ⟨L, 0, none⟩ (.bool b0)).setCell ⟨L, 1, none⟩ (.bool c0)).setCell ⟨L, 2, none⟩ (.slice X0 n0 m0)).setCell ⟨L, 3, none⟩ (.bool b1)).setCell ⟨L, 4, none⟩ (.bool c1)).setCell ⟨L, 5, none⟩ (.slice X1 n1 m1)).setCell ⟨L, 6, none⟩ (.bool b2)).setCell ⟨L, 7, none⟩ (.bool c2)).setCell ⟨L, 8, none⟩ (.slice X2 n2 m2)) from by
        have hoth : ∀ b, L + 1 ≤ b → b < wr.heap.size → (((((((((wr.setCell ⟨L, 0, none⟩ (.bool b0)).setCell ⟨L, 1, none⟩ (.bool c0)).setCell ⟨L, 2, none⟩ (.slice X0 n0 m0)).setCell ⟨L, 3, none⟩ (.bool b1)).setCell ⟨L, 4, none⟩ (.bool c1)).setCell ⟨L, 5, none⟩ (.slice X1 n1 m1)).setCell ⟨L, 6, none⟩ (.bool b2)).setCell ⟨L, 7, none⟩ (.bool c2)).setCell ⟨L, 8, none⟩ (.slice X2 n2 m2)).heap[b]? = wr.heap[b]? := fun b hb0 _ => by
          have hb : b ≠ L := by omega
          exact ((heap_setCell_other _ ⟨L, 8, none⟩ b _ hb).trans ((heap_setCell_other _ ⟨L, 7, none⟩ b _ hb).trans ((heap_setCell_other _ ⟨L, 6, none⟩ b _ hb).trans ((heap_setCell_other _ ⟨L, 5, none⟩ b _ hb).trans ((heap_setCell_other _ ⟨L, 4, none⟩ b _ hb).trans ((heap_setCell_other _ ⟨L, 3, none⟩ b _ hb).trans ((heap_setCell_other _ ⟨L, 2, none⟩ b _ hb).trans ((heap_setCell_other _ ⟨L, 1, none⟩ b _ hb).trans (heap_setCell_other _ ⟨L, 0, none⟩ b _ hb)))))))))
        have hLe := HLL.out
        have hb0 := hb
        refine ⟨_, _, _, _, _, _, _, _, _, rfl, (hq0.far hoth).more (by omega), (hq1.far hoth).more (by omega), (hq2.far hoth).more (by omega), ?_⟩
        exact (nSet (nSet (nSet (nSet (nSet (nSet (nSet (nSet (nSet hb0 ⟨L, 0, none⟩ hLe _) ⟨L, 1, none⟩ hLe _) ⟨L, 2, none⟩ hLe _) ⟨L, 3, none⟩ hLe _) ⟨L, 4, none⟩ hLe _) ⟨L, 5, none⟩ hLe _) ⟨L, 6, none⟩ hLe _) ⟨L, 7, none⟩ hLe _) ⟨L, 8, none⟩ hLe _))
      have HFR := Lib.hid (set_same 8 (.slice X2 n2 m2) (set_same 7 (.bool c2) (set_same 6 (.bool b2) (set_same 5 (.slice X1 n1 m1) (set_same 4 (.bool c1) (set_same 3 (.bool b1) (set_same 2 (.slice X0 n0 m0) (set_same 1 (.bool c0) (set_same 0 (.bool b0) HROW.out rfl) rfl) rfl) rfl) rfl) rfl) rfl) rfl) rfl)
      clear hrow hb hq0 hq1 hq2
      have hfz : ∀ o, wr.frozen? ⟨L, o, none⟩ = false := fun o => frozen_of_row wr L o _ _ HROW.out
      have k0 : wr.cell? ⟨L, 0, none⟩ = some (.bool b0) := (cell_of_row wr _ 0 _ _ _ HROW.out).trans rfl
      have k1 : wr.cell? ⟨L, 1, none⟩ = some (.bool c0) := (cell_of_row wr _ 1 _ _ _ HROW.out).trans rfl
      have k2 : wr.cell? ⟨L, 2, none⟩ = some (.slice X0 n0 m0) := (cell_of_row wr _ 2 _ _ _ HROW.out).trans rfl
      have k3 : wr.cell? ⟨L, 3, none⟩ = some (.bool b1) := (cell_of_row wr _ 3 _ _ _ HROW.out).trans rfl
      have k4 : wr.cell? ⟨L, 4, none⟩ = some (.bool c1) := (cell_of_row wr _ 4 _ _ _ HROW.out).trans rfl
      have k5 : wr.cell? ⟨L, 5, none⟩ = some (.slice X1 n1 m1) := (cell_of_row wr _ 5 _ _ _ HROW.out).trans rfl
      have k6 : wr.cell? ⟨L, 6, none⟩ = some (.bool b2) := (cell_of_row wr _ 6 _ _ _ HROW.out).trans rfl
      have k7 : wr.cell? ⟨L, 7, none⟩ = some (.bool c2) := (cell_of_row wr _ 7 _ _ _ HROW.out).trans rfl
      have k8 : wr.cell? ⟨L, 8, none⟩ = some (.slice X2 n2 m2) := (cell_of_row wr _ 8 _ _ _ HROW.out).trans rfl
      have k9 : (wr.heap[L]?).isSome = true := by rw [HROW.out]; rfl
      go_wp2
      exact bodyPost_ret (ret_files (a := filC b0 c0 (.slice X0 n0 m0) b1 c1 (.slice X1 n1 m1) b2 c2 (.slice X2 n2 m2)) rfl rfl rfl HFR.out) rfl HFIN.out
end Go.Proofs.YtjnmolpopjapnaaDoor.So
