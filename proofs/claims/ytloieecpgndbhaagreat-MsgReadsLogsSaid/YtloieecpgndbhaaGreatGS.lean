/- Package scupperref03's OwnEntries and OwnShot. Written by genown2.py. -/
import Derived.Test.YtloieecpgndbhaaGreatKnF
import Derived.Test.YtloieecpgndbhaaGreatKnD
import Derived.Deep.DeepCutAuto
namespace Go.Proofs.YtloieecpgndbhaaGreat.Kd
open Go.RowKit By CoP Co Mo

theorem udE : Tryz.prog.underlying 25 = Tryz.prog.underlying 25 := rfl
theorem iE : (Tryz.prog.info? 25).map (·.size) = some 5 := by kernel_rfl
set_option maxRecDepth 100000 in
set_option maxHeartbeats 4000000 in
theorem ownEntries_any {A : Option Addr} {n c : Nat} {ds : List Data} {most : Int} (w : World) (hrep : (listK entryK most).rep w (Old w) [.slice A n c] (.agg ds)) (hn : n ≤ 9437184) :
    Calls Tryz.prog 12 #[.slice A n c] w (fun e w' => ∃ v, e = .returned v ∧ (listK entryK most).rep w' (New w w') [v] (.agg ds) ∧ Below w.heap.size w w') := by
  obtain ⟨A', c', ds', e1, e2, hc, hm, hl⟩ := hrep
  obtain rfl := Data.agg.inj e2
  simp only [List.cons.injEq, Value.slice.injEq, and_true] at e1
  obtain ⟨rfl, rfl, rfl⟩ := e1
  have HL := Lib.hid hl
  clear hl
  go_enter Tryz.func12, Tryz.ntmps12
  go_wp2
  go_loopw [3, 4] (fun sv i wr => ∃ (j : Nat) (rows : List Value), j ≤ ds.length ∧ i = .int .i64 (j : Int) ∧ Below w.heap.size w wr ∧ wr.ownsRow w.heap.size 25 5 sv j rows ∧ Items entryK w wr sv rows (ds.take j)) (fun _ i _ => ds.length - (intOf i).toNat)
  case atStart => exact ⟨0, [], Nat.zero_le _, rfl, Below.refl _ _, World.ownsRow_nil _ _ _ _, Items.nil _ _ _ _ _⟩
  case round =>
    obtain ⟨j, rows, hj, rfl, hbr, hown, hit⟩ := hrel
    by_cases hjn : j < ds.length
    · obtain ⟨g, o, rfl, hg, hcells⟩ := HL.out (by omega)
      obtain ⟨d, hdj⟩ : ∃ d, ds[j]? = some d := ⟨_, List.getElem?_eq_getElem hjn⟩
      obtain ⟨vs, hv, hrd⟩ := hcells j d hdj
      have HTK := Lib.hid (show ds.take (j + 1) = ds.take j ++ [d] by rw [List.take_add_one, hdj]; rfl)
      obtain ⟨ix, tm, kd, dl, Ad, cd, da, rfl, hd, b1, b2, b3, b4, b5, b6, hlies⟩ := entry_shape hv
      have hcell : ∀ (q : Nat) (v : Value), #[.int .u64 (ix : Int), .int .u64 (tm : Int), .int .i64 kd, .int .i64 dl, .slice Ad da.length cd].toList[q]? = some v → wr.cell? ⟨g, o + j * 5 + q, none⟩ = some v := fun q v h => (hbr.cell (p := ⟨g, o + j * 5 + q, none⟩) (block_lt_of_cell (hrd q v h))).trans (hrd q v h)
      have x0 : wr.cell? ⟨g, o + j * 5, none⟩ = some (.int .u64 (ix : Int)) := hcell 0 _ rfl
      have x1 : wr.cell? ⟨g, o + j * 5 + 1, none⟩ = some (.int .u64 (tm : Int)) := hcell 1 _ rfl
      have x2 : wr.cell? ⟨g, o + j * 5 + 2, none⟩ = some (.int .i64 kd) := hcell 2 _ rfl
      have x3 : wr.cell? ⟨g, o + j * 5 + 3, none⟩ = some (.int .i64 dl) := hcell 3 _ rfl
      have x4 : wr.cell? ⟨g, o + j * 5 + 4, none⟩ = some (.slice Ad da.length cd) := hcell 4 _ rfl
      obtain ⟨A0, c0, rfl, hjc, _, _⟩ := owns_form hown
      have hb1 : Below wr.heap.size wr (wr.alloc (.cells #[.int .u64 (ix : Int), .int .u64 (tm : Int), .int .i64 kd, .int .i64 dl, .slice Ad da.length cd] 25)) := (Below.refl _ _).alloc (Nat.le_refl _) _
      have hr1 : (wr.alloc (.cells #[.int .u64 (ix : Int), .int .u64 (tm : Int), .int .i64 kd, .int .i64 dl, .slice Ad da.length cd] 25)).heap[wr.heap.size]? = some (.cells #[.int .u64 (ix : Int), .int .u64 (tm : Int), .int .i64 kd, .int .i64 dl, .slice Ad da.length cd] 25 (0, 0)) := heap_alloc_new wr _
      have HB1 := Lib.hid hb1
      have HR1 := Lib.hid hr1
      have HBR := Lib.hid hbr
      have HOWN := Lib.hid hown
      have HIT := Lib.hid hit
      have HD := Lib.hid hd
      have HLD := Lib.hid (hlies.lies.below hbr)
      have HP := Lib.hid (And.intro b1 (And.intro b2 (And.intro b3 b4)))
      have HDJ := Lib.hid hdj
      clear hb1 hr1 hbr hown hit hd hlies hcell hrd hv hcells b1 b2 b3 b4 hdj
      go_upto_region 6 with fail
      generalize wr.alloc (.cells #[.int .u64 (ix : Int), .int .u64 (tm : Int), .int .i64 kd, .int .i64 dl, .slice Ad da.length cd] 25) = w1 at HB1 HR1 ⊢
      clear x0 x1 x2 x3 x4
      have hz1 := HB1.out.size
      have hlt1 := row_lt HR1.out
      have hoa := Own.made w1 w1.heap.size #[] 0 (Nat.le_refl _) (by decide) rfl
      have hc4 : (w1.alloc (.cells #[] 5)).cell? ⟨wr.heap.size, 4, none⟩ = some (.slice Ad da.length cd) := by rw [World.cell?_alloc_lt w1 _ ⟨wr.heap.size, 4, none⟩ hlt1, cell_of_row w1 wr.heap.size 4 _ _ _ HR1.out]; rfl
      have hzw := HBR.out.size
      go_wp2_with (at_builtin; (refine wpList_app rfl (.tmp 16) (.tmp 18) rfl rfl hoa rfl rfl ((HLD.out.below (HB1.out.mono (by omega))).alloc (by omega) _) ?cs ?cb ?_))
      case cs => simp; omega
      case cb => rw [World.size_alloc]; omega
      intro v2 w2 ho2 hb2 _
      try rw [List.nil_append] at ho2
      obtain ⟨A2, c2, rfl, hc2, _, _, _, hk2⟩ := ho2.form
      have hb2' : Below w1.heap.size w1 w2 := ((Below.refl w1.heap.size w1).alloc (Nat.le_refl _) (.cells #[] 5)).trans hb2
      have hr2 := (hb2'.block _ hlt1).trans HR1.out
      have hf2 : w2.frozen? ⟨wr.heap.size, 4, none⟩ = false := frozen_of_row w2 _ 4 _ _ hr2
      have hc24 : w2.cell? ⟨wr.heap.size, 4, none⟩ = some (.slice Ad da.length cd) := by rw [cell_of_row w2 wr.heap.size 4 _ _ _ hr2]; rfl
      have hr3 : (w2.setCell ⟨wr.heap.size, 4, none⟩ (.slice A2 da.length c2)).heap[wr.heap.size]? = some (.cells #[.int .u64 (ix : Int), .int .u64 (tm : Int), .int .i64 kd, .int .i64 dl, .slice A2 da.length c2] 25 (0, 0)) := heap_setCell_same w2 wr.heap.size 4 _ _ _ hr2
      have hg3 : wr.grownBy (w2.setCell ⟨wr.heap.size, 4, none⟩ (.slice A2 da.length c2)) none := grown_of_below ((HB1.out.trans (hb2'.mono hz1)).setCell (p := ⟨wr.heap.size, 4, none⟩) (Nat.le_refl _) _) none
      have hli3 : LiesS (w2.setCell ⟨wr.heap.size, 4, none⟩ (.slice A2 da.length c2)) (fun b => w1.heap.size ≤ b ∧ b < w2.heap.size) A2 da := (LiesS.own ho2).keep (fun b hb => heap_setCell_other w2 ⟨wr.heap.size, 4, none⟩ b _ (by show b ≠ wr.heap.size; have := hb.1; omega)) (fun _ h => h)
      have HR3 := Lib.hid hr3
      have HG3 := Lib.hid hg3
      have HL3 := Lib.hid hli3
      have HO3 := Lib.hid (HOWN.out.kept hg3 (by cases hv : (Value.slice A0 j c0).ownBlock <;> simp))
      have hz2 := hb2'.size
      have hz3 : (w2.setCell ⟨wr.heap.size, 4, none⟩ (.slice A2 da.length c2)).heap.size = w2.heap.size := size_setCell' _ _ _
      have hj1 : j + 1 ≤ 9437185 := by omega
      clear hb2 hb2' hr2 hr3 hg3 hli3 ho2 hk2 hoa hc4
      go_upto_region 7 with fail
      generalize w2.setCell ⟨wr.heap.size, 4, none⟩ (.slice A2 da.length c2) = w5 at HR3 HG3 HL3 HO3 hz3 ⊢
      have hr3 := HR3.out
      have y0 : w5.cell? ⟨wr.heap.size, 0, none⟩ = some (.int .u64 (ix : Int)) := by rw [cell_of_row _ wr.heap.size 0 _ _ _ hr3]; rfl
      have y1 : w5.cell? ⟨wr.heap.size, 1, none⟩ = some (.int .u64 (tm : Int)) := by rw [cell_of_row _ wr.heap.size 1 _ _ _ hr3]; rfl
      have y2 : w5.cell? ⟨wr.heap.size, 2, none⟩ = some (.int .i64 kd) := by rw [cell_of_row _ wr.heap.size 2 _ _ _ hr3]; rfl
      have y3 : w5.cell? ⟨wr.heap.size, 3, none⟩ = some (.int .i64 dl) := by rw [cell_of_row _ wr.heap.size 3 _ _ _ hr3]; rfl
      have y4 : w5.cell? ⟨wr.heap.size, 4, none⟩ = some (.slice A2 da.length c2) := by rw [cell_of_row _ wr.heap.size 4 _ _ _ hr3]; rfl
      have HZ3 := Lib.hid hz3
      have hwr5 : w.heap.size ≤ w5.heap.size := by omega
      clear hr3 hz3 hf2 hc24
      go_wp2_with (at_builtin; (refine wpList_pushE rfl (.tmp 21) (.tmp 23) rfl (v := .slice A0 j c0) (news := [.int .u64 (ix : Int), .int .u64 (tm : Int), .int .i64 kd, .int .i64 dl, .slice A2 da.length c2]) rfl HO3.out rfl rfl (by simp [Value.oneCell']) hj1 hwr5 ?_))
      intro v4 w4 ho4 hg4 hk4
      have HO4 := Lib.hid ho4
      have HG4 := Lib.hid hg4
      have HK4 := Lib.hid hk4
      clear ho4 hg4 hk4
      go_wp2
      go_roundw
      case rel =>
        have hg4 := HG4.out
        have hz3 := HZ3.out
        have hlt := HOWN.out.lt
        have hz4 := hg4.size
        rw [World.size_alloc, hz3] at hz4
        have hbA : Below w.heap.size w w5 := HBR.out.grown HG3.out hzw (fun k e => by cases e)
        refine ⟨j + 1, _, by omega, by go_num, (hbA.alloc (by rw [hz3]; omega) _).grown hg4 (by rw [World.size_alloc, hz3]; omega) (fun k e => (hlt k e).1), HO4.out, ?_⟩
        rw [HTK.out]
        have hblk : ∀ b, b < w2.heap.size → some b ≠ (Value.slice A0 j c0).ownBlock → w4.heap[b]? = w5.heap[b]? := fun b h1 h2 => (hg4.block b (by rw [World.size_alloc, hz3]; omega) h2).trans (heap_alloc_old _ _ (by rw [hz3]; exact h1))
        refine Items.push entryK_ok HIT.out (by rw [HOWN.out.1, List.length_take, Nat.min_eq_left hj]; rfl) (by omega) (fun b h1 h2 => ?_) ?_ ?_
        · exact (hblk b (by have := h1.2; omega) h2).trans (HG3.out.block b h1.2 (fun e => by cases e))
        · rcases HK4.out with e | e
          · exact .inl e
          · exact .inr ⟨_, by rw [hz3]; omega, e⟩
        · rw [HD.out]
          refine entry_rep HP.out.1 HP.out.2.1 HP.out.2.2.1 HP.out.2.2.2 hc2 b6 (HL3.out.keep (fun b h1 => hblk b h1.2 (fun e => by have := (hlt b e.symm).2; have := h1.1; omega)) (fun b h1 => ⟨⟨by have := h1.1; omega, by have := h1.2; omega⟩, fun e => ?_⟩))
          rcases HK4.out with e2 | e2
          · have := (hlt b ((e.trans e2).symm)).2
            have := h1.1
            omega
          · have h3 := Option.some.inj (e.trans e2)
            rw [hz3] at h3
            have := h1.2
            omega
      case measure => simp [intOf]; omega
    · obtain rfl : j = ds.length := by omega
      rw [List.take_length] at hit
      have HREP := Lib.hid (hit.rep entryK_ok hown (by omega) most)
      have HBR := Lib.hid hbr
      clear hit hown hbr
      have hnl : ¬ (ds.length : Int) < (ds.length : Int) := by omega
      go_wp2
      go_ret
      exact ⟨_, rfl, HREP.out, HBR.out⟩
theorem iS : (Tryz.prog.info? 30).map (·.size) = some 5 := by kernel_rfl
theorem shot_rep {w : World} {S : Nat → Prop} {ix tm : Nat} {ys : List Value} {d : Data} {A3 : Option Addr} {c3 : Nat} {da : List UInt8} (h1 : ix < 18446744073709551616) (h2 : tm < 18446744073709551616) (hy : confK.rep w S ys d)
    (hc : da.length ≤ c3) (hm : da.length ≤ 140737488355328) (hl : LiesS w S A3 da) : shotK.rep w S ([.int .u64 (ix : Int), .int .u64 (tm : Int)] ++ ys ++ [.slice A3 da.length c3]) (.agg [.lit (.int .u64 (ix : Int)), .lit (.int .u64 (tm : Int)), d, .lit (.string da)]) :=
  ⟨_, rfl, [.int .u64 (ix : Int)], _, _, _, by simp, rfl, ⟨ix, h1, rfl, rfl⟩, [.int .u64 (tm : Int)], _, _, _, rfl, rfl, ⟨tm, h2, rfl, rfl⟩, ys, _, _, _, rfl, rfl, hy, _, _, _, _, rfl, rfl, ⟨A3, c3, da, rfl, rfl, hc, hm, hl⟩, rfl, rfl⟩
set_option maxRecDepth 100000 in
set_option maxHeartbeats 4000000 in
theorem ownShot_any {xs : List Value} {d : Data} (w : World) (hrep : shotK.rep w (Old w) xs d) (hs : (shotK.put d).length ≤ 9437184) : Calls Tryz.prog 16 #[.agg xs.toArray] w (Owned shotK d w) := by
  obtain ⟨ix, tm, A, c, l, A2, c2, l2, A3, c3, da, rfl, rfl, h1, h2, _, _, _, _, _, _, h3, h4, h5, hcf⟩ := shot_shape hrep
  have hsc : (confK.put (confD l l2)).length ≤ 9437184 := by
    rw [shot_put] at hs
    rw [conf_put]
    simp only [putShot, List.length_append] at hs
    omega
  obtain ⟨W, hW⟩ : ∃ W, W = (w.alloc (.cells #[.int .u64 (ix : Int), .int .u64 (tm : Int), .slice A l.length c, .slice A2 l2.length c2, .slice A3 da.length c3] 30)).alloc (.cells #[.int .u64 0, .int .u64 0, .slice none 0 0, .slice none 0 0, .slice none 0 0] 30) := ⟨_, rfl⟩
  have hbW : Below w.heap.size w W := by rw [hW]; exact ((Below.refl _ _).alloc (Nat.le_refl _) _).alloc (by simp) _
  have hzW : W.heap.size = w.heap.size + 1 + 1 := by rw [hW]; simp
  have hr1 : W.heap[w.heap.size]? = some (.cells #[.int .u64 (ix : Int), .int .u64 (tm : Int), .slice A l.length c, .slice A2 l2.length c2, .slice A3 da.length c3] 30 (0, 0)) := by rw [hW]; exact heap_alloc2_old w _ _
  have hr2 : W.heap[w.heap.size + 1]? = some (.cells #[.int .u64 0, .int .u64 0, .slice none 0 0, .slice none 0 0, .slice none 0 0] 30 (0, 0)) := by rw [hW]; exact heap_alloc2_new w _ _
  have hx2 : W.cell? ⟨w.heap.size, 2, none⟩ = some (.slice A l.length c) := by rw [cell_of_row W _ 2 _ _ _ hr1]; rfl
  have hx3 : W.cell? ⟨w.heap.size, 2 + 1, none⟩ = some (.slice A2 l2.length c2) := by rw [cell_of_row W _ 3 _ _ _ hr1]; rfl
  have hx3' : W.cell? ⟨w.heap.size, 3, none⟩ = some (.slice A2 l2.length c2) := by rw [cell_of_row W _ 3 _ _ _ hr1]; rfl
  have hcall := ownConf_any W (confK_ok.below hcf hbW) hsc
  have HC := Lib.hid hcall
  have HBW := Lib.hid hbW
  have HZW := Lib.hid hzW
  have HR1 := Lib.hid hr1
  have HR2 := Lib.hid hr2
  have H5 := Lib.hid h5
  clear hcall hbW hzW hr1 hr2 h5 hcf hrep hs hsc
  go_enter Tryz.func16, Tryz.ntmps16
  go_wp2_with fail
  rw [← hW]
  clear hW
  refine HC.out.mono ?_
  rintro e w1 ⟨ys, rfl, hy, hb1⟩
  obtain ⟨ys⟩ := ys
  have hy0 := hy
  obtain ⟨_, _, hcc⟩ := hy0
  obtain ⟨_, _, _, _, e1, _, ⟨Ay, cy, dy, rfl, _, _, _, _⟩, _, _, _, _, rfl, _, ⟨Az, cz, dz, rfl, _, _, _, _⟩, rfl, _⟩ := hcc
  have e2 : ys = [.slice Ay dy.length cy, .slice Az dz.length cz] := e1
  subst e2
  generalize dy.length = ny at hy ⊢
  generalize dz.length = nz at hy ⊢
  have hzW := HZW.out
  have hz1 := hb1.size
  have hr1 := (hb1.block w.heap.size (row_lt HR1.out)).trans HR1.out
  have hr2 := (hb1.block (w.heap.size + 1) (row_lt HR2.out)).trans HR2.out
  have y2 : w1.cell? ⟨w.heap.size, 2, none⟩ = some (.slice A l.length c) := by rw [cell_of_row w1 _ 2 _ _ _ hr1]; rfl
  have y3 : w1.cell? ⟨w.heap.size, 3, none⟩ = some (.slice A2 l2.length c2) := by rw [cell_of_row w1 _ 3 _ _ _ hr1]; rfl
  have z2 : w1.frozen? ⟨w.heap.size, 2, none⟩ = false := frozen_of_row w1 _ 2 _ _ hr1
  have z3 : w1.frozen? ⟨w.heap.size, 3, none⟩ = false := frozen_of_row w1 _ 3 _ _ hr1
  have hrL : ((w1.setCell ⟨w.heap.size, 2, none⟩ (.slice Ay ny cy)).setCell ⟨w.heap.size, 3, none⟩ (.slice Az nz cz)).heap[w.heap.size]? = some (.cells #[.int .u64 (ix : Int), .int .u64 (tm : Int), .slice Ay ny cy, .slice Az nz cz, .slice A3 da.length c3] 30 (0, 0)) := heap_setCell_same _ w.heap.size 3 _ _ _ (heap_setCell_same w1 w.heap.size 2 _ _ _ hr1)
  have hr2L : ((w1.setCell ⟨w.heap.size, 2, none⟩ (.slice Ay ny cy)).setCell ⟨w.heap.size, 3, none⟩ (.slice Az nz cz)).heap[w.heap.size + 1]? = some (.cells #[.int .u64 0, .int .u64 0, .slice none 0 0, .slice none 0 0, .slice none 0 0] 30 (0, 0)) := (heap_setCell_other _ ⟨w.heap.size, 3, none⟩ _ _ (by show w.heap.size + 1 ≠ w.heap.size; omega)).trans ((heap_setCell_other _ ⟨w.heap.size, 2, none⟩ _ _ (by show w.heap.size + 1 ≠ w.heap.size; omega)).trans hr2)
  have hbL : Below w.heap.size w ((w1.setCell ⟨w.heap.size, 2, none⟩ (.slice Ay ny cy)).setCell ⟨w.heap.size, 3, none⟩ (.slice Az nz cz)) := ((HBW.out.trans (hb1.mono HBW.out.size)).setCell (p := ⟨w.heap.size, 2, none⟩) (Nat.le_refl _) _).setCell (p := ⟨w.heap.size, 3, none⟩) (Nat.le_refl _) _
  have hzL : ((w1.setCell ⟨w.heap.size, 2, none⟩ (.slice Ay ny cy)).setCell ⟨w.heap.size, 3, none⟩ (.slice Az nz cz)).heap.size = w1.heap.size := by rw [size_setCell', size_setCell']
  have hyL : confK.rep ((w1.setCell ⟨w.heap.size, 2, none⟩ (.slice Ay ny cy)).setCell ⟨w.heap.size, 3, none⟩ (.slice Az nz cz)) (New W w1) [.slice Ay ny cy, .slice Az nz cz] (confD l l2) := confK_ok.keep hy (fun b hb => (heap_setCell_other _ ⟨w.heap.size, 3, none⟩ b _ (by show b ≠ w.heap.size; have := hb.1; omega)).trans (heap_setCell_other _ ⟨w.heap.size, 2, none⟩ b _ (by show b ≠ w.heap.size; have := hb.1; omega))) (fun _ h => h)
  have hoa : Own w1.heap.size (((w1.setCell ⟨w.heap.size, 2, none⟩ (.slice Ay ny cy)).setCell ⟨w.heap.size, 3, none⟩ (.slice Az nz cz)).alloc (.cells #[] 5)) (.slice (some ⟨w1.heap.size, 0, none⟩) 0 0) [] := by
    have h := Own.made ((w1.setCell ⟨w.heap.size, 2, none⟩ (.slice Ay ny cy)).setCell ⟨w.heap.size, 3, none⟩ (.slice Az nz cz)) ((w1.setCell ⟨w.heap.size, 2, none⟩ (.slice Ay ny cy)).setCell ⟨w.heap.size, 3, none⟩ (.slice Az nz cz)).heap.size #[] 0 (Nat.le_refl _) (by decide) rfl
    rw [hzL] at h
    exact h
  have hc4 : (((w1.setCell ⟨w.heap.size, 2, none⟩ (.slice Ay ny cy)).setCell ⟨w.heap.size, 3, none⟩ (.slice Az nz cz)).alloc (.cells #[] 5)).cell? ⟨w.heap.size, 4, none⟩ = some (.slice A3 da.length c3) := by rw [World.cell?_alloc_lt _ _ ⟨w.heap.size, 4, none⟩ (row_lt hrL), cell_of_row _ w.heap.size 4 _ _ _ hrL]; rfl
  have hld := (H5.out.below hbL).alloc (by rw [hzL]; omega) (.cells #[] 5)
  have HRL := Lib.hid hrL
  have HR2L := Lib.hid hr2L
  have HBL := Lib.hid hbL
  have HYL := Lib.hid hyL
  have HZL := Lib.hid hzL
  clear hrL hr2L hbL hyL hy hb1 hr1 hr2 hzL e1
  go_wp2_with (at_builtin; (refine wpList_app rfl (.tmp 7) (.tmp 9) rfl rfl hoa rfl rfl hld ?cs ?cb ?_))
  case cs => simp; omega
  case cb => rw [World.size_alloc, HZL.out]; omega
  intro v2 w2 ho2 hb2 _
  rw [← HZL.out] at hb2
  try rw [List.nil_append] at ho2
  obtain ⟨A4, c4, rfl, hc4', _, _, _, _⟩ := ho2.form
  have hzL := HZL.out
  have hb2' : Below ((w1.setCell ⟨w.heap.size, 2, none⟩ (.slice Ay ny cy)).setCell ⟨w.heap.size, 3, none⟩ (.slice Az nz cz)).heap.size ((w1.setCell ⟨w.heap.size, 2, none⟩ (.slice Ay ny cy)).setCell ⟨w.heap.size, 3, none⟩ (.slice Az nz cz)) w2 := ((Below.refl _ _).alloc (Nat.le_refl _) (.cells #[] 5)).trans hb2
  have hr4 := (hb2'.block _ (row_lt HRL.out)).trans HRL.out
  have hr24 := (hb2'.block _ (row_lt HR2L.out)).trans HR2L.out
  have u4 : w2.cell? ⟨w.heap.size, 4, none⟩ = some (.slice A3 da.length c3) := by rw [cell_of_row w2 _ 4 _ _ _ hr4]; rfl
  have v4 : w2.frozen? ⟨w.heap.size, 4, none⟩ = false := frozen_of_row w2 _ 4 _ _ hr4
  have hr5 : (w2.setCell ⟨w.heap.size, 4, none⟩ (.slice A4 da.length c4)).heap[w.heap.size]? = some (.cells #[.int .u64 (ix : Int), .int .u64 (tm : Int), .slice Ay ny cy, .slice Az nz cz, .slice A4 da.length c4] 30 (0, 0)) := heap_setCell_same w2 w.heap.size 4 _ _ _ hr4
  have hr25 : (w2.setCell ⟨w.heap.size, 4, none⟩ (.slice A4 da.length c4)).heap[w.heap.size + 1]? = some (.cells #[.int .u64 0, .int .u64 0, .slice none 0 0, .slice none 0 0, .slice none 0 0] 30 (0, 0)) := (heap_setCell_other _ ⟨w.heap.size, 4, none⟩ _ _ (by show w.heap.size + 1 ≠ w.heap.size; omega)).trans hr24
  have hz2 := hb2'.size
  have hfin : ∀ b, W.heap.size ≤ b → ((w2.setCell ⟨w.heap.size, 4, none⟩ (.slice A4 da.length c4)).setRow (w.heap.size + 1) #[.int .u64 (ix : Int), .int .u64 (tm : Int), .slice Ay ny cy, .slice Az nz cz, .slice A4 da.length c4]).heap[b]? = w2.heap[b]? := fun b hb => (setRow_other _ _ b _ (by omega)).trans (heap_setCell_other _ ⟨w.heap.size, 4, none⟩ b _ (by show b ≠ w.heap.size; omega))
  have hzf : ((w2.setCell ⟨w.heap.size, 4, none⟩ (.slice A4 da.length c4)).setRow (w.heap.size + 1) #[.int .u64 (ix : Int), .int .u64 (tm : Int), .slice Ay ny cy, .slice Az nz cz, .slice A4 da.length c4]).heap.size = w2.heap.size := by rw [size_setRow, size_setCell']
  have hrepf : shotK.rep ((w2.setCell ⟨w.heap.size, 4, none⟩ (.slice A4 da.length c4)).setRow (w.heap.size + 1) #[.int .u64 (ix : Int), .int .u64 (tm : Int), .slice Ay ny cy, .slice Az nz cz, .slice A4 da.length c4]) (New w ((w2.setCell ⟨w.heap.size, 4, none⟩ (.slice A4 da.length c4)).setRow (w.heap.size + 1) #[.int .u64 (ix : Int), .int .u64 (tm : Int), .slice Ay ny cy, .slice Az nz cz, .slice A4 da.length c4])) [.int .u64 (ix : Int), .int .u64 (tm : Int), .slice Ay ny cy, .slice Az nz cz, .slice A4 da.length c4] (shotD ix tm l l2 da) :=
    shot_rep (ys := [.slice Ay ny cy, .slice Az nz cz]) h1 h2
      (confK_ok.keep HYL.out (fun b hb => (hfin b hb.1).trans (hb2'.block b (by have := hb.2; omega))) (fun b hb => ⟨by have := hb.1; omega, by rw [hzf]; have := hb.2; omega⟩)) hc4' h4
      ((LiesS.own ho2).keep (fun b hb => hfin b (by have := hb.1; omega)) (fun b hb => ⟨by have := hb.1; omega, by rw [hzf]; exact hb.2⟩))
  have hbf : Below w.heap.size w ((w2.setCell ⟨w.heap.size, 4, none⟩ (.slice A4 da.length c4)).setRow (w.heap.size + 1) #[.int .u64 (ix : Int), .int .u64 (tm : Int), .slice Ay ny cy, .slice Az nz cz, .slice A4 da.length c4]) := below_setRow (((HBL.out.trans (hb2'.mono (by omega)))).setCell (p := ⟨w.heap.size, 4, none⟩) (Nat.le_refl _) _) (Nat.le_succ _) _
  have e0 : (w2.setCell ⟨w.heap.size, 4, none⟩ (.slice A4 da.length c4)).cell? ⟨w.heap.size, 0, none⟩ = some (.int .u64 (ix : Int)) := by rw [cell_of_row _ w.heap.size 0 _ _ _ hr5]; rfl
  have e1 : (w2.setCell ⟨w.heap.size, 4, none⟩ (.slice A4 da.length c4)).cell? ⟨w.heap.size, 1, none⟩ = some (.int .u64 (tm : Int)) := by rw [cell_of_row _ w.heap.size 1 _ _ _ hr5]; rfl
  have e2 : (w2.setCell ⟨w.heap.size, 4, none⟩ (.slice A4 da.length c4)).cell? ⟨w.heap.size, 2, none⟩ = some (.slice Ay ny cy) := by rw [cell_of_row _ w.heap.size 2 _ _ _ hr5]; rfl
  have e3 : (w2.setCell ⟨w.heap.size, 4, none⟩ (.slice A4 da.length c4)).cell? ⟨w.heap.size, 3, none⟩ = some (.slice Az nz cz) := by rw [cell_of_row _ w.heap.size 3 _ _ _ hr5]; rfl
  have e4 : (w2.setCell ⟨w.heap.size, 4, none⟩ (.slice A4 da.length c4)).cell? ⟨w.heap.size, 4, none⟩ = some (.slice A4 da.length c4) := by rw [cell_of_row _ w.heap.size 4 _ _ _ hr5]; rfl
  have HIS := Lib.hid (show (Tryz.prog.info? 30).map (·.size) = some (#[.int .u64 (ix : Int), .int .u64 (tm : Int), .slice Ay ny cy, .slice Az nz cz, .slice A4 da.length c4] : Array Value).size from iS)
  have HV1 := Lib.hid (show (#[.int .u64 0, .int .u64 0, .slice none 0 0, .slice none 0 0, .slice none 0 0] : Array Value).size = (#[.int .u64 (ix : Int), .int .u64 (tm : Int), .slice Ay ny cy, .slice Az nz cz, .slice A4 da.length c4] : Array Value).size from rfl)
  have HV2 := Lib.hid (show (#[.int .u64 (ix : Int), .int .u64 (tm : Int), .slice Ay ny cy, .slice Az nz cz, .slice A4 da.length c4] : Array Value).all (·.oneCell') = true by simp [Value.oneCell'])
  have HR5 := Lib.hid hr5
  have HR25 := Lib.hid hr25
  have HREPF := Lib.hid hrepf
  have HBF := Lib.hid hbf
  clear hb2 hb2' hr4 hr24 hr5 hr25 hrepf hbf hfin hzf ho2 hoa hld hc4
  go_wp2_with (first
    | (with_reducible refine wpList_store_row rfl 30 (.tmp 2) (.tmp 12) rfl (w.heap.size + 1) #[.int .u64 (ix : Int), .int .u64 (tm : Int), .slice Ay ny cy, .slice Az nz cz, .slice A4 da.length c4] rfl rfl 30 #[.int .u64 0, .int .u64 0, .slice none 0 0, .slice none 0 0, .slice none 0 0] HR25.out HIS.out HV1.out HV2.out ?_))
  exact bodyPost_ret (v := .agg #[.int .u64 (ix : Int), .int .u64 (tm : Int), .slice Ay ny cy, .slice Az nz cz, .slice A4 da.length c4]) (results_cell_row rfl _ _ (w.heap.size + 1) 30 #[.int .u64 (ix : Int), .int .u64 (tm : Int), .slice Ay ny cy, .slice Az nz cz, .slice A4 da.length c4] (0, 0) _ rfl (setRow_heap _ _ _ _ _ _ HR25.out) Tryz.underlying30 rfl iS) rfl ⟨_, rfl, HREPF.out, HBF.out⟩
end Go.Proofs.YtloieecpgndbhaaGreat.Kd
