/- Package scupperref03's OwnEntries and OwnShot. Written by genown2.py. -/
import Derived.Test.YtdbaajgkcjpnoaaGreatKnF
import Derived.Test.YtdbaajgkcjpnoaaGreatKnD
import Derived.Deep.DeepCutAuto
namespace Go.Proofs.YtdbaajgkcjpnoaaGreat.Kd
open Go.RowKit By CoP Co Mo

theorem udE : Tryz.prog.underlying 39 = Tryz.prog.underlying 39 := rfl
theorem iE : (Tryz.prog.info? 39).map (·.size) = some 5 := by kernel_rfl
set_option maxRecDepth 100000 in
set_option maxHeartbeats 4000000 in
theorem ownEntries_any {A : Option Addr} {n c : Nat} {ds : List Data} {most : Int} (w : World) (hrep : (listK entryK most).rep w (Old w) [.slice A n c] (.agg ds)) (hn : n ≤ 9437184) :
    Calls Tryz.prog 18 #[.slice A n c] w (fun e w' => ∃ v, e = .returned v ∧ (listK entryK most).rep w' (New w w') [v] (.agg ds) ∧ Below w.heap.size w w') := by
  obtain ⟨A', c', ds', e1, e2, hc, hm, hl⟩ := hrep
  obtain rfl := Data.agg.inj e2
  simp only [List.cons.injEq, Value.slice.injEq, and_true] at e1
  obtain ⟨rfl, rfl, rfl⟩ := e1
  have HL := Lib.hid hl
  clear hl
  go_enter Tryz.func18, Tryz.ntmps18
  go_wp2
  go_loopw [3, 4] (fun sv i wr => ∃ (j : Nat) (rows : List Value), j ≤ ds.length ∧ i = .int .i64 (j : Int) ∧ Below w.heap.size w wr ∧ wr.ownsRow w.heap.size 39 5 sv j rows ∧ Items entryK w wr sv rows (ds.take j)) (fun _ i _ => ds.length - (intOf i).toNat)
  case atStart => exact ⟨0, [], Nat.zero_le _, rfl, Below.refl _ _, World.ownsRow_nil _ _ _ _, Items.nil _ _ _ _ _⟩
  case round =>
    obtain ⟨j, rows, hj, rfl, hbr, hown, hit⟩ := hrel
    by_cases hjn : j < ds.length
    · obtain ⟨g, o, rfl, hg, hcells⟩ := HL.out (by omega)
      obtain ⟨d, hdj⟩ : ∃ d, ds[j]? = some d := ⟨_, List.getElem?_eq_getElem hjn⟩
      obtain ⟨vs, hv, hrd⟩ := hcells j d hdj
      have HTK := Lib.hid (show ds.take (j + 1) = ds.take j ++ [d] by rw [List.take_add_one, hdj]; rfl)
      obtain ⟨ix, tm, kd, dl, Ad, cd, da, rfl, hd, b1, b2, b3, b4, b5, b6, hlies⟩ := entry_shape hv
      have hcell : ∀ (q : Nat) (v : Value), #[.int .u64 (ix : Int), .int .u64 (tm : Int), .int .i64 kd, .int .i64 dl, .slice Ad da.length cd].toList[q]? = some v → wr.cell? ⟨g, o + j * 5 + q, none⟩ = some v := fun q v h => (hbr.cell (p := ⟨g, o + j * 5 + q, none⟩) (block_lt_of_cell (hrd q v h))).trans (hrd q v h)
      have x0 : wr.cell? ⟨g, o + j * 5, none⟩ = some (.int .u64 (ix : Int)) := hcell 0 _ rfl
      have x1 : wr.cell? ⟨g, o + j * 5 + 1, none⟩ = some (.int .u64 (tm : Int)) := hcell 1 _ rfl
      have x2 : wr.cell? ⟨g, o + j * 5 + 2, none⟩ = some (.int .i64 kd) := hcell 2 _ rfl
      have x3 : wr.cell? ⟨g, o + j * 5 + 3, none⟩ = some (.int .i64 dl) := hcell 3 _ rfl
      have x4 : wr.cell? ⟨g, o + j * 5 + 4, none⟩ = some (.slice Ad da.length cd) := hcell 4 _ rfl
      obtain ⟨A0, c0, rfl, hjc, _, _⟩ := owns_form hown
      have hb1 : Below wr.heap.size wr (wr.alloc (.cells #[.int .u64 (ix : Int), .int .u64 (tm : Int), .int .i64 kd, .int .i64 dl, .slice Ad da.length cd] 39)) := (Below.refl _ _).alloc (Nat.le_refl _) _
      have hr1 : (wr.alloc (.cells #[.int .u64 (ix : Int), .int .u64 (tm : Int), .int .i64 kd, .int .i64 dl, .slice Ad da.length cd] 39)).heap[wr.heap.size]? = some (.cells #[.int .u64 (ix : Int), .int .u64 (tm : Int), .int .i64 kd, .int .i64 dl, .slice Ad da.length cd] 39 (0, 0)) := heap_alloc_new wr _
      have HB1 := Lib.hid hb1
      have HR1 := Lib.hid hr1
      have HBR := Lib.hid hbr
      have HOWN := Lib.hid hown
      have HIT := Lib.hid hit
      have HD := Lib.hid hd
      have HLD := Lib.hid (hlies.lies.below hbr)
      have HP := Lib.hid (And.intro b1 (And.intro b2 (And.intro b3 b4)))
      have HDJ := Lib.hid hdj
      clear hb1 hr1 hbr hown hit hd hlies hcell hrd hv hcells b1 b2 b3 b4 hdj
      go_upto_region 6 with fail
      generalize wr.alloc (.cells #[.int .u64 (ix : Int), .int .u64 (tm : Int), .int .i64 kd, .int .i64 dl, .slice Ad da.length cd] 39) = w1 at HB1 HR1 ⊢
      clear x0 x1 x2 x3 x4
      have hz1 := HB1.out.size
      have hlt1 := row_lt HR1.out
      have hoa := Own.made w1 w1.heap.size #[] 0 (Nat.le_refl _) (by decide) rfl
      have hc4 : (w1.alloc (.cells #[] 5)).cell? ⟨wr.heap.size, 4, none⟩ = some (.slice Ad da.length cd) := by rw [World.cell?_alloc_lt w1 _ ⟨wr.heap.size, 4, none⟩ hlt1, cell_of_row w1 wr.heap.size 4 _ _ _ HR1.out]; rfl
      have hzw := HBR.out.size
      go_wp2_with (at_builtin; (refine wpList_app rfl (.tmp 16) (.tmp 18) rfl rfl hoa rfl rfl ((HLD.out.below (HB1.out.mono (by omega))).alloc (by omega) _) ?cs ?cb ?_))
      case cs => simp; omega
      case cb => rw [World.size_alloc]; omega
      intro v2 w2 ho2 hb2 _
      try rw [List.nil_append] at ho2
      obtain ⟨A2, c2, rfl, hc2, _, _, _, hk2⟩ := ho2.form
      have hb2' : Below w1.heap.size w1 w2 := ((Below.refl w1.heap.size w1).alloc (Nat.le_refl _) (.cells #[] 5)).trans hb2
      have hr2 := (hb2'.block _ hlt1).trans HR1.out
      have hf2 : w2.frozen? ⟨wr.heap.size, 4, none⟩ = false := frozen_of_row w2 _ 4 _ _ hr2
      have hc24 : w2.cell? ⟨wr.heap.size, 4, none⟩ = some (.slice Ad da.length cd) := by rw [cell_of_row w2 wr.heap.size 4 _ _ _ hr2]; rfl
      have hr3 : (w2.setCell ⟨wr.heap.size, 4, none⟩ (.slice A2 da.length c2)).heap[wr.heap.size]? = some (.cells #[.int .u64 (ix : Int), .int .u64 (tm : Int), .int .i64 kd, .int .i64 dl, .slice A2 da.length c2] 39 (0, 0)) := heap_setCell_same w2 wr.heap.size 4 _ _ _ hr2
      have hg3 : wr.grownBy (w2.setCell ⟨wr.heap.size, 4, none⟩ (.slice A2 da.length c2)) none := grown_of_below ((HB1.out.trans (hb2'.mono hz1)).setCell (p := ⟨wr.heap.size, 4, none⟩) (Nat.le_refl _) _) none
      have hli3 : LiesS (w2.setCell ⟨wr.heap.size, 4, none⟩ (.slice A2 da.length c2)) (fun b => w1.heap.size ≤ b ∧ b < w2.heap.size) A2 da := (LiesS.own ho2).keep (fun b hb => heap_setCell_other w2 ⟨wr.heap.size, 4, none⟩ b _ (by show b ≠ wr.heap.size; have := hb.1; omega)) (fun _ h => h)
      have HR3 := Lib.hid hr3
      have HG3 := Lib.hid hg3
      have HL3 := Lib.hid hli3
      have HO3 := Lib.hid (HOWN.out.kept hg3 (by cases hv : (Value.slice A0 j c0).ownBlock <;> simp))
      have hz2 := hb2'.size
      have hz3 : (w2.setCell ⟨wr.heap.size, 4, none⟩ (.slice A2 da.length c2)).heap.size = w2.heap.size := size_setCell' _ _ _
      have hj1 : j + 1 ≤ 9437185 := by omega
      clear hb2 hb2' hr2 hr3 hg3 hli3 ho2 hk2 hoa hc4
      go_upto_region 7 with fail
      generalize w2.setCell ⟨wr.heap.size, 4, none⟩ (.slice A2 da.length c2) = w5 at HR3 HG3 HL3 HO3 hz3 ⊢
      have hr3 := HR3.out
      have y0 : w5.cell? ⟨wr.heap.size, 0, none⟩ = some (.int .u64 (ix : Int)) := by rw [cell_of_row _ wr.heap.size 0 _ _ _ hr3]; rfl
      have y1 : w5.cell? ⟨wr.heap.size, 1, none⟩ = some (.int .u64 (tm : Int)) := by rw [cell_of_row _ wr.heap.size 1 _ _ _ hr3]; rfl
      have y2 : w5.cell? ⟨wr.heap.size, 2, none⟩ = some (.int .i64 kd) := by rw [cell_of_row _ wr.heap.size 2 _ _ _ hr3]; rfl
      have y3 : w5.cell? ⟨wr.heap.size, 3, none⟩ = some (.int .i64 dl) := by rw [cell_of_row _ wr.heap.size 3 _ _ _ hr3]; rfl
      have y4 : w5.cell? ⟨wr.heap.size, 4, none⟩ = some (.slice A2 da.length c2) := by rw [cell_of_row _ wr.heap.size 4 _ _ _ hr3]; rfl
      have HZ3 := Lib.hid hz3
      have hwr5 : w.heap.size ≤ w5.heap.size := by omega
      clear hr3 hz3 hf2 hc24
      go_wp2_with (at_builtin; (refine wpList_pushE rfl (.tmp 21) (.tmp 23) rfl (v := .slice A0 j c0) (news := [.int .u64 (ix : Int), .int .u64 (tm : Int), .int .i64 kd, .int .i64 dl, .slice A2 da.length c2]) rfl HO3.out rfl rfl (by simp [Value.oneCell']) hj1 hwr5 ?_))
      intro v4 w4 ho4 hg4 hk4
      have HO4 := Lib.hid ho4
      have HG4 := Lib.hid hg4
      have HK4 := Lib.hid hk4
      clear ho4 hg4 hk4
      go_wp2
      go_roundw
      case rel =>
        have hg4 := HG4.out
        have hz3 := HZ3.out
        have hlt := HOWN.out.lt
        have hz4 := hg4.size
        rw [World.size_alloc, hz3] at hz4
        have hbA : Below w.heap.size w w5 := HBR.out.grown HG3.out hzw (fun k e => by cases e)
        refine ⟨j + 1, _, by omega, by go_num, (hbA.alloc (by rw [hz3]; omega) _).grown hg4 (by rw [World.size_alloc, hz3]; omega) (fun k e => (hlt k e).1), HO4.out, ?_⟩
        rw [HTK.out]
        have hblk : ∀ b, b < w2.heap.size → some b ≠ (Value.slice A0 j c0).ownBlock → w4.heap[b]? = w5.heap[b]? := fun b h1 h2 => (hg4.block b (by rw [World.size_alloc, hz3]; omega) h2).trans (heap_alloc_old _ _ (by rw [hz3]; exact h1))
        refine Items.push entryK_ok HIT.out (by rw [HOWN.out.1, List.length_take, Nat.min_eq_left hj]; rfl) (by omega) (fun b h1 h2 => ?_) ?_ ?_
        · exact (hblk b (by have := h1.2; omega) h2).trans (HG3.out.block b h1.2 (fun e => by cases e))
        · rcases HK4.out with e | e
          · exact .inl e
          · exact .inr ⟨_, by rw [hz3]; omega, e⟩
        · rw [HD.out]
          refine entry_rep HP.out.1 HP.out.2.1 HP.out.2.2.1 HP.out.2.2.2 hc2 b6 (HL3.out.keep (fun b h1 => hblk b h1.2 (fun e => by have := (hlt b e.symm).2; have := h1.1; omega)) (fun b h1 => ⟨⟨by have := h1.1; omega, by have := h1.2; omega⟩, fun e => ?_⟩))
          rcases HK4.out with e2 | e2
          · have := (hlt b ((e.trans e2).symm)).2
            have := h1.1
            omega
          · have h3 := Option.some.inj (e.trans e2)
            rw [hz3] at h3
            have := h1.2
            omega
      case measure => simp [intOf]; omega
    · obtain rfl : j = ds.length := by omega
      rw [List.take_length] at hit
      have HREP := Lib.hid (hit.rep entryK_ok hown (by omega) most)
      have HBR := Lib.hid hbr
      clear hit hown hbr
      have hnl : ¬ (ds.length : Int) < (ds.length : Int) := by omega
      go_wp2
      go_ret
      exact ⟨_, rfl, HREP.out, HBR.out⟩
theorem shot_rep {w : World} {S : Nat → Prop} {ix tm : Nat} {ys : List Value} {d : Data} {A3 : Option Addr} {c3 : Nat} {da : List UInt8} (h1 : ix < 18446744073709551616) (h2 : tm < 18446744073709551616) (hy : confK.rep w S ys d)
    (hc : da.length ≤ c3) (hm : da.length ≤ 140737488355328) (hl : LiesS w S A3 da) : shotK.rep w S ([.int .u64 (ix : Int), .int .u64 (tm : Int)] ++ ys ++ [.slice A3 da.length c3]) (.agg [.lit (.int .u64 (ix : Int)), .lit (.int .u64 (tm : Int)), d, .lit (.string da)]) :=
  ⟨_, rfl, [.int .u64 (ix : Int)], _, _, _, by simp, rfl, ⟨ix, h1, rfl, rfl⟩, [.int .u64 (tm : Int)], _, _, _, rfl, rfl, ⟨tm, h2, rfl, rfl⟩, ys, _, _, _, rfl, rfl, hy, _, _, _, _, rfl, rfl, ⟨A3, c3, da, rfl, rfl, hc, hm, hl⟩, rfl, rfl⟩
end Go.Proofs.YtdbaajgkcjpnoaaGreat.Kd
