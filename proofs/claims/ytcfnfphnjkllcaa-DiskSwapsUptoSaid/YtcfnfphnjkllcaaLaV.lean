/- The walk of DiskSwaps. -/
import Derived.Test.YtcfnfphnjkllcaaLaY
import Derived.Deep.CutRange
import Derived.Deep.CutBlock
namespace Go.Proofs.Ytcfnfphnjkllcaa.Dk
open Go.RowKit Go.Maps By Mp

set_option maxRecDepth 100000 in
set_option maxHeartbeats 16000000 in
theorem diskSwaps_walk (room : Int) (A : Option Addr) (c : Nat) (l : List A1) (a b : A1) (P Q : AC) (w : World) (h : LiesA w w.heap.size A l) (ha : ActsOk l) (hac : a.data.length ≤ P.2) (had : Lies w w.heap.size P.1 a.data) (hao : ActOk a) (hbc : b.data.length ≤ Q.2) (hbd : Lies w w.heap.size Q.1 b.data) (hbo : ActOk b) :
    Calls Try.prog 9 #[.int .i64 room, .slice A l.length c, aV a P, aV b Q] w (True_ w) := by
  have HOA := Lib.hid (And.intro hao (And.intro hac had))
  have HOB := Lib.hid (And.intro hbo (And.intro hbc hbd))
  obtain ⟨ka, na, ia, da, ma⟩ := a
  obtain ⟨Aa, ca⟩ := P
  obtain ⟨kb, nb, ib, db, mb⟩ := b
  obtain ⟨Ab, cb⟩ := Q
  show Calls Try.prog 9 #[.int .i64 room, .slice A l.length c, .agg #[.int .i64 ka, .string (str na), .int .i64 ia, .slice Aa da.length ca, .int .u64 (ma : Int)], .agg #[.int .i64 kb, .string (str nb), .int .i64 ib, .slice Ab db.length cb, .int .u64 (mb : Int)]] w (True_ w)
  obtain ⟨w0, hw0⟩ : ∃ w0, w0 = (w.alloc (.cells #[.int .i64 ka, .string (str na), .int .i64 ia, .slice Aa da.length ca, .int .u64 (ma : Int)] tAct)).alloc (.cells #[.int .i64 kb, .string (str nb), .int .i64 ib, .slice Ab db.length cb, .int .u64 (mb : Int)] tAct) := ⟨_, rfl⟩
  have hb0 : Below w.heap.size w w0 := by rw [hw0]; exact belowAlloc (belowAlloc (Below.refl _ _) _) _
  have hxa : w0.heap[w.heap.size]? = some (.cells #[.int .i64 ka, .string (str na), .int .i64 ia, .slice Aa da.length ca, .int .u64 (ma : Int)] tAct (0, 0)) := by rw [hw0]; exact (two_boxes w _ _).1
  have hxb : w0.heap[w.heap.size + 1]? = some (.cells #[.int .i64 kb, .string (str nb), .int .i64 ib, .slice Ab db.length cb, .int .u64 (mb : Int)] tAct (0, 0)) := by rw [hw0]; exact (two_boxes w _ _).2.1
  have hla : LiesA w0 w0.heap.size A l := fun hn => by
    obtain ⟨ga, oa, e, hg, hc⟩ := h hn
    refine ⟨ga, oa, e, Nat.lt_of_lt_of_le hg hb0.size, fun k x hx => ?_⟩
    obtain ⟨p, h1, h2, h3⟩ := hc k x hx
    exact ⟨p, fun j u hu => (hb0.cell hg).trans (h1 j u hu), h2, (h3.below hb0).more hb0.size⟩
  have HGR := Lib.hid (grown_any room A c l w0 hla ha)
  have HB0 := Lib.hid hb0
  have HW0 := Lib.hid hw0
  have HCA := Lib.hid (fun (w' : World) (hb : Below w0.heap.size w0 w') => (show w'.cell? ⟨w.heap.size, 0, none⟩ = some (.int .i64 ka) ∧ w'.cell? ⟨w.heap.size, 1, none⟩ = some (.string (str na)) ∧ w'.cell? ⟨w.heap.size, 2, none⟩ = some (.int .i64 ia) ∧ w'.cell? ⟨w.heap.size, 3, none⟩ = some (.slice Aa da.length ca) ∧ w'.cell? ⟨w.heap.size, 4, none⟩ = some (.int .u64 (ma : Int)) from by
    have h := (hb.block _ (row_lt hxa)).trans hxa
    exact ⟨by rw [cell_of_row w' _ 0 _ _ _ h]; rfl, by rw [cell_of_row w' _ 1 _ _ _ h]; rfl, by rw [cell_of_row w' _ 2 _ _ _ h]; rfl, by rw [cell_of_row w' _ 3 _ _ _ h]; rfl, by rw [cell_of_row w' _ 4 _ _ _ h]; rfl⟩))
  have HCB := Lib.hid (fun (w' : World) (hb : Below w0.heap.size w0 w') => (show w'.cell? ⟨(w.heap.size + 1), 0, none⟩ = some (.int .i64 kb) ∧ w'.cell? ⟨(w.heap.size + 1), 1, none⟩ = some (.string (str nb)) ∧ w'.cell? ⟨(w.heap.size + 1), 2, none⟩ = some (.int .i64 ib) ∧ w'.cell? ⟨(w.heap.size + 1), 3, none⟩ = some (.slice Ab db.length cb) ∧ w'.cell? ⟨(w.heap.size + 1), 4, none⟩ = some (.int .u64 (mb : Int)) from by
    have h := (hb.block _ (row_lt hxb)).trans hxb
    exact ⟨by rw [cell_of_row w' _ 0 _ _ _ h]; rfl, by rw [cell_of_row w' _ 1 _ _ _ h]; rfl, by rw [cell_of_row w' _ 2 _ _ _ h]; rfl, by rw [cell_of_row w' _ 3 _ _ _ h]; rfl, by rw [cell_of_row w' _ 4 _ _ _ h]; rfl⟩))
  have q1 := ptrEq
  have q2 := ptrNe
  clear h ha hb0 hxa hxb hla hao hac had hbo hbc hbd
  go_enter Try.func9, Try.ntmps9
  go_upto_region 1 with fail
  rw [← HW0.out]
  clear hw0 HW0
  go_wp2_with fail
  refine HGR.out.mono ?_
  rintro e w1 ⟨g, r, rfl, hp1, hc1⟩
  obtain ⟨s, hs⟩ : ∃ s, growS room l = s := ⟨_, rfl⟩
  have hn1 := nmd_grow room l
  rw [hs] at hp1 hc1 hn1
  have HP1 := Lib.hid hp1
  have HC := Lib.hid hc1
  have HNMD := Lib.hid hn1
  clear hs hp1 hc1 hn1 HGR
  go_upto_region 2 with fail
  go_cut [83] (fun cc wx => ∃ bb, cc = .bool bb ∧ Below w1.heap.size w1 wx ∧ (bb = false → s.down = false ∧ s.fuse = 0 ∧ na ≠ nb ∧ (1 ≤ ka ∧ ka ≤ 3) ∧ (1 ≤ kb ∧ kb ≤ 3)))
  case first =>
    as_aux_lemma =>
      go_wp2_with fail
      refine (answers_any w1).mono ?_
      rintro e w2 ⟨rfl, hb2⟩
      have HP2 := Lib.hid (HP1.out.below hb2)
      have HB2 := Lib.hid hb2
      clear hb2
      obtain ⟨-, hc3, hc4⟩ := HP2.out.cells
      obtain ⟨ha0, ha1, ha2, ha3, ha4⟩ := HCA.out w2 HP2.out.far
      obtain ⟨hb0, hb1, hb2, hb3, hb4⟩ := HCB.out w2 HP2.out.far
      cases hdn : s.down with
      | true =>
        rw [hdn] at hc4
        go_wp2
        go_meet
        exact ⟨true, rfl, HB2.out, fun e => by cases e⟩
      | false =>
        have HDN := Lib.hid hdn
        rw [hdn] at hc4
        by_cases hfu : s.fuse > 0
        · have d1 : decide (s.fuse > 0) = true := decide_eq_true hfu
          go_wp2
          go_meet
          exact ⟨true, rfl, HB2.out, fun e => by cases e⟩
        · have d1 : decide (s.fuse > 0) = false := decide_eq_false hfu
          have HFU := Lib.hid (show s.fuse = 0 by have := HP2.out.ok.fuse.1; omega)
          by_cases hnn : na = nb
          · have d2 : ((str na).toList == (str nb).toList) = true := by rw [hnn]; exact beq_self_eq_true _
            have HNN := Lib.hid hnn
            clear hnn
            go_wp2
            go_meet
            exact ⟨true, rfl, HB2.out, fun e => by cases e⟩
          · have d2 : ((str na).toList == (str nb).toList) = false := by rw [str_toList, str_toList]; simpa using hnn
            have HNN := Lib.hid hnn
            clear hnn
            have hsa := small_any ⟨ka, na, ia, da, ma⟩ (Aa, ca) w2
            unfold aV at hsa
            dsimp only at hsa
            have HSA := Lib.hid hsa
            clear hsa
            go_wp2_with fail
            refine HSA.out.mono ?_
            rintro e w5 ⟨rfl, hb5⟩
            have HP5 := Lib.hid (HP2.out.below hb5)
            have HB5 := Lib.hid (By.ext HB2.out hb5)
            clear hb5 HSA ha0 ha1 ha2 ha3 ha4 hb0 hb1 hb2 hb3 hb4 hc3 hc4
            obtain ⟨ha0, ha1, ha2, ha3, ha4⟩ := HCA.out w5 HP5.out.far
            obtain ⟨hb0, hb1, hb2, hb3, hb4⟩ := HCB.out w5 HP5.out.far
            generalize smallB ⟨ka, na, ia, da, ma⟩ = sa
            cases sa with
            | false =>
              go_wp2
              go_meet
              exact ⟨true, rfl, HB5.out, fun e => by cases e⟩
            | true =>
              have hsb := small_any ⟨kb, nb, ib, db, mb⟩ (Ab, cb) w5
              unfold aV at hsb
              dsimp only at hsb
              have HSB := Lib.hid hsb
              clear hsb
              go_wp2_with fail
              refine HSB.out.mono ?_
              rintro e w6 ⟨rfl, hb6⟩
              have HP6 := Lib.hid (HP5.out.below hb6)
              have HB6 := Lib.hid (By.ext HB5.out hb6)
              clear hb6 HSB ha0 ha1 ha2 ha3 ha4 hb0 hb1 hb2 hb3 hb4
              obtain ⟨ha0, -, -, -, -⟩ := HCA.out w6 HP6.out.far
              obtain ⟨hb0, -, -, -, -⟩ := HCB.out w6 HP6.out.far
              generalize smallB ⟨kb, nb, ib, db, mb⟩ = sb
              cases sb with
              | false =>
                go_wp2
                go_meet
                exact ⟨true, rfl, HB6.out, fun e => by cases e⟩
              | true =>
                by_cases k1 : ka < 1
                · have e1 : decide (ka < 1) = true := decide_eq_true k1
                  go_wp2
                  go_meet
                  exact ⟨true, rfl, HB6.out, fun e => by cases e⟩
                · have e1 : decide (ka < 1) = false := decide_eq_false k1
                  by_cases k2 : ka > 3
                  · have e2 : decide (ka > 3) = true := decide_eq_true k2
                    go_wp2
                    go_meet
                    exact ⟨true, rfl, HB6.out, fun e => by cases e⟩
                  · have e2 : decide (ka > 3) = false := decide_eq_false k2
                    by_cases k3 : kb < 1
                    · have e3 : decide (kb < 1) = true := decide_eq_true k3
                      go_wp2
                      go_meet
                      exact ⟨true, rfl, HB6.out, fun e => by cases e⟩
                    · have e3 : decide (kb < 1) = false := decide_eq_false k3
                      by_cases k4 : kb > 3
                      · have e4 : decide (kb > 3) = true := decide_eq_true k4
                        go_wp2
                        go_meet
                        exact ⟨true, rfl, HB6.out, fun e => by cases e⟩
                      · have e4 : decide (kb > 3) = false := decide_eq_false k4
                        go_wp2
                        go_meet
                        exact ⟨false, rfl, HB6.out, fun _ => ⟨HDN.out, HFU.out, HNN.out, ⟨by omega, by omega⟩, ⟨by omega, by omega⟩⟩⟩
  obtain ⟨bq, rfl, hbx, himp⟩ := hcut
  obtain ⟨wz, hwz⟩ : ∃ wz, wz = wc := ⟨_, rfl⟩
  subst hwz
  have HPZ := Lib.hid (HP1.out.below hbx)
  clear hbx
  cases bq with
  | true =>
    clear himp
    go_wp2_with fail
    refine (answers_any wz).mono ?_
    rintro e w3 ⟨rfl, hb3⟩
    have HB3 := Lib.hid (By.ext HB0.out (By.ext HPZ.out.far hb3))
    clear hb3
    go_wp2
    go_ret
    exact ⟨rfl, HB3.out⟩
  | false =>
    have HIM := Lib.hid (himp rfl)
    clear himp
    go_wp2_with fail
    obtain ⟨S, T, M, hpa, hfr, hfa⟩ := HPZ.out
    have HPA := Lib.hid hpa
    have HFR := Lib.hid hfr
    have HFA := Lib.hid hfa
    clear hpa hfr hfa
    refine (copy_any g s S wz HPA.out.d (Nat.le_trans HC.out (by decide))).mono ?_
    rintro e w4 ⟨gc, Sc, rfl, hd4, hS4, hb4⟩
    have HD4 := Lib.hid hd4
    have HS4 := Lib.hid hS4
    have HB4 := Lib.hid hb4
    obtain ⟨v, u, hrd⟩ := HPA.out.r.below hb4
    obtain ⟨Av, cv, hvf, -, -, -⟩ := hrd.sure.form
    obtain ⟨Au, cu, huf, -, -, -⟩ := hrd.un.form
    obtain ⟨nv, hnv⟩ : ∃ nv, nv = s.sure.length := ⟨_, rfl⟩
    obtain ⟨nu, hnu⟩ : ∃ nu, nu = s.unsure.length := ⟨_, rfl⟩
    rw [← hnv] at hvf
    rw [← hnu] at huf
    have HNV := Lib.hid hnv
    have HNU := Lib.hid hnu
    clear hnv hnu
    subst hvf
    subst huf
    have HRD := Lib.hid hrd
    clear hd4 hS4 hb4 hrd
    go_upto_region 6 with fail
    have hbz := two_boxes w4 (.cells #[.slice none 0 0, .slice none 0 0, .int .i64 0, .int .i64 0, .bool false] tRD) (.cells #[.slice none 0 0, .slice none 0 0, .int .i64 0, .int .i64 0, .bool false] tRD)
    have HBZ := Lib.hid (show ((w4.alloc (.cells #[.slice none 0 0, .slice none 0 0, .int .i64 0, .int .i64 0, .bool false] tRD)).alloc (.cells #[.slice none 0 0, .slice none 0 0, .int .i64 0, .int .i64 0, .bool false] tRD)).heap[w4.heap.size]? = some (.cells (rdC (.slice none 0 0) (.slice none 0 0) 0 0 false) tRD (0, 0)) ∧ ((w4.alloc (.cells #[.slice none 0 0, .slice none 0 0, .int .i64 0, .int .i64 0, .bool false] tRD)).alloc (.cells #[.slice none 0 0, .slice none 0 0, .int .i64 0, .int .i64 0, .bool false] tRD)).heap[w4.heap.size + 1]? = some (.cells (rdC (.slice none 0 0) (.slice none 0 0) 0 0 false) tRD (0, 0)) ∧ Below w4.heap.size w4 ((w4.alloc (.cells #[.slice none 0 0, .slice none 0 0, .int .i64 0, .int .i64 0, .bool false] tRD)).alloc (.cells #[.slice none 0 0, .slice none 0 0, .int .i64 0, .int .i64 0, .bool false] tRD)) from ⟨hbz.1, hbz.2.1, belowAlloc (belowAlloc (Below.refl _ _) _) _⟩)
    clear hbz
    obtain ⟨x, hx⟩ : ∃ x, x = w4.heap.size := ⟨_, rfl⟩
    generalize (w4.alloc (.cells #[.slice none 0 0, .slice none 0 0, .int .i64 0, .int .i64 0, .bool false] tRD)).alloc (.cells #[.slice none 0 0, .slice none 0 0, .int .i64 0, .int .i64 0, .bool false] tRD) = w5 at *
    have hr5 := (HBZ.out.2.2.block r (row_lt HRD.out.row)).trans HRD.out.row
    have HR5 := Lib.hid hr5
    have hc0 : w5.cell? ⟨r, 0, none⟩ = some (.slice Av nv cv) := by rw [cell_of_row w5 r 0 _ _ _ hr5]; rfl
    have hc1 : w5.cell? ⟨r, 1, none⟩ = some (.slice Au nu cu) := by rw [cell_of_row w5 r 1 _ _ _ hr5]; rfl
    have hc2 : w5.cell? ⟨r, 2, none⟩ = some (.int .i64 s.room) := by rw [cell_of_row w5 r 2 _ _ _ hr5]; rfl
    have hc3 : w5.cell? ⟨r, 3, none⟩ = some (.int .i64 s.fuse) := by rw [cell_of_row w5 r 3 _ _ _ hr5]; rfl
    have hc4 : w5.cell? ⟨r, 4, none⟩ = some (.bool s.down) := by rw [cell_of_row w5 r 4 _ _ _ hr5]; rfl
    have hxr := HBZ.out.1
    have hyr := HBZ.out.2.1
    rw [← hx] at hxr hyr
    have hx0 : ∀ i, w5.frozen? ⟨x, i, none⟩ = false := fun i => frozen_of_row w5 x i _ _ hxr
    have hy0 : ∀ i, w5.frozen? ⟨x + 1, i, none⟩ = false := fun i => frozen_of_row w5 (x + 1) i _ _ hyr
    have a0 : w5.cell? ⟨x, 0, none⟩ = some (.slice none 0 0) := by rw [cell_of_row w5 x 0 _ _ _ hxr]; rfl
    have a1 : w5.cell? ⟨x, 1, none⟩ = some (.slice none 0 0) := by rw [cell_of_row w5 x 1 _ _ _ hxr]; rfl
    have a2 : w5.cell? ⟨x, 2, none⟩ = some (.int .i64 0) := by rw [cell_of_row w5 x 2 _ _ _ hxr]; rfl
    have a3 : w5.cell? ⟨x, 3, none⟩ = some (.int .i64 0) := by rw [cell_of_row w5 x 3 _ _ _ hxr]; rfl
    have a4 : w5.cell? ⟨x, 4, none⟩ = some (.bool false) := by rw [cell_of_row w5 x 4 _ _ _ hxr]; rfl
    have b0 : w5.cell? ⟨x + 1, 0, none⟩ = some (.slice none 0 0) := by rw [cell_of_row w5 (x + 1) 0 _ _ _ hyr]; rfl
    have b1 : w5.cell? ⟨x + 1, 1, none⟩ = some (.slice none 0 0) := by rw [cell_of_row w5 (x + 1) 1 _ _ _ hyr]; rfl
    have b2 : w5.cell? ⟨x + 1, 2, none⟩ = some (.int .i64 0) := by rw [cell_of_row w5 (x + 1) 2 _ _ _ hyr]; rfl
    have b3 : w5.cell? ⟨x + 1, 3, none⟩ = some (.int .i64 0) := by rw [cell_of_row w5 (x + 1) 3 _ _ _ hyr]; rfl
    have b4 : w5.cell? ⟨x + 1, 4, none⟩ = some (.bool false) := by rw [cell_of_row w5 (x + 1) 4 _ _ _ hyr]; rfl
    have hrx : r ≠ x := by have := row_lt HRD.out.row; omega
    have hry : r ≠ x + 1 := by have := row_lt HRD.out.row; omega
    have hrx' : x ≠ r := hrx.symm
    have hry' : x + 1 ≠ r := hry.symm
    have hxy : x ≠ x + 1 := by omega
    have hyx : x + 1 ≠ x := by omega
    have HX := Lib.hid hx
    rw [← hx]
    clear hx
    go_region_held3 (fun w' => w'.cell? ⟨r, 0, none⟩ = some (.slice Av nv cv) ∧ w'.cell? ⟨r, 1, none⟩ = some (.slice Au nu cu) ∧ w'.cell? ⟨r, 2, none⟩ = some (.int .i64 s.room) ∧ w'.cell? ⟨r, 3, none⟩ = some (.int .i64 s.fuse) ∧ w'.cell? ⟨r, 4, none⟩ = some (.bool s.down))
      (first
        | with_reducible assumption
        | with_reducible exact ⟨hc0, hc1, hc2, hc3, hc4⟩
        | (simp [World.cell?_setCell_far, hc0, hc1, hc2, hc3, hc4, hrx', hry']; done))
      (fail)
    clear hx0 hy0 a0 a1 a2 a3 a4 b0 b1 b2 b3 b4 hrx hry hrx' hry' hxy hyx hc0 hc1 hc2 hc3 hc4
    obtain ⟨w6, hw6⟩ : ∃ w6, w6 = twiceRow w5 x (.slice Av nv cv) (.slice Au nu cu) s.room s.fuse s.down := ⟨_, rfl⟩
    have hcp := two_copied HBZ.out.2.2 (Nat.le_of_eq HX.out.symm) hxr hyr (.slice Av nv cv) (.slice Au nu cu) s.room s.fuse s.down
    rw [← hw6] at hcp
    have HCP := Lib.hid hcp
    rw [show (World.setCell (World.setCell (World.setCell (World.setCell (World.setCell (World.setCell (World.setCell (World.setCell (World.setCell (World.setCell w5 ⟨x, 0, none⟩ (.slice Av nv cv)) ⟨x, 1, none⟩ (.slice Au nu cu)) ⟨x, 2, none⟩ (.int .i64 s.room)) ⟨x, 3, none⟩ (.int .i64 s.fuse)) ⟨x, 4, none⟩ (.bool s.down)) ⟨(x + 1), 0, none⟩ (.slice Av nv cv)) ⟨(x + 1), 1, none⟩ (.slice Au nu cu)) ⟨(x + 1), 2, none⟩ (.int .i64 s.room)) ⟨(x + 1), 3, none⟩ (.int .i64 s.fuse)) ⟨(x + 1), 4, none⟩ (.bool s.down)).drew = w6 from by rw [hw6]; simp only [twiceRow, five]]
    clear hcp hw6 hxr hyr
    try clear hr5
    have hz6 := row_lt HCP.out.2.1
    have hb6 := HCP.out.2.2
    obtain ⟨ac, hac, how, hda⟩ := HRD.out.un
    have hlen : s.unsure.length = nu := HNU.out.symm
    rw [hlen] at how
    have HRW := Lib.hid how
    have HAC := Lib.hid hac
    have HDA := Lib.hid hda
    have HOW6 := Lib.hid (show w6.ownsRow 0 tWrite 4 (.slice Au nu cu) nu (wRow s.unsure ac) from ownsRow_keep how (fun b hb => HCP.out.2.2.block b (ownsRow_lt how hb).2))
    have HNN := Lib.hid (show nu ≤ 1099511627776 by have := HC.out; unfold DS.cnt at this; omega)
    have HN1 := Lib.hid (show ∀ u ∈ wRow s.unsure ac, u.oneCell' = true from wRow_one)
    have HRR7 := Lib.hid ((HCP.out.2.2.block r (row_lt HRD.out.row)).trans HRD.out.row)
    clear how hac hda hlen hz6 hb6
    go_upto_region 7 with fail
    go_cut [] from 105 to 113 (fun wx => CopiedU s (.slice Av nv cv) nu (x) (wRow s.unsure ac) w6 wx)
    case first =>
      as_aux_lemma =>
        have hxr := HCP.out.1
        have hxl := row_lt hxr
        have hrr := HRR7.out
        have hxa : (w6.alloc (.cells #[] 75)).cell? ⟨r, 1, none⟩ = some (.slice Au nu cu) := by rw [cell_of_row _ r 1 _ _ _ ((heap_alloc_old w6 _ (row_lt hrr)).trans hrr)]; rfl
        go_wp2_with (at_builtin; refine wpList_copyWs rfl (.tmp 106) (.tmp 110) rfl rfl rfl HOW6.out HN1.out HNN.out ?_; intro A7 c7 w7 ho7 hb7; have hx7 := (hb7.block (x) hxl).trans hxr; have hf7 : w7.frozen? ⟨x, 1, none⟩ = false := frozen_of_row w7 (x) 1 _ _ hx7; have hc7 : w7.cell? ⟨x, 1, none⟩ = some (.slice Au nu cu) := by rw [cell_of_row w7 (x) 1 _ _ _ hx7]; rfl)
        go_meet
        exact copiedU_of hx7 hxl ho7 hb7
    obtain ⟨A7, c7, hx7, ho7, hk7⟩ := hcut
    obtain ⟨w7, hw7⟩ : ∃ w7, w7 = wc := ⟨_, rfl⟩
    subst hw7
    have HX7 := Lib.hid hx7
    have HO7 := Lib.hid ho7
    have HZ7 := Lib.hid hk7.size
    have hz46 := HCP.out.2.2.size
    have HB7 := Lib.hid (show Below w4.heap.size w4 w7 from HCP.out.2.2.trans ((hk7.below hz46 (fun b e => by have := HX.out; omega))))
    have HY7 := Lib.hid ((hk7.block (x + 1) (row_lt HCP.out.2.1) (fun e => by omega)).trans HCP.out.2.1)
    have HOW7 := Lib.hid (show w7.ownsRow 0 tWrite 4 (.slice Au nu cu) nu (wRow s.unsure ac) from ownsRow_keep HRW.out (fun b hb => HB7.out.block b (ownsRow_lt HRW.out hb).2))
    have HRR8 := Lib.hid ((HB7.out.block r (row_lt HRD.out.row)).trans HRD.out.row)
    clear hx7 ho7 hk7 hz46 HRR7 HOW6
    go_upto_region 8 with fail
    go_cut [] from 114 to 122 (fun wx => CopiedU s (.slice Av nv cv) nu (x + 1) (wRow s.unsure ac) w7 wx)
    case first =>
      as_aux_lemma =>
        have hxr := HY7.out
        have hxl := row_lt hxr
        have hrr := HRR8.out
        have hxa : (w7.alloc (.cells #[] 75)).cell? ⟨r, 1, none⟩ = some (.slice Au nu cu) := by rw [cell_of_row _ r 1 _ _ _ ((heap_alloc_old w7 _ (row_lt hrr)).trans hrr)]; rfl
        go_wp2_with (at_builtin; refine wpList_copyWs rfl (.tmp 115) (.tmp 119) rfl rfl rfl HOW7.out HN1.out HNN.out ?_; intro A7 c7 w7 ho7 hb7; have hx7 := (hb7.block (x + 1) hxl).trans hxr; have hf7 : w7.frozen? ⟨x + 1, 1, none⟩ = false := frozen_of_row w7 (x + 1) 1 _ _ hx7; have hc7 : w7.cell? ⟨x + 1, 1, none⟩ = some (.slice Au nu cu) := by rw [cell_of_row w7 (x + 1) 1 _ _ _ hx7]; rfl)
        go_meet
        exact copiedU_of hx7 hxl ho7 hb7
    obtain ⟨A8, c8, hy8, ho8, hk8⟩ := hcut
    obtain ⟨w8, hw8⟩ : ∃ w8, w8 = wc := ⟨_, rfl⟩
    subst hw8
    have HTW := Lib.hid (show Two w0 w8 g x gc (x + 1) r (.cells (rdC (.slice Av nv cv) (.slice Au nu cu) s.room s.fuse s.down) tRD (0, 0)) s s from by
      have hz6 := row_lt HCP.out.2.1
      have hz46 := HB7.out.size
      have hxe := HX.out
      have hb8 : Below w4.heap.size w4 w8 := HB7.out.trans (hk8.below hz46 (fun b e => by omega))
      have hx8 := (hk8.block x (row_lt HX7.out) (fun e => by omega)).trans HX7.out
      have ho7 := ownsRow_keep HO7.out (fun b hb => hk8.block b (ownsRow_lt HO7.out hb).2 (fun e => by have := (ownsRow_lt HO7.out hb).1; omega))
      exact two_of HPA.out HFR.out HFA.out HD4.out HS4.out HB4.out HRD.out hxe HAC.out HDA.out hb8 hx8 hy8 HNU.out ho7 (by omega) (fun b hb => (ownsRow_lt HO7.out hb).2) ho8 HZ7.out)
    obtain ⟨row, hrow⟩ : ∃ row, row = Obj.cells (rdC (.slice Av nv cv) (.slice Au nu cu) s.room s.fuse s.down) tRD (0, 0) := ⟨_, rfl⟩
    rw [← hrow] at HTW
    have HROW := Lib.hid hrow
    clear hrow hy8 ho8 hk8 HOW7 HRR8 HX7 HO7 HY7 HB7 HRW HRD HCP HD4 HS4 HB4 HPA HFR HFA HAC HDA HN1 HZ7 HR5 HBZ
    have HLA := Lib.hid (show ActOk ⟨ka, na, ia, da, ma⟩ ∧ da.length ≤ ca ∧ Lies w0 w0.heap.size Aa da from ⟨HOA.out.1, HOA.out.2.1, (Lies.below (A := Aa) (l := da) HOA.out.2.2 HB0.out).more HB0.out.size⟩)
    have HLB := Lib.hid (show ActOk ⟨kb, nb, ib, db, mb⟩ ∧ db.length ≤ cb ∧ Lies w0 w0.heap.size Ab db from ⟨HOB.out.1, HOB.out.2.1, (Lies.below (A := Ab) (l := db) HOB.out.2.2 HB0.out).more HB0.out.size⟩)
    obtain ⟨ha0, ha1, ha2, ha3, ha4⟩ := HCA.out w8 HTW.out.far
    have ht := act_two g (x) gc (x + 1) r row s s ⟨ka, na, ia, da, ma⟩ Aa ca w0 w8 HTW.out (by have := HC.out; omega) HLA.out.1 HLA.out.2.1 HLA.out.2.2
    unfold aV at ht
    dsimp only at ht
    have HT := Lib.hid ht
    clear ht
    go_wp2_with fail
    refine HT.out.mono ?_
    rintro e w9 ⟨rfl, ht9⟩
    obtain ⟨sa, hsa⟩ : ∃ sa, sa = actS s ⟨ka, na, ia, da, ma⟩ := ⟨_, rfl⟩
    rw [← hsa] at ht9
    have Hsa := Lib.hid hsa
    have hqsa : sa.cnt ≤ s.cnt + 1 := by rw [hsa]; exact act_cnt HTW.out.ok.1 _
    clear HT HTW hsa
    have HTW := Lib.hid ht9
    have HQsa := Lib.hid hqsa
    clear ht9 hqsa ha0 ha1 ha2 ha3 ha4
    obtain ⟨ha0, ha1, ha2, ha3, ha4⟩ := HCB.out w9 HTW.out.far
    have ht := act_two g (x) gc (x + 1) r row sa s ⟨kb, nb, ib, db, mb⟩ Ab cb w0 w9 HTW.out (by have := HC.out; have := HQsa.out; omega) HLB.out.1 HLB.out.2.1 HLB.out.2.2
    unfold aV at ht
    dsimp only at ht
    have HT := Lib.hid ht
    clear ht
    go_wp2_with fail
    refine HT.out.mono ?_
    rintro e w10 ⟨rfl, ht9⟩
    obtain ⟨sab, hsab⟩ : ∃ sab, sab = actS sa ⟨kb, nb, ib, db, mb⟩ := ⟨_, rfl⟩
    rw [← hsab] at ht9
    have Hsab := Lib.hid hsab
    have hqsab : sab.cnt ≤ sa.cnt + 1 := by rw [hsab]; exact act_cnt HTW.out.ok.1 _
    clear HT HTW hsab
    have HTW := Lib.hid ht9
    have HQsab := Lib.hid hqsab
    clear ht9 hqsab ha0 ha1 ha2 ha3 ha4
    have htws := HTW.out.swap
    clear HTW
    have HTW := Lib.hid htws
    clear htws
    obtain ⟨ha0, ha1, ha2, ha3, ha4⟩ := HCB.out w10 HTW.out.far
    have ht := act_two gc (x + 1) g (x) r row s sab ⟨kb, nb, ib, db, mb⟩ Ab cb w0 w10 HTW.out (by have := HC.out; omega) HLB.out.1 HLB.out.2.1 HLB.out.2.2
    unfold aV at ht
    dsimp only at ht
    have HT := Lib.hid ht
    clear ht
    go_wp2_with fail
    refine HT.out.mono ?_
    rintro e w11 ⟨rfl, ht9⟩
    obtain ⟨sb, hsb⟩ : ∃ sb, sb = actS s ⟨kb, nb, ib, db, mb⟩ := ⟨_, rfl⟩
    rw [← hsb] at ht9
    have Hsb := Lib.hid hsb
    have hqsb : sb.cnt ≤ s.cnt + 1 := by rw [hsb]; exact act_cnt HTW.out.ok.1 _
    clear HT HTW hsb
    have HTW := Lib.hid ht9
    have HQsb := Lib.hid hqsb
    clear ht9 hqsb ha0 ha1 ha2 ha3 ha4
    obtain ⟨ha0, ha1, ha2, ha3, ha4⟩ := HCA.out w11 HTW.out.far
    have ht := act_two gc (x + 1) g (x) r row sb sab ⟨ka, na, ia, da, ma⟩ Aa ca w0 w11 HTW.out (by have := HC.out; have := HQsb.out; omega) HLA.out.1 HLA.out.2.1 HLA.out.2.2
    unfold aV at ht
    dsimp only at ht
    have HT := Lib.hid ht
    clear ht
    go_wp2_with fail
    refine HT.out.mono ?_
    rintro e w12 ⟨rfl, ht9⟩
    obtain ⟨sba, hsba⟩ : ∃ sba, sba = actS sb ⟨ka, na, ia, da, ma⟩ := ⟨_, rfl⟩
    rw [← hsba] at ht9
    have Hsba := Lib.hid hsba
    have hqsba : sba.cnt ≤ sb.cnt + 1 := by rw [hsba]; exact act_cnt HTW.out.ok.1 _
    clear HT HTW hsba
    have HTW := Lib.hid ht9
    have HQsba := Lib.hid hqsba
    clear ht9 hqsba ha0 ha1 ha2 ha3 ha4
    have htws := HTW.out.swap
    clear HTW
    have HTW := Lib.hid htws
    clear htws
    have HCQ := Lib.hid (show sab.cnt ≤ 68719476736 ∧ sba.cnt ≤ 68719476736 by have := HC.out; have := HQsa.out; have := HQsab.out; have := HQsb.out; have := HQsba.out; exact ⟨by omega, by omega⟩)
    obtain ⟨A1, c1, A2, c2, hx1, hy1, hr1⟩ := two_len HTW.out
    have hr1 : w12.cell? ⟨r, 1, none⟩ = some (.slice Au nu cu) := by rw [HROW.out] at hr1; rw [cell_of_row w12 r 1 _ _ _ hr1]; rfl
    obtain ⟨n2, hn2⟩ : ∃ n2, n2 = sab.unsure.length := ⟨_, rfl⟩
    obtain ⟨n3, hn3⟩ : ∃ n3, n3 = sba.unsure.length := ⟨_, rfl⟩
    rw [← hn2] at hx1
    rw [← hn3] at hy1
    have HN2 := Lib.hid hn2
    have HN3 := Lib.hid hn3
    have hbu : nu ≤ 1099511627776 := HNN.out
    have hb2 : n2 ≤ 1099511627776 := by have := HCQ.out.1; unfold DS.cnt at this; omega
    have hb3 : n3 ≤ 1099511627776 := by have := HCQ.out.2; unfold DS.cnt at this; omega
    clear hn2 hn3
    go_upto_region 11 with fail
    go_cut [178] (fun cc wx => ∃ bb, cc = .bool bb ∧ Below w12.heap.size w12 wx ∧ (bb = false → n2 = nu + 2 ∧ n3 = nu + 2))
    case first =>
      as_aux_lemma =>
        clear HTW HCA HCB HLA HLB
        have w2 : wrap64 ((nu : Int) + 2) = (nu : Int) + 2 := IntWalk.wrap64_in _ ⟨by omega, by omega⟩
        by_cases h2 : n2 = nu + 2
        · have d2 : ((n2 : Int) != (nu : Int) + 2) = false := by simp; omega
          by_cases h3 : n3 = nu + 2
          · have d3 : ((n3 : Int) != (nu : Int) + 2) = false := by simp; omega
            go_quiet (fail)
            go_wp2
            go_meet
            exact ⟨false, rfl, belowDrewN (Below.refl _ _) _, fun _ => ⟨h2, h3⟩⟩
          · have d3 : ((n3 : Int) != (nu : Int) + 2) = true := by simp; omega
            go_quiet (fail)
            go_wp2
            go_meet
            exact ⟨true, rfl, belowDrewN (Below.refl _ _) _, fun e => by cases e⟩
        · have d2 : ((n2 : Int) != (nu : Int) + 2) = true := by simp; omega
          go_quiet (fail)
          go_wp2
          go_meet
          exact ⟨true, rfl, belowDrewN (Below.refl _ _) _, fun e => by cases e⟩
    obtain ⟨bb, rfl, hb13, hif⟩ := hcut
    clear hx1 hy1 hr1 hbu hb2 hb3
    have HT13 := Lib.hid (HTW.out.below hb13)
    clear HTW hb13
    cases bb with
    | true =>
      clear hif
      have HB13 := Lib.hid (By.ext HB0.out HT13.out.far)
      go_wp2
      go_ret
      exact ⟨rfl, HB13.out⟩
    | false =>
      obtain ⟨h2, h3⟩ := hif rfl
      have HFI := Lib.hid (show sba.files = sab.files from by
        obtain ⟨-, hf, hnn, hka, hkb⟩ := HIM.out
        have hl1 : (actS (actS s ⟨ka, na, ia, da, ma⟩) ⟨kb, nb, ib, db, mb⟩).unsure.length = s.unsure.length + 2 := by rw [← Hsa.out, ← Hsab.out, ← HN2.out, ← HNU.out]; exact h2
        have hl2 : (actS (actS s ⟨kb, nb, ib, db, mb⟩) ⟨ka, na, ia, da, ma⟩).unsure.length = s.unsure.length + 2 := by rw [← Hsb.out, ← Hsba.out, ← HN3.out, ← HNU.out]; exact h3
        have e1 := act_both hf (a := ⟨ka, na, ia, da, ma⟩) (b := ⟨kb, nb, ib, db, mb⟩) hka hkb hl1
        have e2 := act_both hf (a := ⟨kb, nb, ib, db, mb⟩) (b := ⟨ka, na, ia, da, ma⟩) hkb hka hl2
        rw [← Hsa.out, ← Hsab.out] at e1
        rw [← Hsb.out, ← Hsba.out] at e2
        rw [e1, e2]
        exact (swap_files HP1.out.ok (a := ⟨ka, na, ia, da, ma⟩) (b := ⟨kb, nb, ib, db, mb⟩) hnn).symm)
      have HND := Lib.hid (show Nmd sab ∧ Nmd sba from ⟨by rw [Hsab.out, Hsa.out]; exact nmd_act (nmd_act HNMD.out _) _, by rw [Hsba.out, Hsb.out]; exact nmd_act (nmd_act HNMD.out _) _⟩)
      have HB00 := Lib.hid HB0.out
      clear hif h2 h3 HIM HCA HCB HLA HLB HN2 HN3 Hsa Hsab Hsb Hsba HQsa HQsab HQsb HQsba HOA HOB HROW HNN HNU HX HNV
      have hal := alike_two g x gc (x + 1) r row sab sba w0 wc HT13.out HCQ.out.1 HND.out.1
      have HAL := Lib.hid hal
      clear hal
      go_wp2_with fail
      refine HAL.out.mono ?_
      rintro e w14 ⟨rfl, hb14⟩
      have HT14 := Lib.hid (HT13.out.below hb14).swap
      clear hb14 HAL HT13
      have hal := alike_two gc (x + 1) g x r row sba sab w0 w14 HT14.out HCQ.out.2 HND.out.2
      have HAL := Lib.hid hal
      clear hal
      go_wp2_with fail
      refine HAL.out.mono ?_
      rintro e w15 ⟨rfl, hb15⟩
      have HOK := Lib.hid HT14.out.ok
      have HD15 := Lib.hid (HT14.out.below hb15).disks.swap
      clear hb15 HAL HT14
      have HFA := Lib.hid (fall_two g gc sab sba w0 w15 HD15.out HCQ.out.1)
      go_wp2_with fail
      refine HFA.out.mono ?_
      rintro e w16 ⟨rfl, hd16⟩
      have HD16 := Lib.hid hd16.swap
      clear hd16 HFA HD15
      have HFA := Lib.hid (fall_two gc g sba (calmS sab.files sab.room) w0 w16 HD16.out HCQ.out.2)
      go_wp2_with fail
      refine HFA.out.mono ?_
      rintro e w17 ⟨rfl, hd17⟩
      rw [HFI.out] at hd17
      have HUP := Lib.hid (show Up sab.files from up_all HOK.out.2.up)
      have HNM := Lib.hid (nmd_files HND.out.1)
      have HFL := Lib.hid (Nat.le_trans (files_le HOK.out.2) HCQ.out.1)
      obtain ⟨F, hF⟩ : ∃ F, F = sab.files := ⟨_, rfl⟩
      rw [← hF] at hd17 HUP HNM HFL
      obtain ⟨t1, ht1⟩ : ∃ t1, t1 = calmS F sab.room := ⟨_, rfl⟩
      obtain ⟨t2, ht2⟩ : ∃ t2, t2 = calmS F sba.room := ⟨_, rfl⟩
      rw [← ht1, ← ht2] at hd17
      have HD17 := Lib.hid hd17.swap
      have HT1 := Lib.hid (show t1.files = F ∧ t1.down = false ∧ t1.cnt ≤ 68719476736 by rw [ht1]; exact ⟨rfl, rfl, (show F.length + 0 ≤ _ from HFL.out)⟩)
      have HT2 := Lib.hid (show t2.files = F ∧ t2.down = false ∧ t2.cnt ≤ 68719476736 by rw [ht2]; exact ⟨rfl, rfl, (show F.length + 0 ≤ _ from HFL.out)⟩)
      have HNL := Lib.hid (show (namesOf F).length = F.length by simp [namesOf])
      clear hd17 hF ht1 ht2 HFA HD16 HFI HND HOK HCQ
      have hna := names_two g gc t1 t2 w0 w17 HD17.out HT1.out.2.2
      rw [show namesS t1 = namesOf F by unfold namesS; rw [HT1.out.2.1, HT1.out.1]; simp] at hna
      have HNA := Lib.hid hna
      clear hna
      go_wp2_with fail
      refine HNA.out.mono ?_
      rintro e w18 ⟨v18, rfl, ho18, hb18⟩
      have HD18 := Lib.hid (HD17.out.below hb18).swap
      have hna := names_two gc g t2 t1 w0 w18 HD18.out HT2.out.2.2
      rw [show namesS t2 = namesOf F by unfold namesS; rw [HT2.out.2.1, HT2.out.1]; simp] at hna
      have HNB := Lib.hid hna
      obtain ⟨Am, cm, hv18⟩ := ownsRow_form ho18
      rw [HNL.out] at hv18
      subst hv18
      have HO18 := Lib.hid ho18
      clear hna ho18 hb18 HNA HD17
      go_wp2_with fail
      refine HNB.out.mono ?_
      rintro e w19 ⟨v19, rfl, ho19, hb19⟩
      obtain ⟨An, cn, hv19⟩ := ownsRow_form ho19
      rw [HNL.out] at hv19
      subst hv19
      have HDX := Lib.hid (HD18.out.below hb19).swap
      have HO1 := Lib.hid (show OwnSs w17.heap.size w19 (.slice Am F.length cm) (namesOf F) from ownsRow_keep HO18.out (fun b hb => hb19.block b (ownsRow_lt HO18.out hb).2))
      have HO2 := Lib.hid ho19
      have HST0 := Lib.hid (Below.refl w19.heap.size w19)
      clear ho19 hb19 HNB HD18 HO18
      go_wp2
      go_loopw [17] (fun i wr => ∃ k : Nat, k ≤ F.length ∧ i = .int .i64 (k : Int) ∧ Below w19.heap.size w19 wr) (fun i _ => F.length - (intOf i).toNat)
      case atStart => exact ⟨0, Nat.zero_le _, rfl, HST0.out⟩
      case round =>
        as_aux_lemma =>
          obtain ⟨k, hk, rfl, hb⟩ := hrel
          have HBK := Lib.hid hb
          clear hb
          have hfll := HFL.out
          by_cases hlt : k < F.length
          · obtain ⟨um, hA1, hum, hcm⟩ := ss_cell HO1.out rfl hlt
            obtain ⟨un, hA2, hun, hcn⟩ := ss_cell HO2.out rfl hlt
            subst hA1
            subst hA2
            obtain ⟨p, hp⟩ : ∃ p, p = F[k] := ⟨_, rfl⟩
            have hpm : p ∈ F := hp ▸ List.getElem_mem hlt
            rw [← hp] at hcm hcn
            have hq0 : wr.cell? ⟨um, k, none⟩ = some (.string (str p.1)) := (HBK.out.cell hum).trans hcm
            have hq1 : wr.cell? ⟨un, k, none⟩ = some (.string (str p.1)) := (HBK.out.cell hun).trans hcn
            have hnp : named p.1 = true := HNM.out p hpm
            have hgp : fget F p.1 = some p.2 := fget_mem HUP.out hpm
            have hre1 : readE t1 p.1 = 0 := by unfold readE fthere; rw [HT1.out.1, HT1.out.2.1, hnp, hgp]; simp
            have hrb1 : readB t1 p.1 = p.2 := by unfold readB bytesOf; rw [hre1, if_pos rfl, HT1.out.1, hgp]; rfl
            have hre2 : readE t2 p.1 = 0 := by unfold readE fthere; rw [HT2.out.1, HT2.out.2.1, hnp, hgp]; simp
            have hrb2 : readB t2 p.1 = p.2 := by unfold readB bytesOf; rw [hre2, if_pos rfl, HT2.out.1, hgp]; rfl
            have hnl : p.1.length ≤ 140737488355328 := by
              rw [named_eq, Bool.and_eq_true, Bool.and_eq_true, decide_eq_true_eq, decide_eq_true_eq] at hnp
              omega
            have HNLE := Lib.hid hnl
            have HRB := Lib.hid (And.intro hre2 hrb2)
            have hrd := read_two g gc t1 t2 w0 wr p.1 (HDX.out.below HBK.out) hnl
            rw [hre1, hrb1] at hrd
            have HR1 := Lib.hid hrd
            clear hpm hp hcm hcn hnp hgp hre1 hrb1 hre2 hrb2 hrd hnl
            go_wp2_with fail
            refine HR1.out.mono ?_
            rintro e wx ⟨vx, rfl, hox, hbx⟩
            obtain ⟨Ax, cx, rfl, _, _, _, hlx, _⟩ := hox.form
            have hux : um < wr.heap.size ∧ un < wr.heap.size := by have := HBK.out.size; exact ⟨by omega, by omega⟩
            have hqx0 : wx.cell? ⟨um, k, none⟩ = some (.string (str p.1)) := (hbx.cell hux.1).trans hq0
            have hqx1 : wx.cell? ⟨un, k, none⟩ = some (.string (str p.1)) := (hbx.cell hux.2).trans hq1
            have hrd := read_two gc g t2 t1 w0 wx p.1 ((HDX.out.below (By.ext HBK.out hbx)).swap) HNLE.out
            rw [HRB.out.1, HRB.out.2] at hrd
            have HR2 := Lib.hid hrd
            have HLX := Lib.hid hlx
            have HBX := Lib.hid (By.ext HBK.out hbx)
            clear hox hbx hlx hq0 hq1 hrd HR1 hux
            go_wp2_with fail
            refine HR2.out.mono ?_
            rintro e wy ⟨vy, rfl, hoy, hby⟩
            obtain ⟨Ay, cy, rfl, _, _, _, hly, _⟩ := hoy.form
            have huy : um < wx.heap.size ∧ un < wx.heap.size := by have := HBX.out.size; exact ⟨by omega, by omega⟩
            have hqy0 : wy.cell? ⟨um, k, none⟩ = some (.string (str p.1)) := (hby.cell huy.1).trans hqx0
            have hqy1 : wy.cell? ⟨un, k, none⟩ = some (.string (str p.1)) := (hby.cell huy.2).trans hqx1
            have htx := fun q => run_text (wy.drewN q) (n := p.2.length) cx rfl ((HLX.out.below hby).drewN q)
            have hty := fun q => run_text (wy.drewN q) (n := p.2.length) cy rfl (hly.drewN q)
            have hsd : ((str p.2).toList != (str p.2).toList) = false := bne_self_eq_false _
            have hsn : ((str p.1).toList != (str p.1).toList) = false := bne_self_eq_false _
            have HBY := Lib.hid (By.ext HBX.out hby)
            clear hoy hby hly hqx0 hqx1 HR2 huy
            go_wp2
            go_quiet (fail)
            go_wp2
            go_roundw
            case rel => exact ⟨k + 1, by omega, by go_num, belowDrewN HBY.out _⟩
            case measure => simp [intOf]; omega
          · have hke : k = F.length := by omega
            subst hke
            have HB := Lib.hid (By.ext (By.ext HB00.out HDX.out.far) HBK.out)
            go_wp2
            go_ret
            exact ⟨rfl, HB.out⟩
end Go.Proofs.Ytcfnfphnjkllcaa.Dk
