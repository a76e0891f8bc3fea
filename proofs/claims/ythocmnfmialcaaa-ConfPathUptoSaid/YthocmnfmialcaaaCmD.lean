/- The law ConfBack, walked. Written by gencn6.py. -/
import Derived.Test.YthocmnfmialcaaaCmC
namespace Go.Proofs.Ythocmnfmialcaaa.Cn
open Go.RowKit Go.ChangeAt By CoP Co Mo Kd Go.Shelf
variable {w W w' : World} {A A2 : Option Addr} {n c m c2 : Nat} {vs ls : List Int}
theorem same_self {A3 A4 : Option Addr} {n3 c3 n4 c4 : Nat} (h : CfAt w (Old w) A n c A2 m c2 vs ls) (k : CfAt w (Old w) A3 n3 c3 A4 n4 c4 vs ls) : Calls Try.prog 21 #[cfV A n c A2 m c2, cfV A3 n3 c3 A4 n4 c4] w (Says true w) := by
  have := sameC_any h k
  rwa [decide_eq_true rfl, decide_eq_true rfl] at this
theorem CfAt.oldN {w0 w : World} (h : CfAt w (New w0 w) A n c A2 m c2 vs ls) : CfAt w (Old w) A n c A2 m c2 vs ls := h.less (fun _ hb => hb.2)
theorem CfAt.oldF {w0 w : World} (h : CfAt w (NewF w0 w) A n c A2 m c2 vs ls) : CfAt w (Old w) A n c A2 m c2 vs ls := h.less (fun _ hb => hb.1.2)
theorem row_stays {w w' : World} {g : Nat} {X : Obj} (h : w.heap[g]? = some X) (hb : Below w.heap.size w w') : w'.heap[g]? = some X := (hb.block _ (row_lt' h)).trans h
set_option maxHeartbeats 4000000 in
theorem confBack_walk (h : CfAt w (Old w) A n c A2 m c2 vs ls) (x : Int) (hx : I64 x) : Calls Try.prog 7 #[cfV A n c A2 m c2, .int .i64 x] w (Says true w) := by
  obtain ⟨W, hW⟩ : ∃ W, W = w.alloc (.cells #[.slice A n c, .slice A2 m c2] 24) := ⟨_, rfl⟩
  have hbW : Below w.heap.size w W := by rw [hW]; exact (Below.refl _ _).alloc (Nat.le_refl _) _
  have hrow : W.heap[w.heap.size]? = some (.cells #[.slice A n c, .slice A2 m c2] 24 (0, 0)) := by rw [hW]; exact heap_alloc_new w _
  obtain ⟨k0, k1⟩ := box_cells hrow
  have HO := Lib.hid (ownC_any (h.below hbW))
  have HCF := Lib.hid h
  have HBW := Lib.hid hbW
  have HRW := Lib.hid hrow
  have HX := Lib.hid hx
  clear h hbW hrow hx
  go_enter Try.func7, Try.ntmps7
  go_wp2_with fail
  rw [← hW]
  clear hW
  refine HO.out.mono ?_
  rintro e w1 ⟨A1, n1, c1, B1, m1, d1, rfl, h1, hb1⟩
  have H1 := Lib.hid h1
  have HB1 := Lib.hid hb1
  clear h1 hb1 k0 k1
  go_upto_region 2 with fail
  obtain ⟨u1, hu1⟩ : ∃ u1, u1 = w1.alloc (.cells #[.slice A1 n1 c1, .slice B1 m1 d1] 24) := ⟨_, rfl⟩
  rw [← hu1]
  have bu1 : Below w1.heap.size w1 u1 := by rw [hu1]; exact (Below.refl _ _).alloc (Nat.le_refl _) _
  have ru1 : u1.heap[w1.heap.size]? = some (.cells #[.slice A1 n1 c1, .slice B1 m1 d1] 24 (0, 0)) := by rw [hu1]; exact heap_alloc_new w1 _
  clear hu1
  obtain ⟨p0, p1⟩ := box_cells ru1
  have HU1 := Lib.hid bu1
  have HRU1 := Lib.hid ru1
  have hl := learn_any (H1.out.oldN.below bu1) x
  generalize he1 : chgE 1 vs ls x = er1 at hl
  generalize hv1 : chgV 1 vs ls x = v1 at hl
  generalize hl1 : chgL 1 vs ls x = l1 at hl
  have HL := Lib.hid hl
  have HE1 := Lib.hid he1
  have HV1 := Lib.hid hv1
  have HL1 := Lib.hid hl1
  clear hl he1 hv1 hl1 bu1 ru1
  go_wp2_with fail
  refine HL.out.mono ?_
  rintro e w2 ⟨A3, n3, c3, B3, m3, d3, rfl, h2, hb2⟩
  have H2 := Lib.hid h2
  have HB2 := Lib.hid hb2
  clear h2 hb2 p0 p1
  go_upto_region 3 with fail
  obtain ⟨u2, hu2⟩ : ∃ u2, u2 = w2.alloc (.cells #[.slice A3 n3 c3, .slice B3 m3 d3] 24) := ⟨_, rfl⟩
  rw [← hu2]
  have bu2 : Below w2.heap.size w2 u2 := by rw [hu2]; exact (Below.refl _ _).alloc (Nat.le_refl _) _
  have ru2 : u2.heap[w2.heap.size]? = some (.cells #[.slice A3 n3 c3, .slice B3 m3 d3] 24 (0, 0)) := by rw [hu2]; exact heap_alloc_new w2 _
  clear hu2
  have HU2 := Lib.hid bu2
  have HRU2 := Lib.hid ru2
  have HA2 := Lib.hid (H2.out.oldF.below bu2)
  have HWu2 := Lib.hid (By.ext HB1.out (By.ext HU1.out (By.ext HB2.out bu2)))
  have H1u2 := Lib.hid (By.ext HU1.out (By.ext HB2.out bu2))
  have HUu2 := Lib.hid (By.ext HB2.out bu2)
  clear bu2 ru2
  go_wp2_with fail
  refine (answers_any u2).mono ?_
  rintro e w3 ⟨rfl, hb3⟩
  have hc3 := HCF.out.below (By.ext HBW.out (By.ext HWu2.out hb3))
  have hi3 := H1.out.oldN.below (By.ext H1u2.out hb3)
  have HS3 := Lib.hid (same_self hi3 hc3)
  obtain ⟨k0, k1⟩ := box_cells (row_stays HRW.out (By.ext HWu2.out hb3))
  obtain ⟨p0, p1⟩ := box_cells (row_stays HRU1.out (By.ext HUu2.out hb3))
  have HB3 := Lib.hid hb3
  clear hb3 hc3 hi3
  go_wp2_with fail
  refine HS3.out.mono ?_
  rintro e w4 ⟨rfl, hb4⟩
  have HB4 := Lib.hid (By.ext HB3.out hb4)
  have HW4 := Lib.hid (By.ext HWu2.out (By.ext HB3.out hb4))
  have H14 := Lib.hid (By.ext H1u2.out (By.ext HB3.out hb4))
  have HU14 := Lib.hid (By.ext HUu2.out (By.ext HB3.out hb4))
  clear hb4 k0 k1 p0 p1
  by_cases he : er1 = 0
  · have hE := HE1.out
    rw [he] at hE
    obtain ⟨g1, g2, g3⟩ := back_one hE
    obtain ⟨g4, g5, g6, g7⟩ := back_learn hE
    have hs2 := chg_sound (.inl rfl) hE
    rw [HV1.out, HL1.out] at hs2
    have gv : v1 = vs := HV1.out.symm.trans g4
    have gl : l1 = wthL x ls := HL1.out.symm.trans g5
    have ha4 := HA2.out.below HB4.out
    have hlv := leave_any ha4 x
    rw [gv, gl, g1, g2, g3] at hlv
    have HLV := Lib.hid hlv
    have HS2 := Lib.hid hs2
    have HGV := Lib.hid gv
    have HGL := Lib.hid gl
    have HG6 := Lib.hid g6
    obtain ⟨q0, q1⟩ := box_cells (row_stays HRU2.out HB4.out)
    subst he
    clear hE g1 g2 g3 g4 g5 g6 g7 hs2 gv gl ha4 hlv
    go_wp2_with fail
    refine HLV.out.mono ?_
    rintro e w5 ⟨A5, n5, c5, B5, m5, d5, rfl, h5, hb5⟩
    have H5 := Lib.hid h5
    have HB5 := Lib.hid hb5
    clear h5 hb5 q0 q1
    go_upto_region 7 with fail
    obtain ⟨u5, hu5⟩ : ∃ u5, u5 = w5.alloc (.cells #[.slice A5 n5 c5, .slice B5 m5 d5] 24) := ⟨_, rfl⟩
    rw [← hu5]
    have bu5 : Below w5.heap.size w5 u5 := by rw [hu5]; exact (Below.refl _ _).alloc (Nat.le_refl _) _
    have ru5 : u5.heap[w5.heap.size]? = some (.cells #[.slice A5 n5 c5, .slice B5 m5 d5] 24 (0, 0)) := by rw [hu5]; exact heap_alloc_new w5 _
    clear hu5
    have HW5 := Lib.hid (By.ext HW4.out (By.ext HB5.out bu5))
    have HU5 := Lib.hid (By.ext HB4.out (By.ext HB5.out bu5))
    obtain ⟨k0, k1⟩ := box_cells (row_stays HRW.out HW5.out)
    obtain ⟨t0, t1⟩ := box_cells ru5
    have HRU5 := Lib.hid ru5
    have HS5 := Lib.hid (same_self (H5.out.oldF.below bu5) (HCF.out.below (By.ext HBW.out HW5.out)))
    clear bu5 ru5
    go_wp2_with fail
    refine HS5.out.mono ?_
    rintro e w6 ⟨rfl, hb6⟩
    have HU6 := Lib.hid (By.ext HU5.out hb6)
    have HW6 := Lib.hid (By.ext HW5.out hb6)
    obtain ⟨q0, q1⟩ := box_cells (row_stays HRU2.out HU6.out)
    have hm6 := rMember_any (HA2.out.below HU6.out) x HX.out.1 HX.out.2
    rw [HS2.out, HGL.out, decide_eq_true (mem_wthL.2 (.inl rfl)), Bool.or_true] at hm6
    have HM6 := Lib.hid hm6
    clear hb6 k0 k1 t0 t1 hm6
    go_wp2_with fail
    refine HM6.out.mono ?_
    rintro e w7 ⟨rfl, hb7⟩
    have HU7 := Lib.hid (By.ext HU6.out hb7)
    have HW7 := Lib.hid (By.ext HW6.out hb7)
    obtain ⟨q0, q1⟩ := box_cells (row_stays HRU2.out HU7.out)
    have hm7 := rVoter_any (HA2.out.below HU7.out) x HX.out.1 HX.out.2
    rw [HS2.out, HGV.out, decide_eq_false HG6.out] at hm7
    have HM7 := Lib.hid hm7
    clear hb7 hm7
    go_wp2_with fail
    refine HM7.out.mono ?_
    rintro e w8 ⟨rfl, hb8⟩
    have HW8 := Lib.hid (By.ext HW7.out hb8)
    clear hb8 q0 q1
    go_wp2
    go_ret
    exact ⟨rfl, By.ext HBW.out HW8.out⟩
  · have e1 : (er1 == 0) = false := by rw [beq_eq_false_iff_ne]; exact he
    have hi4 := H1.out.oldN.below H14.out
    have hlv := leave_any hi4 x
    generalize he3 : chgE 3 vs ls x = er3 at hlv
    generalize hv3 : chgV 3 vs ls x = v3 at hlv
    generalize hl3 : chgL 3 vs ls x = l3 at hlv
    have HLV := Lib.hid hlv
    have HE3 := Lib.hid he3
    have HV3 := Lib.hid hv3
    have HL3 := Lib.hid hl3
    obtain ⟨p0, p1⟩ := box_cells (row_stays HRU1.out HU14.out)
    clear he hi4 hlv he3 hv3 hl3
    go_wp2_with fail
    refine HLV.out.mono ?_
    rintro e w5 ⟨A5, n5, c5, B5, m5, d5, rfl, h5, hb5⟩
    have H5 := Lib.hid h5
    have HB5 := Lib.hid hb5
    clear h5 hb5 p0 p1
    go_upto_region 9 with fail
    obtain ⟨u5, hu5⟩ : ∃ u5, u5 = w5.alloc (.cells #[.slice A5 n5 c5, .slice B5 m5 d5] 24) := ⟨_, rfl⟩
    rw [← hu5]
    have bu5 : Below w5.heap.size w5 u5 := by rw [hu5]; exact (Below.refl _ _).alloc (Nat.le_refl _) _
    have ru5 : u5.heap[w5.heap.size]? = some (.cells #[.slice A5 n5 c5, .slice B5 m5 d5] 24 (0, 0)) := by rw [hu5]; exact heap_alloc_new w5 _
    clear hu5
    have HU5 := Lib.hid bu5
    have HRU5 := Lib.hid ru5
    have HW5 := Lib.hid (By.ext HW4.out (By.ext HB5.out bu5))
    have H15 := Lib.hid (By.ext H14.out (By.ext HB5.out bu5))
    have HU15 := Lib.hid (By.ext HU14.out (By.ext HB5.out bu5))
    obtain ⟨k0, k1⟩ := box_cells (row_stays HRW.out HW5.out)
    obtain ⟨p0, p1⟩ := box_cells (row_stays HRU1.out HU15.out)
    clear bu5 ru5
    by_cases hz : er3 = 0
    case neg =>
      have e2 : (er3 != 0) = true := by rw [bne_iff_ne]; exact hz
      have HS5 := Lib.hid (same_self (H1.out.oldN.below H15.out) (HCF.out.below (By.ext HBW.out HW5.out)))
      clear hz
      go_wp2_with fail
      refine HS5.out.mono ?_
      rintro e w6 ⟨rfl, hb6⟩
      have HW6 := Lib.hid (By.ext HW5.out hb6)
      clear hb6
      go_wp2
      go_ret
      exact ⟨rfl, By.ext HBW.out HW6.out⟩
    have hE3 := HE3.out
    rw [hz] at hE3
    obtain ⟨hs, hx1, hx2⟩ := chg_ok hE3
    have hvo := rVoter_any (HCF.out.below (By.ext HBW.out HW5.out)) x HX.out.1 HX.out.2
    rw [hs, Bool.true_and] at hvo
    subst hz
    by_cases hxv : x ∈ vs
    case neg =>
      rw [decide_eq_false hxv] at hvo
      have HVO := Lib.hid hvo
      clear hE3 hs hx1 hx2 hvo hxv
      go_wp2_with fail
      refine HVO.out.mono ?_
      rintro e w6 ⟨rfl, hb6⟩
      have HW6 := Lib.hid (By.ext HW5.out hb6)
      have H16 := Lib.hid (By.ext H15.out hb6)
      obtain ⟨k0, k1⟩ := box_cells (row_stays HRW.out HW6.out)
      obtain ⟨p0, p1⟩ := box_cells (row_stays HRU1.out (By.ext HU15.out hb6))
      have HS6 := Lib.hid (same_self (H1.out.oldN.below H16.out) (HCF.out.below (By.ext HBW.out HW6.out)))
      clear hb6
      go_wp2_with fail
      refine HS6.out.mono ?_
      rintro e w7 ⟨rfl, hb7⟩
      have HW7 := Lib.hid (By.ext HW6.out hb7)
      clear hb7
      go_wp2
      go_ret
      exact ⟨rfl, By.ext HBW.out HW7.out⟩
    rw [decide_eq_true hxv] at hvo
    have HVO := Lib.hid hvo
    obtain ⟨g1, g2, g3, g4, g5, g6, g7, g8, g9⟩ := back_two hE3 hxv
    have gv : v3 = woL x vs := HV3.out.symm.trans g1
    have gl : l3 = ls := HL3.out.symm.trans g2
    have HX5 := Lib.hid (show CfAt w5 (NewF w4 w5) A5 n5 c5 B5 m5 d5 (woL x vs) ls from gv ▸ gl ▸ H5.out)
    have HG3 := Lib.hid g3
    have HLE := Lib.hid (fun (w : World) (A : Option Addr) (n c : Nat) (A2 : Option Addr) (m c2 : Nat) (h : CfAt w (Old w) A n c A2 m c2 (woL x vs) ls) => show Calls Try.prog 25 #[cfV A n c A2 m c2, .int .i64 x] w (GivesC NewF 0 (woL x vs) (wthL x ls) w) from by
      have := learn_any h x
      rwa [g4, g5, g6] at this)
    have HVT := Lib.hid (fun (w : World) (A : Option Addr) (n c : Nat) (A2 : Option Addr) (m c2 : Nat) (h : CfAt w (Old w) A n c A2 m c2 (woL x vs) (wthL x ls)) => show Calls Try.prog 27 #[cfV A n c A2 m c2, .int .i64 x] w (GivesC NewF 0 vs ls w) from by
      have := vote_any h x
      rwa [g7, g8, g9] at this)
    clear hE3 hs hx1 hx2 hvo hxv g1 g2 g3 g4 g5 g6 g7 g8 g9 gv gl
    go_wp2_with fail
    refine HVO.out.mono ?_
    rintro e w6 ⟨rfl, hb6⟩
    have HB6 := Lib.hid hb6
    have HU56 := Lib.hid (By.ext HU5.out hb6)
    obtain ⟨s0, s1⟩ := box_cells (row_stays HRU5.out hb6)
    clear hb6 k0 k1 p0 p1
    go_wp2_with fail
    refine (HLE.out w6 _ _ _ _ _ _ (HX5.out.oldF.below HU56.out)).mono ?_
    rintro e w7 ⟨A7, n7, c7, B7, m7, d7, rfl, h7, hb7⟩
    have H7 := Lib.hid h7
    have HB7 := Lib.hid hb7
    clear h7 hb7 s0 s1
    go_upto_region 12 with fail
    obtain ⟨u7, hu7⟩ : ∃ u7, u7 = w7.alloc (.cells #[.slice A7 n7 c7, .slice B7 m7 d7] 24) := ⟨_, rfl⟩
    rw [← hu7]
    have bu7 : Below w7.heap.size w7 u7 := by rw [hu7]; exact (Below.refl _ _).alloc (Nat.le_refl _) _
    have ru7 : u7.heap[w7.heap.size]? = some (.cells #[.slice A7 n7 c7, .slice B7 m7 d7] 24 (0, 0)) := by rw [hu7]; exact heap_alloc_new w7 _
    clear hu7
    have HU7 := Lib.hid bu7
    obtain ⟨y0, y1⟩ := box_cells ru7
    have HY7 := Lib.hid (H7.out.oldF.below bu7)
    clear bu7 ru7
    go_wp2_with fail
    refine (HVT.out u7 _ _ _ _ _ _ HY7.out).mono ?_
    rintro e w8 ⟨A8, n8, c8, B8, m8, d8, rfl, h8, hb8⟩
    have H8 := Lib.hid h8
    have HB8 := Lib.hid hb8
    clear h8 hb8 y0 y1
    go_upto_region 13 with fail
    obtain ⟨u8, hu8⟩ : ∃ u8, u8 = w8.alloc (.cells #[.slice A8 n8 c8, .slice B8 m8 d8] 24) := ⟨_, rfl⟩
    rw [← hu8]
    have bu8 : Below w8.heap.size w8 u8 := by rw [hu8]; exact (Below.refl _ _).alloc (Nat.le_refl _) _
    have ru8 : u8.heap[w8.heap.size]? = some (.cells #[.slice A8 n8 c8, .slice B8 m8 d8] 24 (0, 0)) := by rw [hu8]; exact heap_alloc_new w8 _
    clear hu8
    have HU8 := Lib.hid bu8
    have HRU8 := Lib.hid ru8
    have h58 := By.ext HU5.out (By.ext HB6.out (By.ext HB7.out (By.ext HU7.out (By.ext HB8.out bu8))))
    have hu58 := By.ext HB6.out (By.ext HB7.out (By.ext HU7.out (By.ext HB8.out bu8)))
    have hc8 := By.ext HW5.out hu58
    have h18 := By.ext H15.out hu58
    have hu18 := By.ext HU15.out hu58
    -- the row of what is written
    obtain ⟨hn5, _, hv5, _, _, _, _⟩ := HX5.out
    obtain ⟨g, og, rfl, hgS, hgc⟩ := hv5 HG3.out
    have hglo : w4.heap.size ≤ g := hgS.1.1
    have hghi : g < w5.heap.size := hgS.1.2
    have hfree : Free u8 g := hgS.2.keep (h58.block g hghi)
    have hcells : ∀ j, j < n5 → (u8.cell? ⟨g, og + j, none⟩).isSome = true := fun j hj => by
      have hj2 : j < (woL x vs).length := by omega
      have h1 := (hgc j _ (List.getElem?_eq_getElem hj2)).1
      rw [(World.cell?_of_block (w := w5) (a := ⟨g, og + j, none⟩) (h58.block g hghi)).trans h1]; rfl
    -- what stays
    have hT0 : Turn w4.heap.size w5.heap.size u8 u8 := Turn.refl _ _ _
    have z4 := HW4.out.size
    have z15 := H14.out.size
    have zu14 := HU14.out.size
    have z5 := HB5.out.size
    have zu5 := HU5.out.size
    have z58 := h58.size
    have z8 := HU8.out.size
    have zu5' := row_lt' HRU5.out
    have zru1 := row_lt' HRU1.out
    have zrw := row_lt' HRW.out
    have zB1 := HB1.out.size
    have zB6 := HB6.out.size
    have zB7 := HB7.out.size
    have zU7 := HU7.out.size
    have zB8 := HB8.out.size
    have hkx : ∀ w', Turn w4.heap.size w5.heap.size u8 w' → w'.cell? ⟨w5.heap.size, 0, none⟩ = some (.slice (some ⟨g, og, none⟩) n5 c5) := fun w' ht =>
      (box_cells ((ht.block _ (by omega) (.inr (Nat.le_refl _))).trans (row_stays HRU5.out hu58))).1
    have hkc : ∀ w', Turn w4.heap.size w5.heap.size u8 w' → w'.cell? ⟨w.heap.size, 0, none⟩ = some (.slice A n c) ∧ w'.cell? ⟨w.heap.size, 1, none⟩ = some (.slice A2 m c2) := fun w' ht =>
      box_cells ((ht.block _ (by omega) (.inl (by omega))).trans (row_stays HRW.out hc8))
    have hki : ∀ w', Turn w4.heap.size w5.heap.size u8 w' → w'.cell? ⟨w1.heap.size, 0, none⟩ = some (.slice A1 n1 c1) ∧ w'.cell? ⟨w1.heap.size, 1, none⟩ = some (.slice B1 m1 d1) := fun w' ht =>
      box_cells ((ht.block _ (by omega) (.inl (by omega))).trans (row_stays HRU1.out hu18))
    have hkz : ∀ w', Turn w4.heap.size w5.heap.size u8 w' → w'.cell? ⟨w8.heap.size, 0, none⟩ = some (.slice A8 n8 c8) ∧ w'.cell? ⟨w8.heap.size, 1, none⟩ = some (.slice B8 m8 d8) := fun w' ht =>
      box_cells ((ht.block _ (by have := row_lt' HRU8.out; omega) (.inr (by omega))).trans HRU8.out)
    have hvc : ∀ w', Turn w4.heap.size w5.heap.size u8 w' → CfAt w' (Old w') A n c A2 m c2 vs ls := fun w' ht =>
      (HCF.out.stay (fun b hb => hb) (By.ext HBW.out hc8)).turn ht (fun b hb => ⟨by have : b < w.heap.size := hb; omega, .inl (by have : b < w.heap.size := hb; omega)⟩)
    have hvi : ∀ w', Turn w4.heap.size w5.heap.size u8 w' → CfAt w' (Old w') A1 n1 c1 B1 m1 d1 vs ls := fun w' ht =>
      (H1.out.stay (fun b hb => hb.2) h18).turn ht (fun b hb => ⟨by have := hb.2; omega, .inl (by have := hb.2; omega)⟩)
    have hvz : ∀ w', Turn w4.heap.size w5.heap.size u8 w' → CfAt w' (Old w') A8 n8 c8 B8 m8 d8 vs ls := fun w' ht =>
      (H8.out.stay (fun b hb => hb.1.2) HU8.out).turn ht (fun b hb => ⟨by have := hb.1.2; omega, .inr (by have := hb.1.1; omega)⟩)
    have hfin : ∀ w', Turn w4.heap.size w5.heap.size u8 w' → Below w.heap.size w w' := fun w' ht => ht.below (By.ext HBW.out hc8) (by omega) (by omega)
    have hn47 : n5 ≤ 16 := by
      have h1 := woL_len x vs
      have h2 := chg_ok HE3.out
      have h3 := below_sound h2.1
      omega
    have HGL := Lib.hid hglo
    have HGH := Lib.hid hghi
    have HKX := Lib.hid hkx
    have HKC := Lib.hid hkc
    have HKI := Lib.hid hki
    have HKZ := Lib.hid hkz
    have HVC := Lib.hid hvc
    have HVI := Lib.hid hvi
    have HVZ := Lib.hid hvz
    have HFIN := Lib.hid hfin
    have HFR := Lib.hid hfree
    have HCE := Lib.hid hcells
    have HT0 := Lib.hid hT0
    clear bu8 ru8 h58 hu58 hc8 h18 hu18 hn5 hv5 hgS hgc hglo hghi hfree hcells hT0 z4 z15 zu14 z5 zu5 z58 z8 zu5' zru1 zrw zB1 zB6 zB7 zU7 zB8 hkx hkc hki hkz hvc hvi hvz hfin
    go_wp2
    go_loopw [16] (fun i wr => ∃ k : Nat, k ≤ n5 ∧ i = .int .i64 k ∧ Turn w4.heap.size w5.heap.size u8 wr ∧ Free wr g ∧ ∀ j, j < n5 → (wr.cell? ⟨g, og + j, none⟩).isSome = true) (fun i _ => n5 - (intOf i).toNat)
    case atStart => exact ⟨0, Nat.zero_le _, rfl, HT0.out, HFR.out, HCE.out⟩
    case round =>
      obtain ⟨k, hk, rfl, ht, hfr, hce⟩ := hrel
      have HT := Lib.hid ht
      have HF := Lib.hid hfr
      have HC := Lib.hid hce
      have kx := HKX.out wr ht
      by_cases hkn : k < n5
      · obtain ⟨u, hu⟩ := Option.isSome_iff_exists.1 (hce k hkn)
        obtain ⟨cs, ty, hrow⟩ := hfr
        have hfz : wr.frozen? ⟨g, og + k, none⟩ = false := frozen_of_row wr g _ _ _ hrow
        have hki : (k : Int) < (n5 : Int) := by omega
        clear ht hce hrow
        go_wp2
        go_roundw
        case rel => exact ⟨k + 1, by omega, by go_num, HT.out.set HGL.out HGH.out _ _, free_set HF.out _, fun j hj => isSome_set _ (HC.out j hj)⟩
        case measure => simp [intOf]; omega
      · obtain rfl : k = n5 := by omega
        have HS9 := Lib.hid (same_self (HVZ.out wr ht) (HVC.out wr ht))
        obtain ⟨k0, k1⟩ := HKC.out wr ht
        obtain ⟨z0, z1⟩ := HKZ.out wr ht
        have HIR := Lib.hid (HVI.out wr ht)
        have HCR := Lib.hid (HVC.out wr ht)
        have hik := HKI.out wr ht
        have hck := HKC.out wr ht
        have HIK := Lib.hid hik
        have HCK := Lib.hid hck
        clear ht hfr hce hik hck
        go_wp2_with fail
        refine HS9.out.mono ?_
        rintro e w9 ⟨rfl, hb9⟩
        have HB9 := Lib.hid hb9
        have HS10 := Lib.hid (same_self (HIR.out.below hb9) (HCR.out.below hb9))
        have k0' := (hb9.cell (p := ⟨w.heap.size, 0, none⟩) (block_lt_of_cell HCK.out.1)).trans HCK.out.1
        have k1' := (hb9.cell (p := ⟨w.heap.size, 1, none⟩) (block_lt_of_cell HCK.out.2)).trans HCK.out.2
        have i0' := (hb9.cell (p := ⟨w1.heap.size, 0, none⟩) (block_lt_of_cell HIK.out.1)).trans HIK.out.1
        have i1' := (hb9.cell (p := ⟨w1.heap.size, 1, none⟩) (block_lt_of_cell HIK.out.2)).trans HIK.out.2
        clear hb9 k0 k1 z0 z1 kx
        go_wp2_with fail
        refine HS10.out.mono ?_
        rintro e w10 ⟨rfl, hb10⟩
        have HB10 := Lib.hid hb10
        clear hb10
        go_wp2
        go_ret
        exact ⟨rfl, By.ext (HFIN.out wr HT.out) (By.ext HB9.out HB10.out)⟩
end Go.Proofs.Ythocmnfmialcaaa.Cn
