/- The law ConfMeets, walked. Written by gencn5.py. -/
import Derived.Test.YthocmnfmialcaaaCnT
import Derived.Test.YthocmnfmialcaaaRE
namespace Go.Proofs.Ythocmnfmialcaaa.Cn
open Go.RowKit Go.ChangeAt By CoP Co Mo Kd Go.Shelf
variable {w W w' : World} {A A2 : Option Addr} {n c m c2 : Nat} {vs ls : List Int}
/-- The two boxes, of a configuration and of the next one. -/
structure TwoB (w D : World) (g1 g2 : Nat) (A : Option Addr) (n c : Nat) (A2 : Option Addr) (m c2 : Nat) (A3 : Option Addr) (n3 c3 : Nat) (A4 : Option Addr) (n4 c4 : Nat) (vs ls us ks : List Int) : Prop where
  below : Below w.heap.size w D
  k1 : CfAt D (Old D) A n c A2 m c2 vs ls
  k2 : CfAt D (Old D) A3 n3 c3 A4 n4 c4 us ks
  r1 : D.heap[g1]? = some (.cells #[.slice A n c, .slice A2 m c2] 24 (0, 0))
  r2 : D.heap[g2]? = some (.cells #[.slice A3 n3 c3, .slice A4 n4 c4] 24 (0, 0))
theorem mod3 (kd : Nat) : ∃ k : Nat, (k = 1 ∨ k = 2 ∨ k = 3) ∧ (kd : Int) % 3 + 1 = (k : Int) := ⟨kd % 3 + 1, by omega, by omega⟩
set_option maxHeartbeats 4000000 in
theorem confMeets_walk (h : CfAt w (Old w) A n c A2 m c2 vs ls) (kd : Nat) (hkd : kd < 256) (x : Int) (Aa : Option Addr) (na ca : Nat) (a : List Int) (hna : na = a.length) (hma : na ≤ 9437184) (hra : LiesI w w.heap.size Aa a)
    (Ab : Option Addr) (nb cb : Nat) (b : List Int) (hnb : nb = b.length) (hmb : nb ≤ 9437184) (hrb : LiesI w w.heap.size Ab b) :
    Calls Try.prog 5 #[cfV A n c A2 m c2, .int .u8 (kd : Int), .int .i64 x, .slice Aa na ca, .slice Ab nb cb] w (Says true w) := by
  obtain ⟨W, hW⟩ : ∃ W, W = w.alloc (.cells #[.slice A n c, .slice A2 m c2] 24) := ⟨_, rfl⟩
  have hbW : Below w.heap.size w W := by rw [hW]; exact (Below.refl _ _).alloc (Nat.le_refl _) _
  have hrow : W.heap[w.heap.size]? = some (.cells #[.slice A n c, .slice A2 m c2] 24 (0, 0)) := by rw [hW]; exact heap_alloc_new w _
  obtain ⟨k0, k1⟩ := box_cells hrow
  obtain ⟨r, hr3, hr⟩ : ∃ r : Nat, r < 3 ∧ kd % 3 = r := ⟨kd % 3, Nat.mod_lt _ (by decide), rfl⟩
  have hri : (kd : Int) % 3 = (r : Int) := by omega
  have hk : r + 1 = 1 ∨ r + 1 = 2 ∨ r + 1 = 3 := by omega
  have hch := change_any (r + 1) hk (h.below hbW) x
  rw [show ((r + 1 : Nat) : Int) = (r : Int) + 1 by omega] at hch
  have HCH := Lib.hid hch
  have HMEET := Lib.hid (fun ha hb => meets (vs := vs) (ls := ls) (x := x) (a := a) (b := b) hk ha hb)
  have HCF := Lib.hid h
  have HBW := Lib.hid hbW
  have HRW := Lib.hid hrow
  have HRA := Lib.hid hra
  have HRB := Lib.hid hrb
  have HNA := Lib.hid hna
  have HNB := Lib.hid hnb
  have HMA := Lib.hid hma
  have HMB := Lib.hid hmb
  have hna47 : na ≤ 9437184 := hma
  have hnx1 : nxV (r + 1) vs ls x = if chgE (r + 1) vs ls x ≠ 0 then vs else chgV (r + 1) vs ls x := rfl
  have hnx2 : nxL (r + 1) vs ls x = if chgE (r + 1) vs ls x ≠ 0 then ls else chgL (r + 1) vs ls x := rfl
  generalize chgE (r + 1) vs ls x = er at HCH hnx1 hnx2
  generalize chgV (r + 1) vs ls x = us0 at HCH hnx1
  generalize chgL (r + 1) vs ls x = ks0 at HCH hnx2
  generalize nxV (r + 1) vs ls x = us at HMEET hnx1
  generalize nxL (r + 1) vs ls x = ks at HMEET hnx2
  have HX1 := Lib.hid hnx1
  have HX2 := Lib.hid hnx2
  clear hra hrb hna hnb hma hmb h hbW hrow hk hch hnx1 hnx2
  go_enter Try.func5, Try.ntmps5
  go_wp2_with fail
  rw [← hW]
  clear hW
  refine HCH.out.mono ?_
  rintro e w2 ⟨A3, n3, c3, A4, n4, c4, rfl, h2, hb2⟩
  have HB2 := Lib.hid hb2
  have H2 := Lib.hid (h2.less (fun b hb => hb.1.2 : ∀ b, NewF W w2 b → Old w2 b))
  clear h2 hb2 k0 k1
  go_upto_region 2 with fail
  obtain ⟨w3, hw3⟩ : ∃ w3, w3 = w2.alloc (.cells #[.slice A3 n3 c3, .slice A4 n4 c4] 24) := ⟨_, rfl⟩
  rw [← hw3]
  have b23 : Below w2.heap.size w2 w3 := by rw [hw3]; exact (Below.refl _ _).alloc (Nat.le_refl _) _
  have r3 : w3.heap[w2.heap.size]? = some (.cells #[.slice A3 n3 c3, .slice A4 n4 c4] 24 (0, 0)) := by rw [hw3]; exact heap_alloc_new w2 _
  have HB3 := Lib.hid (By.ext HB2.out b23)
  have H3 := Lib.hid (H2.out.below b23)
  have HR3 := Lib.hid r3
  clear hw3 b23 r3
  go_wp2_with fail
  refine (answers_any w3).mono ?_
  rintro e w4 ⟨rfl, hb4⟩
  have HB34 := Lib.hid hb4
  have HB4 := Lib.hid (By.ext HB3.out hb4)
  obtain ⟨k0, k1⟩ := box_cells ((HB4.out.block _ (row_lt HRW.out)).trans HRW.out)
  clear hb4
  by_cases hs : confB vs ls = true
  case neg =>
    have hok := confOKc_any HCF.out w4 (By.ext HBW.out HB4.out)
    rw [show confB vs ls = false by simpa using hs] at hok
    have HOK := Lib.hid hok
    clear hok hs
    go_wp2_with fail
    refine HOK.out.mono ?_
    rintro e w5 ⟨rfl, hb5⟩
    have HB5 := Lib.hid (By.ext HB4.out hb5)
    clear hb5
    go_wp2_with fail
    refine (answers_any w5).mono ?_
    rintro e w6 ⟨rfl, hb6⟩
    have HB6 := Lib.hid (By.ext HB5.out hb6)
    clear hb6
    go_wp2
    go_ret
    exact ⟨rfl, By.ext HBW.out HB6.out⟩
  have hok := confOKc_any HCF.out w4 (By.ext HBW.out HB4.out)
  rw [hs] at hok
  have HOK := Lib.hid hok
  have HS := Lib.hid hs
  clear hok hs
  go_wp2_with fail
  refine HOK.out.mono ?_
  rintro e w5 ⟨rfl, hb5⟩
  have HB35 := Lib.hid (By.ext HB34.out hb5)
  have HB5 := Lib.hid (By.ext HB4.out hb5)
  have hr1 := (HB5.out.block _ (row_lt HRW.out)).trans HRW.out
  have hr2 := (HB35.out.block _ (row_lt HR3.out)).trans HR3.out
  have hcf5 := HCF.out.below (By.ext HBW.out HB5.out)
  have hcd5 := H3.out.below HB35.out
  have hsz2 : W.heap.size ≤ w2.heap.size := HB2.out.size
  have hszW : w.heap.size < W.heap.size := row_lt HRW.out
  obtain ⟨k0, k1⟩ := box_cells hr1
  obtain ⟨p0, p1⟩ := box_cells hr2
  have f2 : ∀ j, w5.frozen? ⟨w2.heap.size, j, none⟩ = false := fun j => frozen_of_row w5 _ j _ _ hr2
  clear hb5
  by_cases her : er = 0
  · have e1 : (er != 0) = false := by rw [bne, beq_iff_eq.2 her]; rfl
    have hT : TwoB w w5 w.heap.size w2.heap.size A n c A2 m c2 A3 n3 c3 A4 n4 c4 vs ls us ks := by
      have h1 := HX1.out
      have h2 := HX2.out
      rw [if_neg (by omega)] at h1 h2
      subst h1 h2
      exact ⟨By.ext HBW.out HB5.out, hcf5, hcd5, hr1, hr2⟩
    have HT := Lib.hid hT
    clear hT hr1 hr2 hcf5 hcd5 hsz2 hszW k0 k1 p0 p1 f2 her
    go_upto_region 6 with fail
    obtain ⟨D, hD⟩ : ∃ D, D = w5 := ⟨_, rfl⟩
    rw [← hD] at HT ⊢
    clear hD
    have hsD : Below D.heap.size D D := Below.refl _ _
    have hxc : ∀ w', Below D.heap.size D w' → w'.cell? ⟨w.heap.size, 0, none⟩ = some (.slice A n c) := fun w' hb => (box_cells ((hb.block _ (row_lt HT.out.r1)).trans HT.out.r1)).1
    have hxd : ∀ w', Below D.heap.size D w' → w'.cell? ⟨w.heap.size, 1, none⟩ = some (.slice A2 m c2) := fun w' hb => (box_cells ((hb.block _ (row_lt HT.out.r1)).trans HT.out.r1)).2
    have hxe : ∀ w', Below D.heap.size D w' → w'.cell? ⟨w2.heap.size, 0, none⟩ = some (.slice A3 n3 c3) := fun w' hb => (box_cells ((hb.block _ (row_lt HT.out.r2)).trans HT.out.r2)).1
    have hxf : ∀ w', Below D.heap.size D w' → w'.cell? ⟨w2.heap.size, 1, none⟩ = some (.slice A4 n4 c4) := fun w' hb => (box_cells ((hb.block _ (row_lt HT.out.r2)).trans HT.out.r2)).2
    have HLIA := Lib.hid (fun (w' : World) (hb : Below D.heap.size D w') => show LiesI w' w'.heap.size Aa a from (HRA.out.below (HT.out.below.trans (hb.mono HT.out.below.size))).more (Nat.le_trans HT.out.below.size hb.size))
    have HLIB := Lib.hid (fun (w' : World) (hb : Below D.heap.size D w') => show LiesI w' w'.heap.size Ab b from (HRB.out.below (HT.out.below.trans (hb.mono HT.out.below.size))).more (Nat.le_trans HT.out.below.size hb.size))
    have hq1 := fun (w' : World) (hb : Below D.heap.size D w') (A' : Option Addr) (c' : Nat) (hr : LiesI w' w'.heap.size A' a) => quorum_any (HT.out.k1.below hb) A' a.length c' a rfl (by have h1 := HNA.out; have h2 := HMA.out; omega) hr
    have hq2 := fun (w' : World) (hb : Below D.heap.size D w') (A' : Option Addr) (c' : Nat) (hr : LiesI w' w'.heap.size A' b) => quorum_any (HT.out.k2.below hb) A' b.length c' b rfl (by have h1 := HNB.out; have h2 := HMB.out; omega) hr
    have hmeet := HMEET.out
    generalize quorB vs ls a = q1 at hq1 hmeet
    generalize quorB us ks b = q2 at hq2 hmeet
    cases q1 with
    | false =>
      have HQ1 := Lib.hid hq1
      clear hq1 hq2 hmeet
      refine wp_region_held_drew (S := fun w' => Below D.heap.size D w') (by kernel_rfl) ((Below.refl _ D).drew) (fun hHeld => ?_)
      refine take_at (i := 0) (d := some 35) (v := ?_) rfl rfl (by kernel_rfl) (by kernel_rfl) (by kernel_rfl) (fun _ _ _ h => h) (Or.inl ⟨by rfl, ?_⟩) hHeld ?_
      rotate_left
      · (intro w hSw; (try dsimp only at hSw); first | (go_simp; done) | (go_simp; with_reducible rfl))
      try simp only [Act.put, List.setIfInBounds_toArray, List.set_cons_zero, List.set_cons_succ]
      refine take_at (i := 2) (d := some 37) (v := ?_) rfl rfl (by kernel_rfl) (by kernel_rfl) (by kernel_rfl) (fun _ _ _ h => h) (Or.inl ⟨by rfl, ?_⟩) hHeld ?_
      rotate_left
      · (intro w hSw; (try dsimp only at hSw); first | (go_simp; done) | (go_simp; with_reducible rfl))
      try simp only [Act.put, List.setIfInBounds_toArray, List.set_cons_zero, List.set_cons_succ]
      refine wpAnyH_ready (rs := [1]) (by kernel_rfl) (by simp) ?_
      refine AllReadyH.cons rfl (fun K hK => ?_) AllReadyH.nil
      go_simp
      refine hK.out _ _ (keep_alloc hHeld _) (fun hHeld => ?_)
      clear hK K
      try simp only [Act.put, List.setIfInBounds_toArray, List.set_cons_zero, List.set_cons_succ]
      refine wpAnyH_ready (rs := [3]) (by kernel_rfl) (by simp) ?_
      refine AllReadyH.cons rfl (fun K hK => ?_) AllReadyH.nil
      refine step_copyI (w := D) (by first | exact .inl rfl | exact .inr rfl) (.tmp 36) (.tmp 37) rfl rfl (by simp [Act.eval]) (A := Aa) (m := na) (c := ca) (by simp [Act.eval]) HNA.out (HLIA.out D hsD) (by have h1 := HNA.out; have h2 := HMA.out; omega) ?_
      intro Apa cpa wpa hlp hbp
      have HLPA := Lib.hid (hlp.less (fun b hb => hb.1.2 : ∀ b, NewF D wpa b → Old wpa b))
      clear hlp
      refine hK.out _ _ (By.ext hsD hbp) (fun hHeld => ?_)
      clear hK K
      try simp only [Act.put, List.setIfInBounds_toArray, List.set_cons_zero, List.set_cons_succ]
      refine wpAnyH_ready (rs := [4]) (by kernel_rfl) (by simp) ?_
      refine AllReadyH.cons rfl (fun K hK => ?_) AllReadyH.nil
      go_simp
      go_wp2_with (go_at_call 17; refine (HQ1.out _ hHeld _ _ HLPA.out).mono ?_; rintro e wq ⟨rfl, hbwq⟩)
      refine hK.out _ _ (By.ext hHeld hbwq) (fun hHeld => ?_)
      clear hK K
      try simp only [Act.put, List.setIfInBounds_toArray, List.set_cons_zero, List.set_cons_succ]
      refine take_at (i := 5) (d := some 40) (v := ?_) rfl rfl (by kernel_rfl) (by kernel_rfl) (by kernel_rfl) (fun _ _ _ h => h) (Or.inl ⟨by rfl, ?_⟩) hHeld ?_
      rotate_left
      · (intro w hSw; (try dsimp only at hSw); first | (go_simp; done) | (go_simp; with_reducible rfl))
      try simp only [Act.put, List.setIfInBounds_toArray, List.set_cons_zero, List.set_cons_succ]
      refine take_at (i := 6) (d := some 41) (v := ?_) rfl rfl (by kernel_rfl) (by kernel_rfl) (by kernel_rfl) (fun _ _ _ h => h) (Or.inl ⟨by rfl, ?_⟩) hHeld ?_
      rotate_left
      · (intro w hSw; (try dsimp only at hSw); first | (go_simp; done) | (go_simp; with_reducible rfl))
      try simp only [Act.put, List.setIfInBounds_toArray, List.set_cons_zero, List.set_cons_succ]
      refine take_at (i := 7) (d := some 42) (v := undef) rfl rfl (by kernel_rfl) (by kernel_rfl) (by kernel_rfl) (fun _ _ _ h => h) (Or.inr ⟨by rfl, rfl⟩) hHeld ?_
      try simp only [Act.put, List.setIfInBounds_toArray, List.set_cons_zero, List.set_cons_succ]
      refine take_at (i := 8) (d := some 43) (v := undef) rfl rfl (by kernel_rfl) (by kernel_rfl) (by kernel_rfl) (fun _ _ _ h => h) (Or.inr ⟨by rfl, rfl⟩) hHeld ?_
      try simp only [Act.put, List.setIfInBounds_toArray, List.set_cons_zero, List.set_cons_succ]
      refine take_at (i := 9) (d := some 44) (v := undef) rfl rfl (by kernel_rfl) (by kernel_rfl) (by kernel_rfl) (fun _ _ _ h => h) (Or.inr ⟨by rfl, rfl⟩) hHeld ?_
      try simp only [Act.put, List.setIfInBounds_toArray, List.set_cons_zero, List.set_cons_succ]
      refine take_at (i := 10) (d := some 45) (v := undef) rfl rfl (by kernel_rfl) (by kernel_rfl) (by kernel_rfl) (fun _ _ _ h => h) (Or.inr ⟨by rfl, rfl⟩) hHeld ?_
      try simp only [Act.put, List.setIfInBounds_toArray, List.set_cons_zero, List.set_cons_succ]
      refine take_at (i := 11) (d := some 46) (v := undef) rfl rfl (by kernel_rfl) (by kernel_rfl) (by kernel_rfl) (fun _ _ _ h => h) (Or.inr ⟨by rfl, rfl⟩) hHeld ?_
      try simp only [Act.put, List.setIfInBounds_toArray, List.set_cons_zero, List.set_cons_succ]
      refine take_at (i := 12) (d := some 47) (v := undef) rfl rfl (by kernel_rfl) (by kernel_rfl) (by kernel_rfl) (fun _ _ _ h => h) (Or.inr ⟨by rfl, rfl⟩) hHeld ?_
      try simp only [Act.put, List.setIfInBounds_toArray, List.set_cons_zero, List.set_cons_succ]
      refine take_at (i := 13) (d := some 48) (v := ?_) rfl rfl (by kernel_rfl) (by kernel_rfl) (by kernel_rfl) (fun _ _ _ h => h) (Or.inl ⟨by rfl, ?_⟩) hHeld ?_
      rotate_left
      · (intro w hSw; (try dsimp only at hSw); first | (go_simp; done) | (go_simp; with_reducible rfl))
      try simp only [Act.put, List.setIfInBounds_toArray, List.set_cons_zero, List.set_cons_succ]
      refine wpAnyH_done (by kernel_rfl) ?_ _
      all_goals
        go_wp2
        go_ret
        exact ⟨rfl, By.ext HT.out.below hHeld⟩
    | true =>
      cases q2 with
      | false =>
        have HQ1 := Lib.hid hq1
        have HQ2 := Lib.hid hq2
        clear hq1 hq2 hmeet
        first
          | (go_region_held3 (fun w' => Below D.heap.size D w')
          (first
            | with_reducible assumption
            | with_reducible exact keep_drew (by with_reducible assumption)
            | with_reducible exact keep_alloc (by with_reducible assumption) _
            | with_reducible exact keep_drew (keep_alloc (by with_reducible assumption) _))
          (first
          | (go_at_call 17
             have h9 := HLPB; refine (HQ2.out _ ?_ _ _ HLPB.out).mono ?_
             · with_reducible first | assumption | exact keep_drew (by with_reducible assumption)
             rintro e wr2 ⟨rfl, hbwr2⟩
             have hswr2 : Below D.heap.size D wr2 := By.ext (by with_reducible first | assumption | exact keep_drew (by with_reducible assumption)) hbwr2
             clear hbwr2)
          | (go_at_call 17
             refine (HQ1.out _ ?_ _ _ HLPA.out).mono ?_
             · with_reducible first | assumption | exact keep_drew (by with_reducible assumption)
             rintro e wq ⟨rfl, hbwq⟩
             have hswq : Below D.heap.size D wq := By.ext (by with_reducible first | assumption | exact keep_drew (by with_reducible assumption)) hbwq
             clear hbwq)
          | (refine step_copyI (w := D) (by first | exact .inl rfl | exact .inr rfl) (.tmp 36) (.tmp 37) rfl rfl (by simp [Act.eval]) (A := Aa) (m := na) (c := ca) (by simp [Act.eval]) HNA.out (HLIA.out D hsD) (by have h1 := HNA.out; have h2 := HMA.out; omega) ?_
             intro Apa cpa wpa hlp hbp
             have hswpa : Below D.heap.size D wpa := By.ext hsD hbp
             have HLPA := Lib.hid (hlp.less (fun b hb => hb.1.2 : ∀ b, NewF D wpa b → Old wpa b))
             clear hlp hbp)
          | (refine step_copyI (w := wq) (by first | exact .inl rfl | exact .inr rfl) (.tmp 43) (.tmp 44) rfl rfl (by simp [Act.eval]) (A := Ab) (m := nb) (c := cb) (by simp [Act.eval]) HNB.out (HLIB.out wq hswq) (by have h1 := HNB.out; have h2 := HMB.out; omega) ?_
             intro Apb cpb wpb hlp hbp
             have hswpb : Below D.heap.size D wpb := By.ext hswq hbp
             have HLPB := Lib.hid (hlp.less (fun b hb => hb.1.2 : ∀ b, NewF wq wpb b → Old wpb b))
             clear hlp hbp)))
          | fail "x"
        all_goals
          go_wp2
          go_ret
          exact ⟨rfl, By.ext HT.out.below hswr2⟩
      | true =>
        have HQ1 := Lib.hid hq1
        have HQ2 := Lib.hid hq2
        have HME := Lib.hid (hmeet rfl rfl)
        clear hq1 hq2 hmeet
        first
          | (go_region_held3 (fun w' => Below D.heap.size D w')
          (first
            | with_reducible assumption
            | with_reducible exact keep_drew (by with_reducible assumption)
            | with_reducible exact keep_alloc (by with_reducible assumption) _
            | with_reducible exact keep_drew (keep_alloc (by with_reducible assumption) _))
          (first
          | (go_at_call 17
             have h9 := HLPB; refine (HQ2.out _ ?_ _ _ HLPB.out).mono ?_
             · with_reducible first | assumption | exact keep_drew (by with_reducible assumption)
             rintro e wr2 ⟨rfl, hbwr2⟩
             have hswr2 : Below D.heap.size D wr2 := By.ext (by with_reducible first | assumption | exact keep_drew (by with_reducible assumption)) hbwr2
             clear hbwr2)
          | (go_at_call 17
             refine (HQ1.out _ ?_ _ _ HLPA.out).mono ?_
             · with_reducible first | assumption | exact keep_drew (by with_reducible assumption)
             rintro e wq ⟨rfl, hbwq⟩
             have hswq : Below D.heap.size D wq := By.ext (by with_reducible first | assumption | exact keep_drew (by with_reducible assumption)) hbwq
             clear hbwq)
          | (refine step_copyI (w := D) (by first | exact .inl rfl | exact .inr rfl) (.tmp 36) (.tmp 37) rfl rfl (by simp [Act.eval]) (A := Aa) (m := na) (c := ca) (by simp [Act.eval]) HNA.out (HLIA.out D hsD) (by have h1 := HNA.out; have h2 := HMA.out; omega) ?_
             intro Apa cpa wpa hlp hbp
             have hswpa : Below D.heap.size D wpa := By.ext hsD hbp
             have HLPA := Lib.hid (hlp.less (fun b hb => hb.1.2 : ∀ b, NewF D wpa b → Old wpa b))
             clear hlp hbp)
          | (refine step_copyI (w := wq) (by first | exact .inl rfl | exact .inr rfl) (.tmp 43) (.tmp 44) rfl rfl (by simp [Act.eval]) (A := Ab) (m := nb) (c := cb) (by simp [Act.eval]) HNB.out (HLIB.out wq hswq) (by have h1 := HNB.out; have h2 := HMB.out; omega) ?_
             intro Apb cpb wpb hlp hbp
             have hswpb : Below D.heap.size D wpb := By.ext hswq hbp
             have HLPB := Lib.hid (hlp.less (fun b hb => hb.1.2 : ∀ b, NewF wq wpb b → Old wpb b))
             clear hlp hbp)))
          | fail "x"
        all_goals
          go_wp2
          go_loopw [13] (fun i wr => ∃ k : Nat, k ≤ na ∧ i = .int .i64 k ∧ Below D.heap.size D wr ∧ ∀ j v, j < k → a[j]? = some v → ¬ (v ∈ b ∧ ((confB vs ls && decide (v ∈ vs)) = true ∨ (confB us ks && decide (v ∈ us)) = true))) (fun i _ => na - (intOf i).toNat)
          case atStart => exact ⟨0, Nat.zero_le _, rfl, hswr2, fun j v hj => absurd hj (Nat.not_lt_zero _)⟩
          case round =>
            obtain ⟨k, hk, rfl, hb, hno⟩ := hrel
            have HNO := Lib.hid hno
            have hna47 : na ≤ 9437184 := HMA.out
            clear hno
            by_cases hkn : k < na
            · have hkl : k < a.length := by have := HNA.out; omega
              have hki : (k : Int) < (na : Int) := by omega
              have hk0 : (0 : Int) ≤ (k : Int) := by omega
              obtain ⟨ga, oa, rfl, hga, hca, hv0, hv1⟩ := (HLIA.out wr hb).at_ hkl
              have hxa : ∀ w', Below D.heap.size D w' → w'.cell? ⟨ga, oa + k, none⟩ = some (.int .i64 a[k]) := fun w' hb' => by
                obtain ⟨g3, o3, e3, _, h3, _⟩ := (HLIA.out w' hb').at_ hkl
                injection e3 with e3
                injection e3 with e4 e5
                subst e4 e5
                exact h3
              have HVK := Lib.hid (List.getElem?_eq_getElem hkl)
              have hh : ∀ w', Below D.heap.size D w' → Calls Try.prog 22 #[.slice Ab nb cb, .int .i64 a[k]] w' (Says (decide (a[k] ∈ b)) w') := fun w' hb' =>
                (has_any Ab nb cb w'.heap.size b HNB.out (by have := HMB.out; omega) a[k] hv0 hv1 w' (HLIB.out w' hb')).mono (by rintro e w2 ⟨rfl, rfl⟩; exact ⟨rfl, Below.refl _ _⟩)
              have hh0 : ∀ q, Calls Try.prog 22 #[.slice Ab nb cb, .int .i64 a[k]] (wr.drewN q) (fun e w' => e = .returned (.bool (decide (a[k] ∈ b))) ∧ w' = wr.drewN q) := fun q =>
                (has_any Ab nb cb wr.heap.size b HNB.out (by have := HMB.out; omega) a[k] hv0 hv1 (wr.drewN q) (HLIB.out wr hb)).mono (by rintro e w2 ⟨rfl, rfl⟩; exact ⟨rfl, rfl⟩)
              have hw1 := fun (w' : World) (hb' : Below D.heap.size D w') => rVoter_any (HT.out.k1.below hb') a[k] hv0 hv1
              have hw2 := fun (w' : World) (hb' : Below D.heap.size D w') => rVoter_any (HT.out.k2.below hb') a[k] hv0 hv1
              generalize a[k] = v at hca hv0 hv1 hxa HVK hh hh0 hw1 hw2
              have hstep : ∀ (bb p1 p2 : Bool), decide (v ∈ b) = bb → (confB vs ls && decide (v ∈ vs)) = p1 → (confB us ks && decide (v ∈ us)) = p2 → (bb && (p1 || p2)) = false → ∀ j z, j < k + 1 → a[j]? = some z → ¬ (z ∈ b ∧ ((confB vs ls && decide (z ∈ vs)) = true ∨ (confB us ks && decide (z ∈ us)) = true)) := by
                intro bb p1 p2 h1 h2 h3 h4 j z hj hz
                by_cases e : j = k
                · subst e
                  have e2 : z = v := Option.some.inj (hz.symm.trans HVK.out)
                  subst e2
                  rintro ⟨h5, h6⟩
                  rw [← h1, ← h2, ← h3, decide_eq_true h5] at h4
                  rcases h6 with h6 | h6
                  · rw [h6] at h4; cases h4
                  · rw [h6, Bool.or_true] at h4; cases h4
                · exact HNO.out j z (by omega) hz
              generalize e1 : decide (v ∈ b) = bb at hh hh0
              generalize e2 : (confB vs ls && decide (v ∈ vs)) = p1 at hw1
              generalize e3 : (confB us ks && decide (v ∈ us)) = p2 at hw2
              have hstep2 := hstep bb p1 p2 e1 e2 e3
              have HSTEP := Lib.hid hstep2
              have HH := Lib.hid hh
              have HH0 := Lib.hid hh0
              have HWB := Lib.hid hb
              have HV1 := Lib.hid hw1
              have HV2 := Lib.hid hw2
              clear hkl hv0 hv1 hh hh0 hw1 hw2 hstep hstep2 e1 e2 e3
              cases bb with
              | false =>
                go_upto_region 11 with fail
                go_quiet ((go_at_call 22; exact Calls.quiet_of_same (HH0.out _)))
                go_wp2
                go_roundw
                case rel => exact ⟨k + 1, by omega, by go_num, Co.below_drewN HWB.out _, HSTEP.out rfl⟩
                case measure => simp [intOf]; omega
              | true =>
                cases p1 with
                | true =>
                  go_upto_region 11 with fail
                  refine wp_region_held_drew (S := fun w' => Below D.heap.size D w') (by kernel_rfl) (HWB.out.drew) (fun hHeld => ?_)
                  refine take_at (i := 0) (d := some 55) (v := ?_) rfl rfl (by kernel_rfl) (by kernel_rfl) (by kernel_rfl) (fun _ _ _ h => h) (Or.inl ⟨by rfl, ?_⟩) hHeld ?_
                  rotate_left
                  · (intro w hSw; (try dsimp only at hSw); first | (go_simp; done) | (go_simp; with_reducible rfl))
                  try simp only [Act.put, List.setIfInBounds_toArray, List.set_cons_zero, List.set_cons_succ]
                  refine take_at (i := 1) (d := some 56) (v := ?_) rfl rfl (by kernel_rfl) (by kernel_rfl) (by kernel_rfl) (fun _ _ _ h => h) (Or.inl ⟨by rfl, ?_⟩) hHeld ?_
                  rotate_left
                  · (intro w hSw; (try dsimp only at hSw); first | (go_simp; done) | (go_simp; with_reducible rfl))
                  try simp only [Act.put, List.setIfInBounds_toArray, List.set_cons_zero, List.set_cons_succ]
                  refine take_at (i := 2) (d := some 57) (v := ?_) rfl rfl (by kernel_rfl) (by kernel_rfl) (by kernel_rfl) (fun _ _ _ h => h) (Or.inl ⟨by rfl, ?_⟩) hHeld ?_
                  rotate_left
                  · (intro w hSw; (try dsimp only at hSw); first | (go_simp; done) | (go_simp; with_reducible rfl))
                  try simp only [Act.put, List.setIfInBounds_toArray, List.set_cons_zero, List.set_cons_succ]
                  refine take_at (i := 3) (d := some 58) (v := ?_) rfl rfl (by kernel_rfl) (by kernel_rfl) (by kernel_rfl) (fun _ _ _ h => h) (Or.inl ⟨by rfl, ?_⟩) hHeld ?_
                  rotate_left
                  · (intro w hSw; (try dsimp only at hSw); first | (go_simp; done) | (go_simp; with_reducible rfl))
                  try simp only [Act.put, List.setIfInBounds_toArray, List.set_cons_zero, List.set_cons_succ]
                  refine take_at (i := 4) (d := some 59) (v := ?_) rfl rfl (by kernel_rfl) (by kernel_rfl) (by kernel_rfl) (fun _ _ _ h => h) (Or.inl ⟨by rfl, ?_⟩) hHeld ?_
                  rotate_left
                  · (intro w hSw; (try dsimp only at hSw); first | (go_simp; done) | (go_simp; with_reducible rfl))
                  try simp only [Act.put, List.setIfInBounds_toArray, List.set_cons_zero, List.set_cons_succ]
                  refine wpAnyH_ready (rs := [5]) (by kernel_rfl) (by simp) ?_
                  refine AllReadyH.cons rfl (fun K hK => ?_) AllReadyH.nil
                  go_simp
                  go_wp2_with (go_at_call 22; refine (HH.out _ hHeld).mono ?_; rintro e wh ⟨rfl, hbwh⟩)
                  refine hK.out _ _ (By.ext hHeld hbwh) (fun hHeld => ?_)
                  clear hK K
                  try simp only [Act.put, List.setIfInBounds_toArray, List.set_cons_zero, List.set_cons_succ]
                  refine take_at (i := 6) (d := some 61) (v := ?_) rfl rfl (by kernel_rfl) (by kernel_rfl) (by kernel_rfl) (fun _ _ _ h => h) (Or.inl ⟨by rfl, ?_⟩) hHeld ?_
                  rotate_left
                  · (intro w hSw; (try dsimp only at hSw); first | (go_simp; done) | (go_simp; with_reducible rfl))
                  try simp only [Act.put, List.setIfInBounds_toArray, List.set_cons_zero, List.set_cons_succ]
                  refine take_at (i := 7) (d := some 62) (v := ?_) rfl rfl (by kernel_rfl) (by kernel_rfl) (by kernel_rfl) (fun _ _ _ h => h) (Or.inl ⟨by rfl, ?_⟩) hHeld ?_
                  rotate_left
                  · (intro w hSw; (try dsimp only at hSw); first | (go_simp; done) | (go_simp; with_reducible rfl))
                  try simp only [Act.put, List.setIfInBounds_toArray, List.set_cons_zero, List.set_cons_succ]
                  refine take_at (i := 8) (d := some 63) (v := ?_) rfl rfl (by kernel_rfl) (by kernel_rfl) (by kernel_rfl) (fun _ _ _ h => h) (Or.inl ⟨by rfl, ?_⟩) hHeld ?_
                  rotate_left
                  · (intro w hSw; (try dsimp only at hSw); first | (go_simp; done) | (go_simp; with_reducible rfl))
                  try simp only [Act.put, List.setIfInBounds_toArray, List.set_cons_zero, List.set_cons_succ]
                  refine take_at (i := 9) (d := some 64) (v := ?_) rfl rfl (by kernel_rfl) (by kernel_rfl) (by kernel_rfl) (fun _ _ _ h => h) (Or.inl ⟨by rfl, ?_⟩) hHeld ?_
                  rotate_left
                  · (intro w hSw; (try dsimp only at hSw); first | (go_simp; done) | (go_simp; with_reducible rfl))
                  try simp only [Act.put, List.setIfInBounds_toArray, List.set_cons_zero, List.set_cons_succ]
                  refine take_at (i := 10) (d := some 65) (v := ?_) rfl rfl (by kernel_rfl) (by kernel_rfl) (by kernel_rfl) (fun _ _ _ h => h) (Or.inl ⟨by rfl, ?_⟩) hHeld ?_
                  rotate_left
                  · (intro w hSw; (try dsimp only at hSw); first | (go_simp; done) | (go_simp; with_reducible rfl))
                  try simp only [Act.put, List.setIfInBounds_toArray, List.set_cons_zero, List.set_cons_succ]
                  refine take_at (i := 11) (d := some 66) (v := ?_) rfl rfl (by kernel_rfl) (by kernel_rfl) (by kernel_rfl) (fun _ _ _ h => h) (Or.inl ⟨by rfl, ?_⟩) hHeld ?_
                  rotate_left
                  · (intro w hSw; (try dsimp only at hSw); first | (go_simp; done) | (go_simp; with_reducible rfl))
                  try simp only [Act.put, List.setIfInBounds_toArray, List.set_cons_zero, List.set_cons_succ]
                  refine wpAnyH_ready (rs := [12]) (by kernel_rfl) (by simp) ?_
                  refine AllReadyH.cons rfl (fun K hK => ?_) AllReadyH.nil
                  go_simp
                  go_wp2_with (go_at_call 16; refine (HV1.out _ hHeld).mono ?_; rintro e wv1 ⟨rfl, hbwv1⟩)
                  refine hK.out _ _ (By.ext hHeld hbwv1) (fun hHeld => ?_)
                  clear hK K
                  try simp only [Act.put, List.setIfInBounds_toArray, List.set_cons_zero, List.set_cons_succ]
                  refine take_at (i := 13) (d := some 68) (v := ?_) rfl rfl (by kernel_rfl) (by kernel_rfl) (by kernel_rfl) (fun _ _ _ h => h) (Or.inl ⟨by rfl, ?_⟩) hHeld ?_
                  rotate_left
                  · (intro w hSw; (try dsimp only at hSw); first | (go_simp; done) | (go_simp; with_reducible rfl))
                  try simp only [Act.put, List.setIfInBounds_toArray, List.set_cons_zero, List.set_cons_succ]
                  refine take_at (i := 14) (d := some 69) (v := undef) rfl rfl (by kernel_rfl) (by kernel_rfl) (by kernel_rfl) (fun _ _ _ h => h) (Or.inr ⟨by rfl, rfl⟩) hHeld ?_
                  try simp only [Act.put, List.setIfInBounds_toArray, List.set_cons_zero, List.set_cons_succ]
                  refine take_at (i := 15) (d := some 70) (v := undef) rfl rfl (by kernel_rfl) (by kernel_rfl) (by kernel_rfl) (fun _ _ _ h => h) (Or.inr ⟨by rfl, rfl⟩) hHeld ?_
                  try simp only [Act.put, List.setIfInBounds_toArray, List.set_cons_zero, List.set_cons_succ]
                  refine take_at (i := 16) (d := some 71) (v := undef) rfl rfl (by kernel_rfl) (by kernel_rfl) (by kernel_rfl) (fun _ _ _ h => h) (Or.inr ⟨by rfl, rfl⟩) hHeld ?_
                  try simp only [Act.put, List.setIfInBounds_toArray, List.set_cons_zero, List.set_cons_succ]
                  refine take_at (i := 17) (d := some 72) (v := undef) rfl rfl (by kernel_rfl) (by kernel_rfl) (by kernel_rfl) (fun _ _ _ h => h) (Or.inr ⟨by rfl, rfl⟩) hHeld ?_
                  try simp only [Act.put, List.setIfInBounds_toArray, List.set_cons_zero, List.set_cons_succ]
                  refine take_at (i := 18) (d := some 73) (v := undef) rfl rfl (by kernel_rfl) (by kernel_rfl) (by kernel_rfl) (fun _ _ _ h => h) (Or.inr ⟨by rfl, rfl⟩) hHeld ?_
                  try simp only [Act.put, List.setIfInBounds_toArray, List.set_cons_zero, List.set_cons_succ]
                  refine take_at (i := 19) (d := some 74) (v := undef) rfl rfl (by kernel_rfl) (by kernel_rfl) (by kernel_rfl) (fun _ _ _ h => h) (Or.inr ⟨by rfl, rfl⟩) hHeld ?_
                  try simp only [Act.put, List.setIfInBounds_toArray, List.set_cons_zero, List.set_cons_succ]
                  refine take_at (i := 20) (d := some 75) (v := ?_) rfl rfl (by kernel_rfl) (by kernel_rfl) (by kernel_rfl) (fun _ _ _ h => h) (Or.inl ⟨by rfl, ?_⟩) hHeld ?_
                  rotate_left
                  · (intro w hSw; (try dsimp only at hSw); first | (go_simp; done) | (go_simp; with_reducible rfl))
                  try simp only [Act.put, List.setIfInBounds_toArray, List.set_cons_zero, List.set_cons_succ]
                  refine take_at (i := 21) (d := some 76) (v := ?_) rfl rfl (by kernel_rfl) (by kernel_rfl) (by kernel_rfl) (fun _ _ _ h => h) (Or.inl ⟨by rfl, ?_⟩) hHeld ?_
                  rotate_left
                  · (intro w hSw; (try dsimp only at hSw); first | (go_simp; done) | (go_simp; with_reducible rfl))
                  try simp only [Act.put, List.setIfInBounds_toArray, List.set_cons_zero, List.set_cons_succ]
                  refine wpAnyH_done (by kernel_rfl) ?_ _
                  all_goals
                    go_wp2
                    go_ret
                    exact ⟨rfl, By.ext HT.out.below hHeld⟩
                | false =>
                  cases p2 with
                  | true =>
                    go_upto_region 11 with fail
                    first
                    | (go_region_held3 (fun w' => Below D.heap.size D w')
                        (first
                          | with_reducible assumption
                          | with_reducible exact keep_drew (by with_reducible assumption))
                        (first
                        | (go_at_call 22
                           refine (HH.out _ ?_).mono ?_
                           · with_reducible first | assumption | exact keep_drew (by with_reducible assumption)
                           rintro e wh ⟨rfl, hbwh⟩
                           have hswh : Below D.heap.size D wh := By.ext (by with_reducible first | assumption | exact keep_drew (by with_reducible assumption)) hbwh
                           clear hbwh)
                        | (go_at_call 16
                           have h9 := hswv1; refine (HV2.out _ ?_).mono ?_
                           · with_reducible first | assumption | exact keep_drew (by with_reducible assumption)
                           rintro e wv2 ⟨rfl, hbwv2⟩
                           have hswv2 : Below D.heap.size D wv2 := By.ext (by with_reducible first | assumption | exact keep_drew (by with_reducible assumption)) hbwv2
                           clear hbwv2)
                        | (go_at_call 16
                           refine (HV1.out _ ?_).mono ?_
                           · with_reducible first | assumption | exact keep_drew (by with_reducible assumption)
                           rintro e wv1 ⟨rfl, hbwv1⟩
                           have hswv1 : Below D.heap.size D wv1 := By.ext (by with_reducible first | assumption | exact keep_drew (by with_reducible assumption)) hbwv1
                           clear hbwv1)))
                    | fail "x"
                    all_goals
                      go_wp2
                      go_ret
                      exact ⟨rfl, By.ext HT.out.below hswv2⟩
                  | false =>
                    go_upto_region 11 with fail
                    first
                    | (go_region_held3 (fun w' => Below D.heap.size D w')
                        (first
                          | with_reducible assumption
                          | with_reducible exact keep_drew (by with_reducible assumption))
                        (first
                        | (go_at_call 22
                           refine (HH.out _ ?_).mono ?_
                           · with_reducible first | assumption | exact keep_drew (by with_reducible assumption)
                           rintro e wh ⟨rfl, hbwh⟩
                           have hswh : Below D.heap.size D wh := By.ext (by with_reducible first | assumption | exact keep_drew (by with_reducible assumption)) hbwh
                           clear hbwh)
                        | (go_at_call 16
                           have h9 := hswv1; refine (HV2.out _ ?_).mono ?_
                           · with_reducible first | assumption | exact keep_drew (by with_reducible assumption)
                           rintro e wv2 ⟨rfl, hbwv2⟩
                           have hswv2 : Below D.heap.size D wv2 := By.ext (by with_reducible first | assumption | exact keep_drew (by with_reducible assumption)) hbwv2
                           clear hbwv2)
                        | (go_at_call 16
                           refine (HV1.out _ ?_).mono ?_
                           · with_reducible first | assumption | exact keep_drew (by with_reducible assumption)
                           rintro e wv1 ⟨rfl, hbwv1⟩
                           have hswv1 : Below D.heap.size D wv1 := By.ext (by with_reducible first | assumption | exact keep_drew (by with_reducible assumption)) hbwv1
                           clear hbwv1)))
                    | fail "x"
                    all_goals
                      go_wp2
                      go_roundw
                      case rel => exact ⟨k + 1, by omega, by go_num, hswv2, HSTEP.out rfl⟩
                      case measure => simp [intOf]; omega
            · obtain rfl : k = na := by omega
              obtain ⟨v, hva, hvb, hvc⟩ := HME.out
              obtain ⟨j, hj, e⟩ := List.mem_iff_getElem.1 hva
              exact absurd ⟨hvb, hvc⟩ (HNO.out j v (by have := HNA.out; omega) (by rw [List.getElem?_eq_getElem hj, e]))
  · have e1 : (er != 0) = true := by rw [bne_iff_ne]; exact her
    go_upto_region 6 with fail
    obtain ⟨D, hD⟩ : ∃ D, D = (w5.setCell ⟨w2.heap.size, 0, none⟩ (.slice A n c)).setCell ⟨w2.heap.size, 1, none⟩ (.slice A2 m c2) := ⟨_, rfl⟩
    rw [← hD]
    have hother : ∀ b, b ≠ w2.heap.size → D.heap[b]? = w5.heap[b]? := fun b hb => by rw [hD]; exact (heap_setCell_other _ ⟨w2.heap.size, 1, none⟩ b _ hb).trans (heap_setCell_other _ ⟨w2.heap.size, 0, none⟩ b _ hb)
    have hsz : D.heap.size = w5.heap.size := by rw [hD]; simp [World.setCell]
    have hDb : Below w.heap.size w D := by
      rw [hD]
      exact ((By.ext HBW.out HB5.out).setCell (p := ⟨w2.heap.size, 0, none⟩) (by show w.heap.size ≤ w2.heap.size; omega) _).setCell (p := ⟨w2.heap.size, 1, none⟩) (by show w.heap.size ≤ w2.heap.size; omega) _
    have hcfD := HCF.out.below hDb
    have hT : TwoB w D w.heap.size w2.heap.size A n c A2 m c2 A n c A2 m c2 vs ls us ks := by
      have h1 := HX1.out
      have h2 := HX2.out
      rw [if_pos her] at h1 h2
      subst h1 h2
      exact ⟨hDb, hcfD, hcfD, (hother _ (by omega)).trans hr1, by rw [hD]; exact heap_setCell_same _ _ 1 _ _ _ (heap_setCell_same _ _ 0 _ _ _ hr2)⟩
    have HT := Lib.hid hT
    clear hT hr1 hr2 hcf5 hcd5 hsz2 hszW k0 k1 p0 p1 f2 her hother hsz hDb hcfD hD
    have hsD : Below D.heap.size D D := Below.refl _ _
    have hxc : ∀ w', Below D.heap.size D w' → w'.cell? ⟨w.heap.size, 0, none⟩ = some (.slice A n c) := fun w' hb => (box_cells ((hb.block _ (row_lt HT.out.r1)).trans HT.out.r1)).1
    have hxd : ∀ w', Below D.heap.size D w' → w'.cell? ⟨w.heap.size, 1, none⟩ = some (.slice A2 m c2) := fun w' hb => (box_cells ((hb.block _ (row_lt HT.out.r1)).trans HT.out.r1)).2
    have hxe : ∀ w', Below D.heap.size D w' → w'.cell? ⟨w2.heap.size, 0, none⟩ = some (.slice A n c) := fun w' hb => (box_cells ((hb.block _ (row_lt HT.out.r2)).trans HT.out.r2)).1
    have hxf : ∀ w', Below D.heap.size D w' → w'.cell? ⟨w2.heap.size, 1, none⟩ = some (.slice A2 m c2) := fun w' hb => (box_cells ((hb.block _ (row_lt HT.out.r2)).trans HT.out.r2)).2
    have HLIA := Lib.hid (fun (w' : World) (hb : Below D.heap.size D w') => show LiesI w' w'.heap.size Aa a from (HRA.out.below (HT.out.below.trans (hb.mono HT.out.below.size))).more (Nat.le_trans HT.out.below.size hb.size))
    have HLIB := Lib.hid (fun (w' : World) (hb : Below D.heap.size D w') => show LiesI w' w'.heap.size Ab b from (HRB.out.below (HT.out.below.trans (hb.mono HT.out.below.size))).more (Nat.le_trans HT.out.below.size hb.size))
    have hq1 := fun (w' : World) (hb : Below D.heap.size D w') (A' : Option Addr) (c' : Nat) (hr : LiesI w' w'.heap.size A' a) => quorum_any (HT.out.k1.below hb) A' a.length c' a rfl (by have h1 := HNA.out; have h2 := HMA.out; omega) hr
    have hq2 := fun (w' : World) (hb : Below D.heap.size D w') (A' : Option Addr) (c' : Nat) (hr : LiesI w' w'.heap.size A' b) => quorum_any (HT.out.k2.below hb) A' b.length c' b rfl (by have h1 := HNB.out; have h2 := HMB.out; omega) hr
    have hmeet := HMEET.out
    generalize quorB vs ls a = q1 at hq1 hmeet
    generalize quorB us ks b = q2 at hq2 hmeet
    cases q1 with
    | false =>
      have HQ1 := Lib.hid hq1
      clear hq1 hq2 hmeet
      refine wp_region_held_drew (S := fun w' => Below D.heap.size D w') (by kernel_rfl) ((Below.refl _ D).drew) (fun hHeld => ?_)
      refine take_at (i := 0) (d := some 35) (v := ?_) rfl rfl (by kernel_rfl) (by kernel_rfl) (by kernel_rfl) (fun _ _ _ h => h) (Or.inl ⟨by rfl, ?_⟩) hHeld ?_
      rotate_left
      · (intro w hSw; (try dsimp only at hSw); first | (go_simp; done) | (go_simp; with_reducible rfl))
      try simp only [Act.put, List.setIfInBounds_toArray, List.set_cons_zero, List.set_cons_succ]
      refine take_at (i := 2) (d := some 37) (v := ?_) rfl rfl (by kernel_rfl) (by kernel_rfl) (by kernel_rfl) (fun _ _ _ h => h) (Or.inl ⟨by rfl, ?_⟩) hHeld ?_
      rotate_left
      · (intro w hSw; (try dsimp only at hSw); first | (go_simp; done) | (go_simp; with_reducible rfl))
      try simp only [Act.put, List.setIfInBounds_toArray, List.set_cons_zero, List.set_cons_succ]
      refine wpAnyH_ready (rs := [1]) (by kernel_rfl) (by simp) ?_
      refine AllReadyH.cons rfl (fun K hK => ?_) AllReadyH.nil
      go_simp
      refine hK.out _ _ (keep_alloc hHeld _) (fun hHeld => ?_)
      clear hK K
      try simp only [Act.put, List.setIfInBounds_toArray, List.set_cons_zero, List.set_cons_succ]
      refine wpAnyH_ready (rs := [3]) (by kernel_rfl) (by simp) ?_
      refine AllReadyH.cons rfl (fun K hK => ?_) AllReadyH.nil
      refine step_copyI (w := D) (by first | exact .inl rfl | exact .inr rfl) (.tmp 36) (.tmp 37) rfl rfl (by simp [Act.eval]) (A := Aa) (m := na) (c := ca) (by simp [Act.eval]) HNA.out (HLIA.out D hsD) (by have h1 := HNA.out; have h2 := HMA.out; omega) ?_
      intro Apa cpa wpa hlp hbp
      have HLPA := Lib.hid (hlp.less (fun b hb => hb.1.2 : ∀ b, NewF D wpa b → Old wpa b))
      clear hlp
      refine hK.out _ _ (By.ext hsD hbp) (fun hHeld => ?_)
      clear hK K
      try simp only [Act.put, List.setIfInBounds_toArray, List.set_cons_zero, List.set_cons_succ]
      refine wpAnyH_ready (rs := [4]) (by kernel_rfl) (by simp) ?_
      refine AllReadyH.cons rfl (fun K hK => ?_) AllReadyH.nil
      go_simp
      go_wp2_with (go_at_call 17; refine (HQ1.out _ hHeld _ _ HLPA.out).mono ?_; rintro e wq ⟨rfl, hbwq⟩)
      refine hK.out _ _ (By.ext hHeld hbwq) (fun hHeld => ?_)
      clear hK K
      try simp only [Act.put, List.setIfInBounds_toArray, List.set_cons_zero, List.set_cons_succ]
      refine take_at (i := 5) (d := some 40) (v := ?_) rfl rfl (by kernel_rfl) (by kernel_rfl) (by kernel_rfl) (fun _ _ _ h => h) (Or.inl ⟨by rfl, ?_⟩) hHeld ?_
      rotate_left
      · (intro w hSw; (try dsimp only at hSw); first | (go_simp; done) | (go_simp; with_reducible rfl))
      try simp only [Act.put, List.setIfInBounds_toArray, List.set_cons_zero, List.set_cons_succ]
      refine take_at (i := 6) (d := some 41) (v := ?_) rfl rfl (by kernel_rfl) (by kernel_rfl) (by kernel_rfl) (fun _ _ _ h => h) (Or.inl ⟨by rfl, ?_⟩) hHeld ?_
      rotate_left
      · (intro w hSw; (try dsimp only at hSw); first | (go_simp; done) | (go_simp; with_reducible rfl))
      try simp only [Act.put, List.setIfInBounds_toArray, List.set_cons_zero, List.set_cons_succ]
      refine take_at (i := 7) (d := some 42) (v := undef) rfl rfl (by kernel_rfl) (by kernel_rfl) (by kernel_rfl) (fun _ _ _ h => h) (Or.inr ⟨by rfl, rfl⟩) hHeld ?_
      try simp only [Act.put, List.setIfInBounds_toArray, List.set_cons_zero, List.set_cons_succ]
      refine take_at (i := 8) (d := some 43) (v := undef) rfl rfl (by kernel_rfl) (by kernel_rfl) (by kernel_rfl) (fun _ _ _ h => h) (Or.inr ⟨by rfl, rfl⟩) hHeld ?_
      try simp only [Act.put, List.setIfInBounds_toArray, List.set_cons_zero, List.set_cons_succ]
      refine take_at (i := 9) (d := some 44) (v := undef) rfl rfl (by kernel_rfl) (by kernel_rfl) (by kernel_rfl) (fun _ _ _ h => h) (Or.inr ⟨by rfl, rfl⟩) hHeld ?_
      try simp only [Act.put, List.setIfInBounds_toArray, List.set_cons_zero, List.set_cons_succ]
      refine take_at (i := 10) (d := some 45) (v := undef) rfl rfl (by kernel_rfl) (by kernel_rfl) (by kernel_rfl) (fun _ _ _ h => h) (Or.inr ⟨by rfl, rfl⟩) hHeld ?_
      try simp only [Act.put, List.setIfInBounds_toArray, List.set_cons_zero, List.set_cons_succ]
      refine take_at (i := 11) (d := some 46) (v := undef) rfl rfl (by kernel_rfl) (by kernel_rfl) (by kernel_rfl) (fun _ _ _ h => h) (Or.inr ⟨by rfl, rfl⟩) hHeld ?_
      try simp only [Act.put, List.setIfInBounds_toArray, List.set_cons_zero, List.set_cons_succ]
      refine take_at (i := 12) (d := some 47) (v := undef) rfl rfl (by kernel_rfl) (by kernel_rfl) (by kernel_rfl) (fun _ _ _ h => h) (Or.inr ⟨by rfl, rfl⟩) hHeld ?_
      try simp only [Act.put, List.setIfInBounds_toArray, List.set_cons_zero, List.set_cons_succ]
      refine take_at (i := 13) (d := some 48) (v := ?_) rfl rfl (by kernel_rfl) (by kernel_rfl) (by kernel_rfl) (fun _ _ _ h => h) (Or.inl ⟨by rfl, ?_⟩) hHeld ?_
      rotate_left
      · (intro w hSw; (try dsimp only at hSw); first | (go_simp; done) | (go_simp; with_reducible rfl))
      try simp only [Act.put, List.setIfInBounds_toArray, List.set_cons_zero, List.set_cons_succ]
      refine wpAnyH_done (by kernel_rfl) ?_ _
      all_goals
        go_wp2
        go_ret
        exact ⟨rfl, By.ext HT.out.below hHeld⟩
    | true =>
      cases q2 with
      | false =>
        have HQ1 := Lib.hid hq1
        have HQ2 := Lib.hid hq2
        clear hq1 hq2 hmeet
        first
          | (go_region_held3 (fun w' => Below D.heap.size D w')
          (first
            | with_reducible assumption
            | with_reducible exact keep_drew (by with_reducible assumption)
            | with_reducible exact keep_alloc (by with_reducible assumption) _
            | with_reducible exact keep_drew (keep_alloc (by with_reducible assumption) _))
          (first
          | (go_at_call 17
             have h9 := HLPB; refine (HQ2.out _ ?_ _ _ HLPB.out).mono ?_
             · with_reducible first | assumption | exact keep_drew (by with_reducible assumption)
             rintro e wr2 ⟨rfl, hbwr2⟩
             have hswr2 : Below D.heap.size D wr2 := By.ext (by with_reducible first | assumption | exact keep_drew (by with_reducible assumption)) hbwr2
             clear hbwr2)
          | (go_at_call 17
             refine (HQ1.out _ ?_ _ _ HLPA.out).mono ?_
             · with_reducible first | assumption | exact keep_drew (by with_reducible assumption)
             rintro e wq ⟨rfl, hbwq⟩
             have hswq : Below D.heap.size D wq := By.ext (by with_reducible first | assumption | exact keep_drew (by with_reducible assumption)) hbwq
             clear hbwq)
          | (refine step_copyI (w := D) (by first | exact .inl rfl | exact .inr rfl) (.tmp 36) (.tmp 37) rfl rfl (by simp [Act.eval]) (A := Aa) (m := na) (c := ca) (by simp [Act.eval]) HNA.out (HLIA.out D hsD) (by have h1 := HNA.out; have h2 := HMA.out; omega) ?_
             intro Apa cpa wpa hlp hbp
             have hswpa : Below D.heap.size D wpa := By.ext hsD hbp
             have HLPA := Lib.hid (hlp.less (fun b hb => hb.1.2 : ∀ b, NewF D wpa b → Old wpa b))
             clear hlp hbp)
          | (refine step_copyI (w := wq) (by first | exact .inl rfl | exact .inr rfl) (.tmp 43) (.tmp 44) rfl rfl (by simp [Act.eval]) (A := Ab) (m := nb) (c := cb) (by simp [Act.eval]) HNB.out (HLIB.out wq hswq) (by have h1 := HNB.out; have h2 := HMB.out; omega) ?_
             intro Apb cpb wpb hlp hbp
             have hswpb : Below D.heap.size D wpb := By.ext hswq hbp
             have HLPB := Lib.hid (hlp.less (fun b hb => hb.1.2 : ∀ b, NewF wq wpb b → Old wpb b))
             clear hlp hbp)))
          | fail "x"
        all_goals
          go_wp2
          go_ret
          exact ⟨rfl, By.ext HT.out.below hswr2⟩
      | true =>
        have HQ1 := Lib.hid hq1
        have HQ2 := Lib.hid hq2
        have HME := Lib.hid (hmeet rfl rfl)
        clear hq1 hq2 hmeet
        first
          | (go_region_held3 (fun w' => Below D.heap.size D w')
          (first
            | with_reducible assumption
            | with_reducible exact keep_drew (by with_reducible assumption)
            | with_reducible exact keep_alloc (by with_reducible assumption) _
            | with_reducible exact keep_drew (keep_alloc (by with_reducible assumption) _))
          (first
          | (go_at_call 17
             have h9 := HLPB; refine (HQ2.out _ ?_ _ _ HLPB.out).mono ?_
             · with_reducible first | assumption | exact keep_drew (by with_reducible assumption)
             rintro e wr2 ⟨rfl, hbwr2⟩
             have hswr2 : Below D.heap.size D wr2 := By.ext (by with_reducible first | assumption | exact keep_drew (by with_reducible assumption)) hbwr2
             clear hbwr2)
          | (go_at_call 17
             refine (HQ1.out _ ?_ _ _ HLPA.out).mono ?_
             · with_reducible first | assumption | exact keep_drew (by with_reducible assumption)
             rintro e wq ⟨rfl, hbwq⟩
             have hswq : Below D.heap.size D wq := By.ext (by with_reducible first | assumption | exact keep_drew (by with_reducible assumption)) hbwq
             clear hbwq)
          | (refine step_copyI (w := D) (by first | exact .inl rfl | exact .inr rfl) (.tmp 36) (.tmp 37) rfl rfl (by simp [Act.eval]) (A := Aa) (m := na) (c := ca) (by simp [Act.eval]) HNA.out (HLIA.out D hsD) (by have h1 := HNA.out; have h2 := HMA.out; omega) ?_
             intro Apa cpa wpa hlp hbp
             have hswpa : Below D.heap.size D wpa := By.ext hsD hbp
             have HLPA := Lib.hid (hlp.less (fun b hb => hb.1.2 : ∀ b, NewF D wpa b → Old wpa b))
             clear hlp hbp)
          | (refine step_copyI (w := wq) (by first | exact .inl rfl | exact .inr rfl) (.tmp 43) (.tmp 44) rfl rfl (by simp [Act.eval]) (A := Ab) (m := nb) (c := cb) (by simp [Act.eval]) HNB.out (HLIB.out wq hswq) (by have h1 := HNB.out; have h2 := HMB.out; omega) ?_
             intro Apb cpb wpb hlp hbp
             have hswpb : Below D.heap.size D wpb := By.ext hswq hbp
             have HLPB := Lib.hid (hlp.less (fun b hb => hb.1.2 : ∀ b, NewF wq wpb b → Old wpb b))
             clear hlp hbp)))
          | fail "x"
        all_goals
          go_wp2
          go_loopw [13] (fun i wr => ∃ k : Nat, k ≤ na ∧ i = .int .i64 k ∧ Below D.heap.size D wr ∧ ∀ j v, j < k → a[j]? = some v → ¬ (v ∈ b ∧ ((confB vs ls && decide (v ∈ vs)) = true ∨ (confB us ks && decide (v ∈ us)) = true))) (fun i _ => na - (intOf i).toNat)
          case atStart => exact ⟨0, Nat.zero_le _, rfl, hswr2, fun j v hj => absurd hj (Nat.not_lt_zero _)⟩
          case round =>
            obtain ⟨k, hk, rfl, hb, hno⟩ := hrel
            have HNO := Lib.hid hno
            have hna47 : na ≤ 9437184 := HMA.out
            clear hno
            by_cases hkn : k < na
            · have hkl : k < a.length := by have := HNA.out; omega
              have hki : (k : Int) < (na : Int) := by omega
              have hk0 : (0 : Int) ≤ (k : Int) := by omega
              obtain ⟨ga, oa, rfl, hga, hca, hv0, hv1⟩ := (HLIA.out wr hb).at_ hkl
              have hxa : ∀ w', Below D.heap.size D w' → w'.cell? ⟨ga, oa + k, none⟩ = some (.int .i64 a[k]) := fun w' hb' => by
                obtain ⟨g3, o3, e3, _, h3, _⟩ := (HLIA.out w' hb').at_ hkl
                injection e3 with e3
                injection e3 with e4 e5
                subst e4 e5
                exact h3
              have HVK := Lib.hid (List.getElem?_eq_getElem hkl)
              have hh : ∀ w', Below D.heap.size D w' → Calls Try.prog 22 #[.slice Ab nb cb, .int .i64 a[k]] w' (Says (decide (a[k] ∈ b)) w') := fun w' hb' =>
                (has_any Ab nb cb w'.heap.size b HNB.out (by have := HMB.out; omega) a[k] hv0 hv1 w' (HLIB.out w' hb')).mono (by rintro e w2 ⟨rfl, rfl⟩; exact ⟨rfl, Below.refl _ _⟩)
              have hh0 : ∀ q, Calls Try.prog 22 #[.slice Ab nb cb, .int .i64 a[k]] (wr.drewN q) (fun e w' => e = .returned (.bool (decide (a[k] ∈ b))) ∧ w' = wr.drewN q) := fun q =>
                (has_any Ab nb cb wr.heap.size b HNB.out (by have := HMB.out; omega) a[k] hv0 hv1 (wr.drewN q) (HLIB.out wr hb)).mono (by rintro e w2 ⟨rfl, rfl⟩; exact ⟨rfl, rfl⟩)
              have hw1 := fun (w' : World) (hb' : Below D.heap.size D w') => rVoter_any (HT.out.k1.below hb') a[k] hv0 hv1
              have hw2 := fun (w' : World) (hb' : Below D.heap.size D w') => rVoter_any (HT.out.k2.below hb') a[k] hv0 hv1
              generalize a[k] = v at hca hv0 hv1 hxa HVK hh hh0 hw1 hw2
              have hstep : ∀ (bb p1 p2 : Bool), decide (v ∈ b) = bb → (confB vs ls && decide (v ∈ vs)) = p1 → (confB us ks && decide (v ∈ us)) = p2 → (bb && (p1 || p2)) = false → ∀ j z, j < k + 1 → a[j]? = some z → ¬ (z ∈ b ∧ ((confB vs ls && decide (z ∈ vs)) = true ∨ (confB us ks && decide (z ∈ us)) = true)) := by
                intro bb p1 p2 h1 h2 h3 h4 j z hj hz
                by_cases e : j = k
                · subst e
                  have e2 : z = v := Option.some.inj (hz.symm.trans HVK.out)
                  subst e2
                  rintro ⟨h5, h6⟩
                  rw [← h1, ← h2, ← h3, decide_eq_true h5] at h4
                  rcases h6 with h6 | h6
                  · rw [h6] at h4; cases h4
                  · rw [h6, Bool.or_true] at h4; cases h4
                · exact HNO.out j z (by omega) hz
              generalize e1 : decide (v ∈ b) = bb at hh hh0
              generalize e2 : (confB vs ls && decide (v ∈ vs)) = p1 at hw1
              generalize e3 : (confB us ks && decide (v ∈ us)) = p2 at hw2
              have hstep2 := hstep bb p1 p2 e1 e2 e3
              have HSTEP := Lib.hid hstep2
              have HH := Lib.hid hh
              have HH0 := Lib.hid hh0
              have HWB := Lib.hid hb
              have HV1 := Lib.hid hw1
              have HV2 := Lib.hid hw2
              clear hkl hv0 hv1 hh hh0 hw1 hw2 hstep hstep2 e1 e2 e3
              cases bb with
              | false =>
                go_upto_region 11 with fail
                go_quiet ((go_at_call 22; exact Calls.quiet_of_same (HH0.out _)))
                go_wp2
                go_roundw
                case rel => exact ⟨k + 1, by omega, by go_num, Co.below_drewN HWB.out _, HSTEP.out rfl⟩
                case measure => simp [intOf]; omega
              | true =>
                cases p1 with
                | true =>
                  go_upto_region 11 with fail
                  refine wp_region_held_drew (S := fun w' => Below D.heap.size D w') (by kernel_rfl) (HWB.out.drew) (fun hHeld => ?_)
                  refine take_at (i := 0) (d := some 55) (v := ?_) rfl rfl (by kernel_rfl) (by kernel_rfl) (by kernel_rfl) (fun _ _ _ h => h) (Or.inl ⟨by rfl, ?_⟩) hHeld ?_
                  rotate_left
                  · (intro w hSw; (try dsimp only at hSw); first | (go_simp; done) | (go_simp; with_reducible rfl))
                  try simp only [Act.put, List.setIfInBounds_toArray, List.set_cons_zero, List.set_cons_succ]
                  refine take_at (i := 1) (d := some 56) (v := ?_) rfl rfl (by kernel_rfl) (by kernel_rfl) (by kernel_rfl) (fun _ _ _ h => h) (Or.inl ⟨by rfl, ?_⟩) hHeld ?_
                  rotate_left
                  · (intro w hSw; (try dsimp only at hSw); first | (go_simp; done) | (go_simp; with_reducible rfl))
                  try simp only [Act.put, List.setIfInBounds_toArray, List.set_cons_zero, List.set_cons_succ]
                  refine take_at (i := 2) (d := some 57) (v := ?_) rfl rfl (by kernel_rfl) (by kernel_rfl) (by kernel_rfl) (fun _ _ _ h => h) (Or.inl ⟨by rfl, ?_⟩) hHeld ?_
                  rotate_left
                  · (intro w hSw; (try dsimp only at hSw); first | (go_simp; done) | (go_simp; with_reducible rfl))
                  try simp only [Act.put, List.setIfInBounds_toArray, List.set_cons_zero, List.set_cons_succ]
                  refine take_at (i := 3) (d := some 58) (v := ?_) rfl rfl (by kernel_rfl) (by kernel_rfl) (by kernel_rfl) (fun _ _ _ h => h) (Or.inl ⟨by rfl, ?_⟩) hHeld ?_
                  rotate_left
                  · (intro w hSw; (try dsimp only at hSw); first | (go_simp; done) | (go_simp; with_reducible rfl))
                  try simp only [Act.put, List.setIfInBounds_toArray, List.set_cons_zero, List.set_cons_succ]
                  refine take_at (i := 4) (d := some 59) (v := ?_) rfl rfl (by kernel_rfl) (by kernel_rfl) (by kernel_rfl) (fun _ _ _ h => h) (Or.inl ⟨by rfl, ?_⟩) hHeld ?_
                  rotate_left
                  · (intro w hSw; (try dsimp only at hSw); first | (go_simp; done) | (go_simp; with_reducible rfl))
                  try simp only [Act.put, List.setIfInBounds_toArray, List.set_cons_zero, List.set_cons_succ]
                  refine wpAnyH_ready (rs := [5]) (by kernel_rfl) (by simp) ?_
                  refine AllReadyH.cons rfl (fun K hK => ?_) AllReadyH.nil
                  go_simp
                  go_wp2_with (go_at_call 22; refine (HH.out _ hHeld).mono ?_; rintro e wh ⟨rfl, hbwh⟩)
                  refine hK.out _ _ (By.ext hHeld hbwh) (fun hHeld => ?_)
                  clear hK K
                  try simp only [Act.put, List.setIfInBounds_toArray, List.set_cons_zero, List.set_cons_succ]
                  refine take_at (i := 6) (d := some 61) (v := ?_) rfl rfl (by kernel_rfl) (by kernel_rfl) (by kernel_rfl) (fun _ _ _ h => h) (Or.inl ⟨by rfl, ?_⟩) hHeld ?_
                  rotate_left
                  · (intro w hSw; (try dsimp only at hSw); first | (go_simp; done) | (go_simp; with_reducible rfl))
                  try simp only [Act.put, List.setIfInBounds_toArray, List.set_cons_zero, List.set_cons_succ]
                  refine take_at (i := 7) (d := some 62) (v := ?_) rfl rfl (by kernel_rfl) (by kernel_rfl) (by kernel_rfl) (fun _ _ _ h => h) (Or.inl ⟨by rfl, ?_⟩) hHeld ?_
                  rotate_left
                  · (intro w hSw; (try dsimp only at hSw); first | (go_simp; done) | (go_simp; with_reducible rfl))
                  try simp only [Act.put, List.setIfInBounds_toArray, List.set_cons_zero, List.set_cons_succ]
                  refine take_at (i := 8) (d := some 63) (v := ?_) rfl rfl (by kernel_rfl) (by kernel_rfl) (by kernel_rfl) (fun _ _ _ h => h) (Or.inl ⟨by rfl, ?_⟩) hHeld ?_
                  rotate_left
                  · (intro w hSw; (try dsimp only at hSw); first | (go_simp; done) | (go_simp; with_reducible rfl))
                  try simp only [Act.put, List.setIfInBounds_toArray, List.set_cons_zero, List.set_cons_succ]
                  refine take_at (i := 9) (d := some 64) (v := ?_) rfl rfl (by kernel_rfl) (by kernel_rfl) (by kernel_rfl) (fun _ _ _ h => h) (Or.inl ⟨by rfl, ?_⟩) hHeld ?_
                  rotate_left
                  · (intro w hSw; (try dsimp only at hSw); first | (go_simp; done) | (go_simp; with_reducible rfl))
                  try simp only [Act.put, List.setIfInBounds_toArray, List.set_cons_zero, List.set_cons_succ]
                  refine take_at (i := 10) (d := some 65) (v := ?_) rfl rfl (by kernel_rfl) (by kernel_rfl) (by kernel_rfl) (fun _ _ _ h => h) (Or.inl ⟨by rfl, ?_⟩) hHeld ?_
                  rotate_left
                  · (intro w hSw; (try dsimp only at hSw); first | (go_simp; done) | (go_simp; with_reducible rfl))
                  try simp only [Act.put, List.setIfInBounds_toArray, List.set_cons_zero, List.set_cons_succ]
                  refine take_at (i := 11) (d := some 66) (v := ?_) rfl rfl (by kernel_rfl) (by kernel_rfl) (by kernel_rfl) (fun _ _ _ h => h) (Or.inl ⟨by rfl, ?_⟩) hHeld ?_
                  rotate_left
                  · (intro w hSw; (try dsimp only at hSw); first | (go_simp; done) | (go_simp; with_reducible rfl))
                  try simp only [Act.put, List.setIfInBounds_toArray, List.set_cons_zero, List.set_cons_succ]
                  refine wpAnyH_ready (rs := [12]) (by kernel_rfl) (by simp) ?_
                  refine AllReadyH.cons rfl (fun K hK => ?_) AllReadyH.nil
                  go_simp
                  go_wp2_with (go_at_call 16; refine (HV1.out _ hHeld).mono ?_; rintro e wv1 ⟨rfl, hbwv1⟩)
                  refine hK.out _ _ (By.ext hHeld hbwv1) (fun hHeld => ?_)
                  clear hK K
                  try simp only [Act.put, List.setIfInBounds_toArray, List.set_cons_zero, List.set_cons_succ]
                  refine take_at (i := 13) (d := some 68) (v := ?_) rfl rfl (by kernel_rfl) (by kernel_rfl) (by kernel_rfl) (fun _ _ _ h => h) (Or.inl ⟨by rfl, ?_⟩) hHeld ?_
                  rotate_left
                  · (intro w hSw; (try dsimp only at hSw); first | (go_simp; done) | (go_simp; with_reducible rfl))
                  try simp only [Act.put, List.setIfInBounds_toArray, List.set_cons_zero, List.set_cons_succ]
                  refine take_at (i := 14) (d := some 69) (v := undef) rfl rfl (by kernel_rfl) (by kernel_rfl) (by kernel_rfl) (fun _ _ _ h => h) (Or.inr ⟨by rfl, rfl⟩) hHeld ?_
                  try simp only [Act.put, List.setIfInBounds_toArray, List.set_cons_zero, List.set_cons_succ]
                  refine take_at (i := 15) (d := some 70) (v := undef) rfl rfl (by kernel_rfl) (by kernel_rfl) (by kernel_rfl) (fun _ _ _ h => h) (Or.inr ⟨by rfl, rfl⟩) hHeld ?_
                  try simp only [Act.put, List.setIfInBounds_toArray, List.set_cons_zero, List.set_cons_succ]
                  refine take_at (i := 16) (d := some 71) (v := undef) rfl rfl (by kernel_rfl) (by kernel_rfl) (by kernel_rfl) (fun _ _ _ h => h) (Or.inr ⟨by rfl, rfl⟩) hHeld ?_
                  try simp only [Act.put, List.setIfInBounds_toArray, List.set_cons_zero, List.set_cons_succ]
                  refine take_at (i := 17) (d := some 72) (v := undef) rfl rfl (by kernel_rfl) (by kernel_rfl) (by kernel_rfl) (fun _ _ _ h => h) (Or.inr ⟨by rfl, rfl⟩) hHeld ?_
                  try simp only [Act.put, List.setIfInBounds_toArray, List.set_cons_zero, List.set_cons_succ]
                  refine take_at (i := 18) (d := some 73) (v := undef) rfl rfl (by kernel_rfl) (by kernel_rfl) (by kernel_rfl) (fun _ _ _ h => h) (Or.inr ⟨by rfl, rfl⟩) hHeld ?_
                  try simp only [Act.put, List.setIfInBounds_toArray, List.set_cons_zero, List.set_cons_succ]
                  refine take_at (i := 19) (d := some 74) (v := undef) rfl rfl (by kernel_rfl) (by kernel_rfl) (by kernel_rfl) (fun _ _ _ h => h) (Or.inr ⟨by rfl, rfl⟩) hHeld ?_
                  try simp only [Act.put, List.setIfInBounds_toArray, List.set_cons_zero, List.set_cons_succ]
                  refine take_at (i := 20) (d := some 75) (v := ?_) rfl rfl (by kernel_rfl) (by kernel_rfl) (by kernel_rfl) (fun _ _ _ h => h) (Or.inl ⟨by rfl, ?_⟩) hHeld ?_
                  rotate_left
                  · (intro w hSw; (try dsimp only at hSw); first | (go_simp; done) | (go_simp; with_reducible rfl))
                  try simp only [Act.put, List.setIfInBounds_toArray, List.set_cons_zero, List.set_cons_succ]
                  refine take_at (i := 21) (d := some 76) (v := ?_) rfl rfl (by kernel_rfl) (by kernel_rfl) (by kernel_rfl) (fun _ _ _ h => h) (Or.inl ⟨by rfl, ?_⟩) hHeld ?_
                  rotate_left
                  · (intro w hSw; (try dsimp only at hSw); first | (go_simp; done) | (go_simp; with_reducible rfl))
                  try simp only [Act.put, List.setIfInBounds_toArray, List.set_cons_zero, List.set_cons_succ]
                  refine wpAnyH_done (by kernel_rfl) ?_ _
                  all_goals
                    go_wp2
                    go_ret
                    exact ⟨rfl, By.ext HT.out.below hHeld⟩
                | false =>
                  cases p2 with
                  | true =>
                    go_upto_region 11 with fail
                    first
                    | (go_region_held3 (fun w' => Below D.heap.size D w')
                        (first
                          | with_reducible assumption
                          | with_reducible exact keep_drew (by with_reducible assumption))
                        (first
                        | (go_at_call 22
                           refine (HH.out _ ?_).mono ?_
                           · with_reducible first | assumption | exact keep_drew (by with_reducible assumption)
                           rintro e wh ⟨rfl, hbwh⟩
                           have hswh : Below D.heap.size D wh := By.ext (by with_reducible first | assumption | exact keep_drew (by with_reducible assumption)) hbwh
                           clear hbwh)
                        | (go_at_call 16
                           have h9 := hswv1; refine (HV2.out _ ?_).mono ?_
                           · with_reducible first | assumption | exact keep_drew (by with_reducible assumption)
                           rintro e wv2 ⟨rfl, hbwv2⟩
                           have hswv2 : Below D.heap.size D wv2 := By.ext (by with_reducible first | assumption | exact keep_drew (by with_reducible assumption)) hbwv2
                           clear hbwv2)
                        | (go_at_call 16
                           refine (HV1.out _ ?_).mono ?_
                           · with_reducible first | assumption | exact keep_drew (by with_reducible assumption)
                           rintro e wv1 ⟨rfl, hbwv1⟩
                           have hswv1 : Below D.heap.size D wv1 := By.ext (by with_reducible first | assumption | exact keep_drew (by with_reducible assumption)) hbwv1
                           clear hbwv1)))
                    | fail "x"
                    all_goals
                      go_wp2
                      go_ret
                      exact ⟨rfl, By.ext HT.out.below hswv2⟩
                  | false =>
                    go_upto_region 11 with fail
                    first
                    | (go_region_held3 (fun w' => Below D.heap.size D w')
                        (first
                          | with_reducible assumption
                          | with_reducible exact keep_drew (by with_reducible assumption))
                        (first
                        | (go_at_call 22
                           refine (HH.out _ ?_).mono ?_
                           · with_reducible first | assumption | exact keep_drew (by with_reducible assumption)
                           rintro e wh ⟨rfl, hbwh⟩
                           have hswh : Below D.heap.size D wh := By.ext (by with_reducible first | assumption | exact keep_drew (by with_reducible assumption)) hbwh
                           clear hbwh)
                        | (go_at_call 16
                           have h9 := hswv1; refine (HV2.out _ ?_).mono ?_
                           · with_reducible first | assumption | exact keep_drew (by with_reducible assumption)
                           rintro e wv2 ⟨rfl, hbwv2⟩
                           have hswv2 : Below D.heap.size D wv2 := By.ext (by with_reducible first | assumption | exact keep_drew (by with_reducible assumption)) hbwv2
                           clear hbwv2)
                        | (go_at_call 16
                           refine (HV1.out _ ?_).mono ?_
                           · with_reducible first | assumption | exact keep_drew (by with_reducible assumption)
                           rintro e wv1 ⟨rfl, hbwv1⟩
                           have hswv1 : Below D.heap.size D wv1 := By.ext (by with_reducible first | assumption | exact keep_drew (by with_reducible assumption)) hbwv1
                           clear hbwv1)))
                    | fail "x"
                    all_goals
                      go_wp2
                      go_roundw
                      case rel => exact ⟨k + 1, by omega, by go_num, hswv2, HSTEP.out rfl⟩
                      case measure => simp [intOf]; omega
            · obtain rfl : k = na := by omega
              obtain ⟨v, hva, hvb, hvc⟩ := HME.out
              obtain ⟨j, hj, e⟩ := List.mem_iff_getElem.1 hva
              exact absurd ⟨hvb, hvc⟩ (HNO.out j v (by have := HNA.out; omega) (by rw [List.getElem?_eq_getElem hj, e]))
end Go.Proofs.Ythocmnfmialcaaa.Cn
