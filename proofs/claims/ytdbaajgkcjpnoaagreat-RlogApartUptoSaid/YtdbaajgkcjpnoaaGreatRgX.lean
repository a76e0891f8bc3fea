/- The law's act of kind 5, and of any kind, as contracts of calls. Written by genrgx.py. -/
import Derived.Test.YtdbaajgkcjpnoaaGreatQg
namespace Go.Proofs.YtdbaajgkcjpnoaaGreat.Rg
open Go.RowKit By CoP Co Mo Kd

set_option maxRecDepth 100000 in
set_option maxHeartbeats 3200000 in
theorem act_5 {B p q : Nat} {s1 s2 : Lg} {F : Nat → Prop} {w : World} (h : TwoAt B w p q s1 s2 F) (n : Int) (ix tm : Nat) (l : List En) (A : Option Addr) (c : Nat) (ha : A11At B w ⟨5, n, ix, tm, l⟩ A c) (hn1 : s1.es.length + l.length ≤ 1073741823) (hn2 : s2.es.length + l.length ≤ 1073741823) :
    Calls Tryz.prog 12 #[ptr p, ptr q, .agg #[.int .i64 5, .int .i64 n, .int .u64 (ix : Int), .int .u64 (tm : Int), .slice A l.length c]] w (ActPost B p q s1 s2 ⟨5, n, ix, tm, l⟩ F w) := by
  have htwo := h
  obtain ⟨v, S, u, T, h1, h2, h3, h4, h5, h6⟩ := h
  obtain ⟨w1, e1⟩ : ∃ w1, w1 = w.alloc (.cells #[.int .i64 5, .int .i64 n, .int .u64 (ix : Int), .int .u64 (tm : Int), .slice A l.length c] tAct) := ⟨_, rfl⟩
  have hb1 : Below w.heap.size w w1 := by rw [e1]; exact (Below.refl _ _).alloc (Nat.le_refl _) _
  have hr1 : w1.heap[w.heap.size]? = some (.cells #[.int .i64 5, .int .i64 n, .int .u64 (ix : Int), .int .u64 (tm : Int), .slice A l.length c] tAct (0, 0)) := by rw [e1]; exact heap_alloc_new _ _
  have hz1 : w1.heap.size = w.heap.size + 1 := by rw [e1, World.size_alloc]
  have HBOX := Lib.hid (show ∀ W : World, W.heap[w.heap.size]? = w1.heap[w.heap.size]? → W.cell? ⟨w.heap.size, 0, none⟩ = some (.int .i64 5) ∧ W.cell? ⟨w.heap.size, 1, none⟩ = some (.int .i64 n) ∧ W.cell? ⟨w.heap.size, 2, none⟩ = some (.int .u64 (ix : Int)) ∧ W.cell? ⟨w.heap.size, 3, none⟩ = some (.int .u64 (tm : Int)) ∧ W.cell? ⟨w.heap.size, 4, none⟩ = some (.slice A l.length c) from fun W hW => by
    have h := hW.trans hr1
    exact ⟨by rw [cell_of_row W _ 0 _ _ _ h]; rfl, by rw [cell_of_row W _ 1 _ _ _ h]; rfl, by rw [cell_of_row W _ 2 _ _ _ h]; rfl, by rw [cell_of_row W _ 3 _ _ _ h]; rfl, by rw [cell_of_row W _ 4 _ _ _ h]; rfl⟩)
  have HB1 := Lib.hid hb1
  have HZ1 := Lib.hid hz1
  have HLT1 := Lib.hid (row_lt hr1)
  obtain ⟨b0, b1, b2, b3, b4⟩ := HBOX.out w1 rfl
  have HTWO := Lib.hid htwo
  have H1 := Lib.hid h1
  have H2 := Lib.hid h2
  have H3 := Lib.hid h3
  have H4 := Lib.hid h4
  have H5 := Lib.hid h5
  have H6 := Lib.hid h6
  have HA := Lib.hid ha
  have HN1 := Lib.hid hn1
  have HN2 := Lib.hid hn2
  have HC1 := Lib.hid (fun W (hW : Below w.heap.size w W) => fits_any W (h1.below hW) ix tm)
  have HC2 := Lib.hid (fun W (hW : Below w.heap.size w W) => rfits_any W (h2.below hW) ix tm)
  have HC3 := Lib.hid (fun W (hW : Below w.heap.size w W) => fresh_any W (h1.below hW) ix tm)
  have HC4 := Lib.hid (fun W (hW : Below w.heap.size w W) => rfresh_any W (h2.below hW) ix tm)
  have HEQ := Lib.hid (show s1 = s2 → fits s1 ix tm = fits s2 ix tm ∧ fresh s1 ix tm = fresh s2 ix tm from fun e => by rw [e]; exact ⟨rfl, rfl⟩)
  generalize fits s1 ix tm = f1 at HC1 HEQ
  generalize fits s2 ix tm = f2 at HC2 HEQ
  generalize fresh s1 ix tm = k1 at HC3 HEQ
  generalize fresh s2 ix tm = k2 at HC4 HEQ
  clear hb1 hr1 hz1 htwo h1 h2 h3 h4 h5 h6 ha hn1 hn2
  show Calls _ _ _ w (ActP B p q s1 s2 s1 s2 F w)
  by_cases g1 : f1 = f2
  · subst g1
    by_cases g2 : k1 = k2
    · subst g2
      go_enter Tryz.func12, Tryz.ntmps12
      go_upto_region 1 with fail
      rw [← e1]
      clear e1
      go_upto_region 17 with fail
      have HBc := Lib.hid HB1.out.drew
      have HBXc := Lib.hid (show w1.drew.heap[w.heap.size]? = w1.heap[w.heap.size]? from rfl)
      clear b0 b1 b2 b3 b4
      go_region_held3 (fun w' => w'.cell? ⟨w.heap.size, 0, none⟩ = some (.int .i64 5) ∧ w'.cell? ⟨w.heap.size, 1, none⟩ = some (.int .i64 n) ∧ w'.cell? ⟨w.heap.size, 2, none⟩ = some (.int .u64 (ix : Int)) ∧ w'.cell? ⟨w.heap.size, 3, none⟩ = some (.int .u64 (tm : Int)) ∧ w'.cell? ⟨w.heap.size, 4, none⟩ = some (.slice A l.length c))
          (first
            | with_reducible assumption
            | exact HBOX.out _ rfl
            | exact HBOX.out _ HBXc.out)
          (first
            | (go_at_call 21; refine (HC1.out _ HBc.out).mono ?_; rintro e wn ⟨rfl, hb⟩; have HBXc := Lib.hid ((hb.block _ (row_lt_of HBXc.out HLT1.out)).trans HBXc.out); have HBc := Lib.hid (By.ext HBc.out hb); clear hb)
            | (go_at_call 16; refine (HC2.out _ HBc.out).mono ?_; rintro e wn ⟨rfl, hb⟩; have HBXc := Lib.hid ((hb.block _ (row_lt_of HBXc.out HLT1.out)).trans HBXc.out); have HBc := Lib.hid (By.ext HBc.out hb); clear hb)
            | (go_at_call 24; refine (HC3.out _ HBc.out).mono ?_; rintro e wn ⟨rfl, hb⟩; have HBXc := Lib.hid ((hb.block _ (row_lt_of HBXc.out HLT1.out)).trans HBXc.out); have HBc := Lib.hid (By.ext HBc.out hb); clear hb)
            | (go_at_call 33; refine (HC4.out _ HBc.out).mono ?_; rintro e wn ⟨rfl, hb⟩; have HBXc := Lib.hid ((hb.block _ (row_lt_of HBXc.out HLT1.out)).trans HBXc.out); have HBc := Lib.hid (By.ext HBc.out hb); clear hb))
      all_goals
        go_wp2
        go_ret
        exact ⟨true, by simp, fun _ => rfl, BStep.same HTWO.out HBc.out⟩
    · have g2b : (k1 == k2) = false := beq_eq_false_iff_ne.2 g2
      go_enter Tryz.func12, Tryz.ntmps12
      go_upto_region 1 with fail
      rw [← e1]
      clear e1
      go_upto_region 17 with fail
      have HBc := Lib.hid HB1.out.drew
      have HBXc := Lib.hid (show w1.drew.heap[w.heap.size]? = w1.heap[w.heap.size]? from rfl)
      clear b0 b1 b2 b3 b4
      go_region_held3 (fun w' => w'.cell? ⟨w.heap.size, 0, none⟩ = some (.int .i64 5) ∧ w'.cell? ⟨w.heap.size, 1, none⟩ = some (.int .i64 n) ∧ w'.cell? ⟨w.heap.size, 2, none⟩ = some (.int .u64 (ix : Int)) ∧ w'.cell? ⟨w.heap.size, 3, none⟩ = some (.int .u64 (tm : Int)) ∧ w'.cell? ⟨w.heap.size, 4, none⟩ = some (.slice A l.length c))
          (first
            | with_reducible assumption
            | exact HBOX.out _ rfl
            | exact HBOX.out _ HBXc.out)
          (first
            | (go_at_call 21; refine (HC1.out _ HBc.out).mono ?_; rintro e wn ⟨rfl, hb⟩; have HBXc := Lib.hid ((hb.block _ (row_lt_of HBXc.out HLT1.out)).trans HBXc.out); have HBc := Lib.hid (By.ext HBc.out hb); clear hb)
            | (go_at_call 16; refine (HC2.out _ HBc.out).mono ?_; rintro e wn ⟨rfl, hb⟩; have HBXc := Lib.hid ((hb.block _ (row_lt_of HBXc.out HLT1.out)).trans HBXc.out); have HBc := Lib.hid (By.ext HBc.out hb); clear hb)
            | (go_at_call 24; refine (HC3.out _ HBc.out).mono ?_; rintro e wn ⟨rfl, hb⟩; have HBXc := Lib.hid ((hb.block _ (row_lt_of HBXc.out HLT1.out)).trans HBXc.out); have HBc := Lib.hid (By.ext HBc.out hb); clear hb)
            | (go_at_call 33; refine (HC4.out _ HBc.out).mono ?_; rintro e wn ⟨rfl, hb⟩; have HBXc := Lib.hid ((hb.block _ (row_lt_of HBXc.out HLT1.out)).trans HBXc.out); have HBc := Lib.hid (By.ext HBc.out hb); clear hb))
      all_goals
        go_wp2
        go_ret
        exact ⟨false, by simp, fun e => absurd (HEQ.out e).2 g2, BStep.same HTWO.out HBc.out⟩
  · have g1b : (f1 == f2) = false := beq_eq_false_iff_ne.2 g1
    have g1c : (f1 = f2) = False := by simp [g1]
    go_enter Tryz.func12, Tryz.ntmps12
    go_upto_region 1 with fail
    rw [← e1]
    clear e1
    go_upto_region 17 with fail
    have HBc := Lib.hid HB1.out.drew
    have HBXc := Lib.hid (show w1.drew.heap[w.heap.size]? = w1.heap[w.heap.size]? from rfl)
    clear b0 b1 b2 b3 b4
    refine wp_region_held_drew (S := fun w' => w'.cell? ⟨w.heap.size, 0, none⟩ = some (.int .i64 5) ∧ w'.cell? ⟨w.heap.size, 1, none⟩ = some (.int .i64 n) ∧ w'.cell? ⟨w.heap.size, 2, none⟩ = some (.int .u64 (ix : Int)) ∧ w'.cell? ⟨w.heap.size, 3, none⟩ = some (.int .u64 (tm : Int)) ∧ w'.cell? ⟨w.heap.size, 4, none⟩ = some (.slice A l.length c)) (by kernel_rfl) (HBOX.out _ rfl) (fun hHeld => ?_)
    refine take_at (i := 0) (d := some 136) (v := ?_) rfl rfl (by kernel_rfl) (by kernel_rfl) (by kernel_rfl) (fun _ _ _ h => h) (Or.inl ⟨by rfl, ?_⟩) hHeld ?_
    rotate_left
    · (intro w hSw; (try dsimp only at hSw); first | (go_simp; done) | (go_simp; with_reducible rfl))
    ((try simp only [Act.put]); (try simp only [List.setIfInBounds_toArray]); (try simp only [List.set_cons_succ]); (try simp only [List.set_cons_zero]))
    refine take_at (i := 1) (d := some 137) (v := ?_) rfl rfl (by kernel_rfl) (by kernel_rfl) (by kernel_rfl) (fun _ _ _ h => h) (Or.inl ⟨by rfl, ?_⟩) hHeld ?_
    rotate_left
    · (intro w hSw; (try dsimp only at hSw); first | (go_simp; done) | (go_simp; with_reducible rfl))
    ((try simp only [Act.put]); (try simp only [List.setIfInBounds_toArray]); (try simp only [List.set_cons_succ]); (try simp only [List.set_cons_zero]))
    refine take_at (i := 2) (d := some 138) (v := ?_) rfl rfl (by kernel_rfl) (by kernel_rfl) (by kernel_rfl) (fun _ _ _ h => h) (Or.inl ⟨by rfl, ?_⟩) hHeld ?_
    rotate_left
    · (intro w hSw; (try dsimp only at hSw); first | (go_simp; done) | (go_simp; with_reducible rfl))
    ((try simp only [Act.put]); (try simp only [List.setIfInBounds_toArray]); (try simp only [List.set_cons_succ]); (try simp only [List.set_cons_zero]))
    refine take_at (i := 3) (d := some 139) (v := ?_) rfl rfl (by kernel_rfl) (by kernel_rfl) (by kernel_rfl) (fun _ _ _ h => h) (Or.inl ⟨by rfl, ?_⟩) hHeld ?_
    rotate_left
    · (intro w hSw; (try dsimp only at hSw); first | (go_simp; done) | (go_simp; with_reducible rfl))
    ((try simp only [Act.put]); (try simp only [List.setIfInBounds_toArray]); (try simp only [List.set_cons_succ]); (try simp only [List.set_cons_zero]))
    refine take_at (i := 4) (d := some 140) (v := ?_) rfl rfl (by kernel_rfl) (by kernel_rfl) (by kernel_rfl) (fun _ _ _ h => h) (Or.inl ⟨by rfl, ?_⟩) hHeld ?_
    rotate_left
    · (intro w hSw; (try dsimp only at hSw); first | (go_simp; done) | (go_simp; with_reducible rfl))
    ((try simp only [Act.put]); (try simp only [List.setIfInBounds_toArray]); (try simp only [List.set_cons_succ]); (try simp only [List.set_cons_zero]))
    refine take_at (i := 6) (d := some 142) (v := ?_) rfl rfl (by kernel_rfl) (by kernel_rfl) (by kernel_rfl) (fun _ _ _ h => h) (Or.inl ⟨by rfl, ?_⟩) hHeld ?_
    rotate_left
    · (intro w hSw; (try dsimp only at hSw); first | (go_simp; done) | (go_simp; with_reducible rfl))
    ((try simp only [Act.put]); (try simp only [List.setIfInBounds_toArray]); (try simp only [List.set_cons_succ]); (try simp only [List.set_cons_zero]))
    refine take_at (i := 7) (d := some 143) (v := ?_) rfl rfl (by kernel_rfl) (by kernel_rfl) (by kernel_rfl) (fun _ _ _ h => h) (Or.inl ⟨by rfl, ?_⟩) hHeld ?_
    rotate_left
    · (intro w hSw; (try dsimp only at hSw); first | (go_simp; done) | (go_simp; with_reducible rfl))
    ((try simp only [Act.put]); (try simp only [List.setIfInBounds_toArray]); (try simp only [List.set_cons_succ]); (try simp only [List.set_cons_zero]))
    refine take_at (i := 8) (d := some 144) (v := ?_) rfl rfl (by kernel_rfl) (by kernel_rfl) (by kernel_rfl) (fun _ _ _ h => h) (Or.inl ⟨by rfl, ?_⟩) hHeld ?_
    rotate_left
    · (intro w hSw; (try dsimp only at hSw); first | (go_simp; done) | (go_simp; with_reducible rfl))
    ((try simp only [Act.put]); (try simp only [List.setIfInBounds_toArray]); (try simp only [List.set_cons_succ]); (try simp only [List.set_cons_zero]))
    refine take_at (i := 9) (d := some 145) (v := ?_) rfl rfl (by kernel_rfl) (by kernel_rfl) (by kernel_rfl) (fun _ _ _ h => h) (Or.inl ⟨by rfl, ?_⟩) hHeld ?_
    rotate_left
    · (intro w hSw; (try dsimp only at hSw); first | (go_simp; done) | (go_simp; with_reducible rfl))
    ((try simp only [Act.put]); (try simp only [List.setIfInBounds_toArray]); (try simp only [List.set_cons_succ]); (try simp only [List.set_cons_zero]))
    refine take_at (i := 10) (d := some 146) (v := ?_) rfl rfl (by kernel_rfl) (by kernel_rfl) (by kernel_rfl) (fun _ _ _ h => h) (Or.inl ⟨by rfl, ?_⟩) hHeld ?_
    rotate_left
    · (intro w hSw; (try dsimp only at hSw); first | (go_simp; done) | (go_simp; with_reducible rfl))
    ((try simp only [Act.put]); (try simp only [List.setIfInBounds_toArray]); (try simp only [List.set_cons_succ]); (try simp only [List.set_cons_zero]))
    refine wpAnyH_ready (rs := [5]) (by kernel_rfl) (by simp) ?_
    refine AllReadyH.cons rfl (fun K hK => ?_) AllReadyH.nil
    go_simp
    refine (HC1.out _ HBc.out).mono ?_
    rintro e wn ⟨rfl, hb⟩
    have HBXc := Lib.hid ((hb.block _ (row_lt_of HBXc.out HLT1.out)).trans HBXc.out)
    have HBc := Lib.hid (By.ext HBc.out hb)
    clear hb
    dsimp only
    refine hK.out _ _ (HBOX.out _ HBXc.out) (fun hHeld => ?_)
    clear hK K
    ((try simp only [Act.put]); (try simp only [List.setIfInBounds_toArray]); (try simp only [List.set_cons_succ]); (try simp only [List.set_cons_zero]))
    refine wpAnyH_ready (rs := [11]) (by kernel_rfl) (by simp) ?_
    refine AllReadyH.cons rfl (fun K hK => ?_) AllReadyH.nil
    go_simp
    refine (HC2.out _ HBc.out).mono ?_
    rintro e wn ⟨rfl, hb⟩
    have HBXc := Lib.hid ((hb.block _ (row_lt_of HBXc.out HLT1.out)).trans HBXc.out)
    have HBc := Lib.hid (By.ext HBc.out hb)
    clear hb
    dsimp only
    refine hK.out _ _ (HBOX.out _ HBXc.out) (fun hHeld => ?_)
    clear hK K
    ((try simp only [Act.put]); (try simp only [List.setIfInBounds_toArray]); (try simp only [List.set_cons_succ]); (try simp only [List.set_cons_zero]))
    refine take_at (i := 12) (d := some 148) (v := ?_) rfl rfl (by kernel_rfl) (by kernel_rfl) (by kernel_rfl) (fun _ _ _ h => h) (Or.inl ⟨by rfl, ?_⟩) hHeld ?_
    rotate_left
    · (intro w hSw; (try dsimp only at hSw); first | (go_simp; done) | (go_simp; with_reducible rfl))
    ((try simp only [Act.put]); (try simp only [List.setIfInBounds_toArray]); (try simp only [List.set_cons_succ]); (try simp only [List.set_cons_zero]))
    refine take_at (i := 13) (d := some 149) (v := ?_) rfl rfl (by kernel_rfl) (by kernel_rfl) (by kernel_rfl) (fun _ _ _ h => h) (Or.inl ⟨by rfl, ?_⟩) hHeld ?_
    rotate_left
    · (intro w hSw; (try dsimp only at hSw); first | (go_simp; done) | (go_simp; with_reducible rfl))
    ((try simp only [Act.put]); (try simp only [List.setIfInBounds_toArray]); (try simp only [List.set_cons_succ]); (try simp only [List.set_cons_zero]))
    refine take_at (i := 14) (d := some 150) (v := undef) rfl rfl (by kernel_rfl) (by kernel_rfl) (by kernel_rfl) (fun _ _ _ h => h) (Or.inr ⟨by rfl, rfl⟩) hHeld ?_
    ((try simp only [Act.put]); (try simp only [List.setIfInBounds_toArray]); (try simp only [List.set_cons_succ]); (try simp only [List.set_cons_zero]))
    refine take_at (i := 15) (d := some 151) (v := undef) rfl rfl (by kernel_rfl) (by kernel_rfl) (by kernel_rfl) (fun _ _ _ h => h) (Or.inr ⟨by rfl, rfl⟩) hHeld ?_
    ((try simp only [Act.put]); (try simp only [List.setIfInBounds_toArray]); (try simp only [List.set_cons_succ]); (try simp only [List.set_cons_zero]))
    refine take_at (i := 16) (d := some 152) (v := undef) rfl rfl (by kernel_rfl) (by kernel_rfl) (by kernel_rfl) (fun _ _ _ h => h) (Or.inr ⟨by rfl, rfl⟩) hHeld ?_
    ((try simp only [Act.put]); (try simp only [List.setIfInBounds_toArray]); (try simp only [List.set_cons_succ]); (try simp only [List.set_cons_zero]))
    refine take_at (i := 17) (d := some 153) (v := undef) rfl rfl (by kernel_rfl) (by kernel_rfl) (by kernel_rfl) (fun _ _ _ h => h) (Or.inr ⟨by rfl, rfl⟩) hHeld ?_
    ((try simp only [Act.put]); (try simp only [List.setIfInBounds_toArray]); (try simp only [List.set_cons_succ]); (try simp only [List.set_cons_zero]))
    refine take_at (i := 18) (d := some 154) (v := undef) rfl rfl (by kernel_rfl) (by kernel_rfl) (by kernel_rfl) (fun _ _ _ h => h) (Or.inr ⟨by rfl, rfl⟩) hHeld ?_
    ((try simp only [Act.put]); (try simp only [List.setIfInBounds_toArray]); (try simp only [List.set_cons_succ]); (try simp only [List.set_cons_zero]))
    refine take_at (i := 19) (d := some 155) (v := undef) rfl rfl (by kernel_rfl) (by kernel_rfl) (by kernel_rfl) (fun _ _ _ h => h) (Or.inr ⟨by rfl, rfl⟩) hHeld ?_
    ((try simp only [Act.put]); (try simp only [List.setIfInBounds_toArray]); (try simp only [List.set_cons_succ]); (try simp only [List.set_cons_zero]))
    refine take_at (i := 20) (d := some 156) (v := undef) rfl rfl (by kernel_rfl) (by kernel_rfl) (by kernel_rfl) (fun _ _ _ h => h) (Or.inr ⟨by rfl, rfl⟩) hHeld ?_
    ((try simp only [Act.put]); (try simp only [List.setIfInBounds_toArray]); (try simp only [List.set_cons_succ]); (try simp only [List.set_cons_zero]))
    refine take_at (i := 21) (d := some 157) (v := undef) rfl rfl (by kernel_rfl) (by kernel_rfl) (by kernel_rfl) (fun _ _ _ h => h) (Or.inr ⟨by rfl, rfl⟩) hHeld ?_
    ((try simp only [Act.put]); (try simp only [List.setIfInBounds_toArray]); (try simp only [List.set_cons_succ]); (try simp only [List.set_cons_zero]))
    refine take_at (i := 22) (d := some 158) (v := undef) rfl rfl (by kernel_rfl) (by kernel_rfl) (by kernel_rfl) (fun _ _ _ h => h) (Or.inr ⟨by rfl, rfl⟩) hHeld ?_
    ((try simp only [Act.put]); (try simp only [List.setIfInBounds_toArray]); (try simp only [List.set_cons_succ]); (try simp only [List.set_cons_zero]))
    refine take_at (i := 23) (d := some 159) (v := undef) rfl rfl (by kernel_rfl) (by kernel_rfl) (by kernel_rfl) (fun _ _ _ h => h) (Or.inr ⟨by rfl, rfl⟩) hHeld ?_
    ((try simp only [Act.put]); (try simp only [List.setIfInBounds_toArray]); (try simp only [List.set_cons_succ]); (try simp only [List.set_cons_zero]))
    refine take_at (i := 24) (d := some 160) (v := undef) rfl rfl (by kernel_rfl) (by kernel_rfl) (by kernel_rfl) (fun _ _ _ h => h) (Or.inr ⟨by rfl, rfl⟩) hHeld ?_
    ((try simp only [Act.put]); (try simp only [List.setIfInBounds_toArray]); (try simp only [List.set_cons_succ]); (try simp only [List.set_cons_zero]))
    refine take_at (i := 25) (d := some 161) (v := undef) rfl rfl (by kernel_rfl) (by kernel_rfl) (by kernel_rfl) (fun _ _ _ h => h) (Or.inr ⟨by rfl, rfl⟩) hHeld ?_
    ((try simp only [Act.put]); (try simp only [List.setIfInBounds_toArray]); (try simp only [List.set_cons_succ]); (try simp only [List.set_cons_zero]))
    refine take_at (i := 26) (d := some 162) (v := undef) rfl rfl (by kernel_rfl) (by kernel_rfl) (by kernel_rfl) (fun _ _ _ h => h) (Or.inr ⟨by rfl, rfl⟩) hHeld ?_
    ((try simp only [Act.put]); (try simp only [List.setIfInBounds_toArray]); (try simp only [List.set_cons_succ]); (try simp only [List.set_cons_zero]))
    refine take_at (i := 27) (d := some 163) (v := ?_) rfl rfl (by kernel_rfl) (by kernel_rfl) (by kernel_rfl) (fun _ _ _ h => h) (Or.inl ⟨by rfl, ?_⟩) hHeld ?_
    rotate_left
    · (intro w hSw; (try dsimp only at hSw); first | (go_simp; done) | (go_simp; with_reducible rfl))
    ((try simp only [Act.put]); (try simp only [List.setIfInBounds_toArray]); (try simp only [List.set_cons_succ]); (try simp only [List.set_cons_zero]))
    refine take_at (i := 28) (d := some 6) (v := ?_) rfl rfl (by kernel_rfl) (by kernel_rfl) (by kernel_rfl) (fun _ _ _ h => h) (Or.inl ⟨by rfl, ?_⟩) hHeld ?_
    rotate_left
    · (intro w hSw; (try dsimp only at hSw); first | (go_simp; done) | (go_simp; with_reducible rfl))
    ((try simp only [Act.put]); (try simp only [List.setIfInBounds_toArray]); (try simp only [List.set_cons_succ]); (try simp only [List.set_cons_zero]))
    refine wpAnyH_done (by kernel_rfl) ?_ _
    go_wp2
    go_ret
    exact ⟨false, rfl, fun e => absurd (HEQ.out e).1 g1, BStep.same HTWO.out HBc.out⟩
/-- act, of any kind. -/
theorem act_any {B p q : Nat} {s1 s2 : Lg} {F : Nat → Prop} {w : World} (h : TwoAt B w p q s1 s2 F) (a : A11) (A : Option Addr) (c : Nat) (ha : A11At B w a A c) (hn1 : s1.es.length + a.l.length ≤ 1073741823) (hn2 : s2.es.length + a.l.length ≤ 1073741823) :
    Calls Tryz.prog 12 #[ptr p, ptr q, .agg #[.int .i64 a.kd, .int .i64 a.n, .int .u64 (a.ix : Int), .int .u64 (a.tm : Int), .slice A a.l.length c]] w (ActPost B p q s1 s2 a F w) := by
  obtain ⟨kd, n, ix, tm, l⟩ := a
  by_cases k1 : kd = 1
  · subst k1; exact act_1 h n ix tm l A c ha hn1 hn2
  by_cases k2 : kd = 2
  · subst k2; exact act_2 h n ix tm l A c ha hn1 hn2
  by_cases k3 : kd = 3
  · subst k3; exact act_3 h n ix tm l A c ha hn1 hn2
  by_cases k4 : kd = 4
  · subst k4; exact act_4 h n ix tm l A c ha hn1 hn2
  by_cases k5 : kd = 5
  · subst k5; exact act_5 h n ix tm l A c ha hn1 hn2
  by_cases k6 : kd = 6
  · subst k6; exact act_6 h n ix tm l A c ha hn1 hn2
  exact act_else h n ix tm l A c ha hn1 hn2 k1 k2 k3 k4 k5 k6
end Go.Proofs.YtdbaajgkcjpnoaaGreat.Rg
