/- The law's act, by kinds, as a contract of a call. Written by genrgt.py. | The law's act, by kinds, as a contract of a call. Written by genrgt.py. | The law's act, by kinds, as a contract of a call. Written by genrgt.py. -/
import Derived.Test.YtdbaajgkcjpnoaaGreatRgT
/-! The law's act, by kinds, as a contract of a call. Written by genrgt.py. -/
namespace Go.Proofs.YtdbaajgkcjpnoaaGreat.Rg
open Go.RowKit By CoP Co Mo Kd

set_option maxRecDepth 100000 in
set_option maxHeartbeats 3200000 in
theorem act_3 {B p q : Nat} {s1 s2 : Lg} {F : Nat → Prop} {w : World} (h : TwoAt B w p q s1 s2 F) (n : Int) (ix tm : Nat) (l : List En) (A : Option Addr) (c : Nat) (ha : A11At B w ⟨3, n, ix, tm, l⟩ A c) (hn1 : s1.es.length + l.length ≤ 1073741823) (hn2 : s2.es.length + l.length ≤ 1073741823) :
    Calls Tryz.prog 12 #[ptr p, ptr q, .agg #[.int .i64 3, .int .i64 n, .int .u64 (ix : Int), .int .u64 (tm : Int), .slice A l.length c]] w (ActPost B p q s1 s2 ⟨3, n, ix, tm, l⟩ F w) := by
  have htwo := h
  obtain ⟨v, S, u, T, h1, h2, h3, h4, h5, h6⟩ := h
  obtain ⟨w1, e1⟩ : ∃ w1, w1 = w.alloc (.cells #[.int .i64 3, .int .i64 n, .int .u64 (ix : Int), .int .u64 (tm : Int), .slice A l.length c] tAct) := ⟨_, rfl⟩
  have hb1 : Below w.heap.size w w1 := by rw [e1]; exact (Below.refl _ _).alloc (Nat.le_refl _) _
  have hr1 : w1.heap[w.heap.size]? = some (.cells #[.int .i64 3, .int .i64 n, .int .u64 (ix : Int), .int .u64 (tm : Int), .slice A l.length c] tAct (0, 0)) := by rw [e1]; exact heap_alloc_new _ _
  have hz1 : w1.heap.size = w.heap.size + 1 := by rw [e1, World.size_alloc]
  have HBOX := Lib.hid (show ∀ W : World, W.heap[w.heap.size]? = w1.heap[w.heap.size]? → W.cell? ⟨w.heap.size, 0, none⟩ = some (.int .i64 3) ∧ W.cell? ⟨w.heap.size, 1, none⟩ = some (.int .i64 n) ∧ W.cell? ⟨w.heap.size, 2, none⟩ = some (.int .u64 (ix : Int)) ∧ W.cell? ⟨w.heap.size, 3, none⟩ = some (.int .u64 (tm : Int)) ∧ W.cell? ⟨w.heap.size, 4, none⟩ = some (.slice A l.length c) from fun W hW => by
    have h := hW.trans hr1
    exact ⟨by rw [cell_of_row W _ 0 _ _ _ h]; rfl, by rw [cell_of_row W _ 1 _ _ _ h]; rfl, by rw [cell_of_row W _ 2 _ _ _ h]; rfl, by rw [cell_of_row W _ 3 _ _ _ h]; rfl, by rw [cell_of_row W _ 4 _ _ _ h]; rfl⟩)
  have HB1 := Lib.hid hb1
  have HZ1 := Lib.hid hz1
  have HLT1 := Lib.hid (row_lt hr1)
  obtain ⟨b0, b1, b2, b3, b4⟩ := HBOX.out w1 rfl
  have HTWO := Lib.hid htwo
  have H1 := Lib.hid h1
  have H2 := Lib.hid h2
  have H3 := Lib.hid h3
  have H4 := Lib.hid h4
  have H5 := Lib.hid h5
  have H6 := Lib.hid h6
  have HA := Lib.hid ha
  have HN1 := Lib.hid hn1
  have HN2 := Lib.hid hn2
  have HC1 := Lib.hid (fun W (hW : Below w.heap.size w W) => from_any W (h1.below hW) ix n (by omega))
  have HC2 := Lib.hid (fun W (hW : Below w.heap.size w W) => rfrom_any W (h2.below hW) ix n (by omega))
  have HEQ := Lib.hid (show s1 = s2 → fromR s1 ix n = fromR s2 ix n from fun e => by rw [e])
  have HLA := Lib.hid (show (fromR s1 ix n).1.length ≤ 1073741823 by
    unfold fromR
    repeat' split
    all_goals first | (simp; done) | (simp only [List.length_take, List.length_drop]; omega))
  have HLB := Lib.hid (show (fromR s2 ix n).1.length ≤ 1073741823 by
    unfold fromR
    repeat' split
    all_goals first | (simp; done) | (simp only [List.length_take, List.length_drop]; omega))
  have HLOW := Lib.hid htwo.low
  generalize fromR s1 ix n = r at HC1 HEQ HLA
  generalize fromR s2 ix n = r' at HC2 HEQ HLB
  obtain ⟨r1, r2⟩ := r
  obtain ⟨q1, q2⟩ := r'
  dsimp only at HC1 HC2 HLA HLB
  clear hb1 hr1 hz1 htwo h1 h2 h3 h4 h5 h6 ha hn1 hn2
  go_enter Tryz.func12, Tryz.ntmps12
  go_upto_region 1 with fail
  rw [← e1]
  clear e1
  go_upto_region 11 with (first
    | (go_at_call 25; refine (HC1.out _ HB1.out).mono ?_; rintro e w2 ⟨v2, rows2, rfl, ho2, hi2, hb⟩; obtain ⟨A2, c2, rfl⟩ := ownsRow_form ho2; have HO2 := Lib.hid ho2; have HI2 := Lib.hid hi2; have HB2 := Lib.hid (By.ext HB1.out hb); obtain ⟨d0, d1, d2, d3, d4⟩ := HBOX.out w2 (hb.block _ HLT1.out); clear hb ho2 hi2)
    | (go_at_call 30; refine (HC2.out _ HB2.out).mono ?_; rintro e w3 ⟨v3, rows3, rfl, ho3, hh3, hb⟩; obtain ⟨A3, c3, rfl⟩ := ownsRow_form ho3; have HO3 := Lib.hid ho3; have HH3 := Lib.hid hh3; have HB3' := Lib.hid hb; have HB3 := Lib.hid (By.ext HB2.out hb); clear hb ho3 hh3))
  have R2 : (listK entryK 8).rep w3 (Old w3) [.slice A2 r1.length c2] (.agg (r1.map eD)) := entsK_ok_below ((listK_ok entryK_ok 8).keep (HI2.out.rep entryK_ok (by rw [List.length_map]; exact HO2.out) (by rw [List.length_map]; have := HLA.out; omega) 8) (fun _ _ => rfl) (fun b hb => hb.1.2)) HB3'.out
  have R3 : (listK entryK 8).rep w3 (Old w3) [.slice A3 q1.length c3] (.agg (q1.map eD)) := holds_rep HO3.out HH3.out (fun b hb => by have := HLOW.out; have := HB3.out.size; omega) (by have := HLB.out; omega) 8
  have HC := Lib.hid (sameEntries_any A2 A3 _ c2 _ c3 _ _ w3 R2 R3)
  have HSE := Lib.hid (show s1 = s2 → sameEs (r1.map eD) (q1.map eD) = true ∧ r2 = q2 from fun e => by
    have := HEQ.out e
    injection this with t1 t2
    exact ⟨by rw [t1]; exact eD_refl _, t2⟩)
  generalize sameEs (r1.map eD) (q1.map eD) = bs at HC HSE
  clear R2 R3
  cases bs with
  | false =>
    go_wp2_with (go_at_call 31; refine HC.out.mono ?_; rintro e w4 ⟨rfl, hb⟩; have HB4 := Lib.hid (By.ext HB3.out hb); clear hb)
    go_ret
    exact ⟨false, rfl, fun e => absurd (HSE.out e).1 (by decide), BStep.same HTWO.out HB4.out⟩
  | true =>
    by_cases g2 : r2 = q2
    · subst g2
      go_wp2_with (go_at_call 31; refine HC.out.mono ?_; rintro e w4 ⟨rfl, hb⟩; have HB4 := Lib.hid (By.ext HB3.out hb); clear hb)
      go_ret
      exact ⟨true, rfl, fun _ => rfl, BStep.same HTWO.out HB4.out⟩
    · have g2b : (r2 == q2) = false := beq_eq_false_iff_ne.2 g2
      go_wp2_with (go_at_call 31; refine HC.out.mono ?_; rintro e w4 ⟨rfl, hb⟩; have HB4 := Lib.hid (By.ext HB3.out hb); clear hb)
      go_ret
      exact ⟨false, rfl, fun e => absurd (HSE.out e).2 g2, BStep.same HTWO.out HB4.out⟩
end Go.Proofs.YtdbaajgkcjpnoaaGreat.Rg

/-! The law's act, by kinds, as a contract of a call. Written by genrgt.py. -/
namespace Go.Proofs.YtdbaajgkcjpnoaaGreat.Rg
open Go.RowKit By CoP Co Mo Kd

set_option maxRecDepth 100000 in
set_option maxHeartbeats 3200000 in
theorem act_1 {B p q : Nat} {s1 s2 : Lg} {F : Nat → Prop} {w : World} (h : TwoAt B w p q s1 s2 F) (n : Int) (ix tm : Nat) (l : List En) (A : Option Addr) (c : Nat) (ha : A11At B w ⟨1, n, ix, tm, l⟩ A c) (hn1 : s1.es.length + l.length ≤ 1073741823) (hn2 : s2.es.length + l.length ≤ 1073741823) :
    Calls Tryz.prog 12 #[ptr p, ptr q, .agg #[.int .i64 1, .int .i64 n, .int .u64 (ix : Int), .int .u64 (tm : Int), .slice A l.length c]] w (ActPost B p q s1 s2 ⟨1, n, ix, tm, l⟩ F w) := by
  have htwo := h
  obtain ⟨v, S, u, T, h1, h2, h3, h4, h5, h6⟩ := h
  obtain ⟨w1, e1⟩ : ∃ w1, w1 = w.alloc (.cells #[.int .i64 1, .int .i64 n, .int .u64 (ix : Int), .int .u64 (tm : Int), .slice A l.length c] tAct) := ⟨_, rfl⟩
  have hb1 : Below w.heap.size w w1 := by rw [e1]; exact (Below.refl _ _).alloc (Nat.le_refl _) _
  have hr1 : w1.heap[w.heap.size]? = some (.cells #[.int .i64 1, .int .i64 n, .int .u64 (ix : Int), .int .u64 (tm : Int), .slice A l.length c] tAct (0, 0)) := by rw [e1]; exact heap_alloc_new _ _
  have hz1 : w1.heap.size = w.heap.size + 1 := by rw [e1, World.size_alloc]
  have HBOX := Lib.hid (show ∀ W : World, W.heap[w.heap.size]? = w1.heap[w.heap.size]? → W.cell? ⟨w.heap.size, 0, none⟩ = some (.int .i64 1) ∧ W.cell? ⟨w.heap.size, 1, none⟩ = some (.int .i64 n) ∧ W.cell? ⟨w.heap.size, 2, none⟩ = some (.int .u64 (ix : Int)) ∧ W.cell? ⟨w.heap.size, 3, none⟩ = some (.int .u64 (tm : Int)) ∧ W.cell? ⟨w.heap.size, 4, none⟩ = some (.slice A l.length c) from fun W hW => by
    have h := hW.trans hr1
    exact ⟨by rw [cell_of_row W _ 0 _ _ _ h]; rfl, by rw [cell_of_row W _ 1 _ _ _ h]; rfl, by rw [cell_of_row W _ 2 _ _ _ h]; rfl, by rw [cell_of_row W _ 3 _ _ _ h]; rfl, by rw [cell_of_row W _ 4 _ _ _ h]; rfl⟩)
  have HB1 := Lib.hid hb1
  have HZ1 := Lib.hid hz1
  have HLT1 := Lib.hid (row_lt hr1)
  obtain ⟨b0, b1, b2, b3, b4⟩ := HBOX.out w1 rfl
  have HTWO := Lib.hid htwo
  have H1 := Lib.hid h1
  have H2 := Lib.hid h2
  have H3 := Lib.hid h3
  have H4 := Lib.hid h4
  have H5 := Lib.hid h5
  have H6 := Lib.hid h6
  have HA := Lib.hid ha
  have HN1 := Lib.hid hn1
  have HN2 := Lib.hid hn2
  have HCO := Lib.hid (fun W (hW : Below w.heap.size w W) => ownEntries_any (most := 8) W ((listK_ok entryK_ok 8).keep ha.rep (fun b hb => hW.block b (by have := htwo.low; omega)) (fun b hb => by have := htwo.low; have := hW.size; show b < W.heap.size; omega)) ha.few)
  have HC2 := Lib.hid (fun W (hW : RefIs W q s2 u T (fun b => b < B)) (hr : (listK entryK 8).rep W (fun b => b < B) [.slice A l.length c] (.agg (l.map eD))) => rappend_any W hW ix tm ha.ix hr hn2)
  have HEQ := Lib.hid (show s1 = s2 → appA s1 ix tm l = appA s2 ix tm l from fun e => by rw [e])
  show Calls _ _ _ w (ActP B p q s1 s2 (appS s1 ix tm l) (appS s2 ix tm l) F w)
  have HREPB := Lib.hid (fun (W : World) (hW : ∀ b, b < B → W.heap[b]? = w.heap[b]?) => (listK_ok entryK_ok 8).keep ha.rep hW (fun b hb => hb))
  have HAPP := Lib.hid (fun (W : World) (R : Nat → Prop) A2 n2 c2 (hW : Below w.heap.size w W) (hr : (listK entryK 8).rep W R [.slice A2 n2 c2] (.agg (l.map eD))) hR => append_any W (h1.below hW) ix tm ha.ix hr hR hn1)
  have HSF := Lib.hid (show ∀ b, S b → B ≤ b ∧ b < w.heap.size from fun b hb => h6 b (h3 b hb))
  unfold LApp at HAPP
  unfold RApp at HC2
  unfold appV at HAPP HC2
  generalize appA s1 ix tm l = r at HAPP HEQ
  generalize appA s2 ix tm l = r' at HC2 HEQ
  obtain ⟨r1, r2, r3⟩ := r
  obtain ⟨q1, q2, q3⟩ := r'
  dsimp only at HAPP HC2
  clear hb1 hr1 hz1 htwo h1 h2 h3 h4 h5 h6 ha hn1 hn2
  go_enter Tryz.func12, Tryz.ntmps12
  go_upto_region 1 with fail
  rw [← e1]
  clear e1
  go_upto_region 3 with fail
  have HBd := Lib.hid HB1.out.drew
  have HT1 := Lib.hid trivial
  clear b0 b1 b2 b3 b4
  go_region_held3 (fun w' => w'.cell? ⟨w.heap.size, 0, none⟩ = some (.int .i64 1) ∧ w'.cell? ⟨w.heap.size, 1, none⟩ = some (.int .i64 n) ∧ w'.cell? ⟨w.heap.size, 2, none⟩ = some (.int .u64 (ix : Int)) ∧ w'.cell? ⟨w.heap.size, 3, none⟩ = some (.int .u64 (tm : Int)) ∧ w'.cell? ⟨w.heap.size, 4, none⟩ = some (.slice A l.length c))
    (first
      | with_reducible assumption
      | exact HBOX.out _ rfl
      | exact HBOX.out _ HBX2.out
      | exact HBOX.out _ HBX3.out)
    (first
      | (go_at_call 18; clear HT1; refine (HCO.out _ HBd.out).mono ?_; rintro e w2 ⟨v2, rfl, hr2, hb⟩
         obtain ⟨A2, c2, ds2, e21, e22, hc2, hl2, hx2⟩ := id hr2
         simp only [List.cons.injEq, and_true] at e21
         subst e21
         have HR2 := Lib.hid hr2
         have HBX2 := Lib.hid (show w2.heap[w.heap.size]? = w1.heap[w.heap.size]? from hb.block _ HLT1.out)
         have HB2 := Lib.hid (By.ext HBd.out hb)
         clear hb hr2 e22 hc2 hl2 hx2)
      | (go_at_call 17; refine (HAPP.out _ _ _ _ _ HB2.out HR2.out (fun b hb => ⟨hb.2, fun hs => by have h1 := (HSF.out b hs).2; have h2 : w1.heap.size ≤ b := hb.1; have := HZ1.out; omega⟩)).mono ?_; rintro e w3 ⟨rfl, hst⟩
         have HST := Lib.hid hst
         obtain ⟨v3, S3, hl3, hs3, hk3⟩ := hst
         have HBX3 := Lib.hid ((hk3.block w.heap.size (row_lt_of HBX2.out HLT1.out) (fun hs => by have := (HSF.out _ hs).2; omega)).trans HBX2.out)
         have HRF := Lib.hid (ref_after H2.out (fun b hs => (HSF.out b hs).1) H5.out HB2.out hk3)
         have HRB := Lib.hid (HREPB.out w3 (fun b hb => (hk3.block b (by have := HB2.out.size; have := HTWO.out.low; omega) (fun hs => by have := (HSF.out _ hs).1; omega)).trans (HB2.out.block b (by have := HTWO.out.low; omega))))
         clear hl3 hs3 hk3))
  obtain ⟨d0, d1, d2, d3, d4⟩ := HBOX.out w3 HBX3.out
  have HCR := Lib.hid (HC2.out w3 HRF.out HRB.out)
  by_cases g1 : r1 = q1
  · by_cases g2 : r2 = q2
    · by_cases g3 : r3 = q3
      · subst g1 g2 g3
        go_wp2_with (go_at_call 27; refine HCR.out.mono ?_; rintro e w4 ⟨rfl, hrs⟩; have HRS := Lib.hid hrs; clear hrs)
        go_ret
        exact ⟨true, rfl, fun _ => rfl, two_step H1.out H2.out H3.out H4.out H5.out H6.out HB2.out HST.out (Below.refl _ _) HRS.out (Below.refl _ _)⟩
      · have g3b : (r3 == q3) = false := beq_eq_false_iff_ne.2 g3
        subst g1 g2
        go_wp2_with (go_at_call 27; refine HCR.out.mono ?_; rintro e w4 ⟨rfl, hrs⟩; have HRS := Lib.hid hrs; clear hrs)
        go_ret
        exact ⟨false, rfl, fun e => absurd (Prod.mk.inj (Prod.mk.inj (HEQ.out e)).2).2 g3, two_step H1.out H2.out H3.out H4.out H5.out H6.out HB2.out HST.out (Below.refl _ _) HRS.out (Below.refl _ _)⟩
    · have g2b : ((r2 : Int) == (q2 : Int)) = false := beq_eq_false_iff_ne.2 (by omega)
      have g2c : ((r2 : Int) = (q2 : Int)) = False := by simp; omega
      subst g1
      go_wp2_with (go_at_call 27; refine HCR.out.mono ?_; rintro e w4 ⟨rfl, hrs⟩; have HRS := Lib.hid hrs; clear hrs)
      go_ret
      exact ⟨false, rfl, fun e => absurd (Prod.mk.inj (Prod.mk.inj (HEQ.out e)).2).1 g2, two_step H1.out H2.out H3.out H4.out H5.out H6.out HB2.out HST.out (Below.refl _ _) HRS.out (Below.refl _ _)⟩
  · have g1b : ((r1 : Int) == (q1 : Int)) = false := beq_eq_false_iff_ne.2 (by omega)
    have g1c : ((r1 : Int) = (q1 : Int)) = False := by simp; omega
    go_wp2_with (go_at_call 27; refine HCR.out.mono ?_; rintro e w4 ⟨rfl, hrs⟩; have HRS := Lib.hid hrs; clear hrs)
    go_ret
    exact ⟨false, rfl, fun e => absurd (Prod.mk.inj (HEQ.out e)).1 g1, two_step H1.out H2.out H3.out H4.out H5.out H6.out HB2.out HST.out (Below.refl _ _) HRS.out (Below.refl _ _)⟩
end Go.Proofs.YtdbaajgkcjpnoaaGreat.Rg

/-! The law's act, by kinds, as a contract of a call. Written by genrgt.py. -/
namespace Go.Proofs.YtdbaajgkcjpnoaaGreat.Rg
open Go.RowKit By CoP Co Mo Kd

set_option maxRecDepth 100000 in
set_option maxHeartbeats 3200000 in
theorem act_2 {B p q : Nat} {s1 s2 : Lg} {F : Nat → Prop} {w : World} (h : TwoAt B w p q s1 s2 F) (n : Int) (ix tm : Nat) (l : List En) (A : Option Addr) (c : Nat) (ha : A11At B w ⟨2, n, ix, tm, l⟩ A c) (hn1 : s1.es.length + l.length ≤ 1073741823) (hn2 : s2.es.length + l.length ≤ 1073741823) :
    Calls Tryz.prog 12 #[ptr p, ptr q, .agg #[.int .i64 2, .int .i64 n, .int .u64 (ix : Int), .int .u64 (tm : Int), .slice A l.length c]] w (ActPost B p q s1 s2 ⟨2, n, ix, tm, l⟩ F w) := by
  have htwo := h
  obtain ⟨v, S, u, T, h1, h2, h3, h4, h5, h6⟩ := h
  obtain ⟨w1, e1⟩ : ∃ w1, w1 = w.alloc (.cells #[.int .i64 2, .int .i64 n, .int .u64 (ix : Int), .int .u64 (tm : Int), .slice A l.length c] tAct) := ⟨_, rfl⟩
  have hb1 : Below w.heap.size w w1 := by rw [e1]; exact (Below.refl _ _).alloc (Nat.le_refl _) _
  have hr1 : w1.heap[w.heap.size]? = some (.cells #[.int .i64 2, .int .i64 n, .int .u64 (ix : Int), .int .u64 (tm : Int), .slice A l.length c] tAct (0, 0)) := by rw [e1]; exact heap_alloc_new _ _
  have hz1 : w1.heap.size = w.heap.size + 1 := by rw [e1, World.size_alloc]
  have HBOX := Lib.hid (show ∀ W : World, W.heap[w.heap.size]? = w1.heap[w.heap.size]? → W.cell? ⟨w.heap.size, 0, none⟩ = some (.int .i64 2) ∧ W.cell? ⟨w.heap.size, 1, none⟩ = some (.int .i64 n) ∧ W.cell? ⟨w.heap.size, 2, none⟩ = some (.int .u64 (ix : Int)) ∧ W.cell? ⟨w.heap.size, 3, none⟩ = some (.int .u64 (tm : Int)) ∧ W.cell? ⟨w.heap.size, 4, none⟩ = some (.slice A l.length c) from fun W hW => by
    have h := hW.trans hr1
    exact ⟨by rw [cell_of_row W _ 0 _ _ _ h]; rfl, by rw [cell_of_row W _ 1 _ _ _ h]; rfl, by rw [cell_of_row W _ 2 _ _ _ h]; rfl, by rw [cell_of_row W _ 3 _ _ _ h]; rfl, by rw [cell_of_row W _ 4 _ _ _ h]; rfl⟩)
  have HB1 := Lib.hid hb1
  have HZ1 := Lib.hid hz1
  have HLT1 := Lib.hid (row_lt hr1)
  obtain ⟨b0, b1, b2, b3, b4⟩ := HBOX.out w1 rfl
  have HTWO := Lib.hid htwo
  have H1 := Lib.hid h1
  have H2 := Lib.hid h2
  have H3 := Lib.hid h3
  have H4 := Lib.hid h4
  have H5 := Lib.hid h5
  have H6 := Lib.hid h6
  have HA := Lib.hid ha
  have HN1 := Lib.hid hn1
  have HN2 := Lib.hid hn2
  have HEQ := Lib.hid (show s1 = s2 → (termR s1 ix).2 = (termR s2 ix).2 from fun e => by rw [e])
  show Calls _ _ _ w (ActP B p q s1 s2 (shrS s1 ix) (shrS s2 ix) F w)
  have HLS := Lib.hid (fun W (hW : LogIs W p s1 v S) => shrink_any W hW ix)
  have HRS := Lib.hid (fun W (hW : RefIs W q s2 u T (fun b => b < B)) => rshrink_any W hW ix (by omega))
  have HSF := Lib.hid (show ∀ b, S b → B ≤ b ∧ b < w.heap.size from fun b hb => h6 b (h3 b hb))
  have HTF := Lib.hid (show ∀ b, T b → B ≤ b ∧ b < w.heap.size from fun b hb => h6 b (h4 b hb))
  generalize (termR s1 ix).2 = r1 at HLS HEQ
  generalize (termR s2 ix).2 = r2 at HRS HEQ
  clear hb1 hr1 hz1 htwo h1 h2 h3 h4 h5 h6 ha hn1 hn2
  go_enter Tryz.func12, Tryz.ntmps12
  go_upto_region 1 with fail
  rw [← e1]
  clear e1
  go_upto_region 7 with fail
  have HBd := Lib.hid HB1.out.drew
  have HT1 := Lib.hid trivial
  clear b0 b1 b2 b3 b4
  go_region_held3 (fun w' => w'.cell? ⟨w.heap.size, 0, none⟩ = some (.int .i64 2) ∧ w'.cell? ⟨w.heap.size, 1, none⟩ = some (.int .i64 n) ∧ w'.cell? ⟨w.heap.size, 2, none⟩ = some (.int .u64 (ix : Int)) ∧ w'.cell? ⟨w.heap.size, 3, none⟩ = some (.int .u64 (tm : Int)) ∧ w'.cell? ⟨w.heap.size, 4, none⟩ = some (.slice A l.length c))
    (first
      | with_reducible assumption
      | exact HBOX.out _ rfl
      | exact HBOX.out _ HBX2.out
      | exact HBOX.out _ HBX3.out)
    (first
      | (go_at_call 26; clear HT1; refine (HLS.out _ (H1.out.below HBd.out)).mono ?_; rintro e w2 ⟨rfl, hst⟩
         have HL2 := Lib.hid hst
         obtain ⟨v3, S3, hl3, hs3, hk3⟩ := hst
         have HBX2 := Lib.hid (show w2.heap[w.heap.size]? = w1.heap[w.heap.size]? from hk3.block w.heap.size HLT1.out (fun hs => by have := (HSF.out _ hs).2; omega))
         have HRF := Lib.hid (ref_after H2.out (fun b hs => (HSF.out b hs).1) H5.out HBd.out hk3)
         clear hl3 hs3 hk3)
      | (go_at_call 29; refine (HRS.out _ HRF.out).mono ?_; rintro e w3 ⟨rfl, hst⟩
         have HR3 := Lib.hid hst
         obtain ⟨v3, S3, hl3, hs3, hk3⟩ := hst
         have HBX3 := Lib.hid ((hk3.block w.heap.size (row_lt_of HBX2.out HLT1.out) (fun hs => by have := (HTF.out _ hs).2; omega)).trans HBX2.out)
         clear hl3 hs3 hk3)
      | (go_at_call 29; clear HT1; refine (HRS.out _ (H2.out.below HBd.out)).mono ?_; rintro e w2 ⟨rfl, hst⟩
         have HR2 := Lib.hid hst
         obtain ⟨v3, S3, hl3, hs3, hk3⟩ := hst
         have HBX2 := Lib.hid (show w2.heap[w.heap.size]? = w1.heap[w.heap.size]? from hk3.block w.heap.size HLT1.out (fun hs => by have := (HTF.out _ hs).2; omega))
         have HLF := Lib.hid (log_after H1.out H5.out HBd.out hk3)
         clear hl3 hs3 hk3)
      | (go_at_call 26; refine (HLS.out _ HLF.out).mono ?_; rintro e w3 ⟨rfl, hst⟩
         have HL3 := Lib.hid hst
         obtain ⟨v3, S3, hl3, hs3, hk3⟩ := hst
         have HBX3 := Lib.hid ((hk3.block w.heap.size (row_lt_of HBX2.out HLT1.out) (fun hs => by have := (HSF.out _ hs).2; omega)).trans HBX2.out)
         clear hl3 hs3 hk3))
  all_goals
    have HFIN := Lib.hid (show BStep B p q (shrS s1 ix) (shrS s2 ix) F w w3 by
      first
        | exact two_step H1.out H2.out H3.out H4.out H5.out H6.out HBd.out HL2.out (Below.refl _ _) HR3.out (Below.refl _ _)
        | exact two_step2 H1.out H2.out H3.out H4.out H5.out H6.out HBd.out HR2.out (Below.refl _ _) HL3.out (Below.refl _ _))
    by_cases g2 : r1 = r2
    · subst g2
      go_wp2
      go_ret
      exact ⟨true, by simp, fun _ => rfl, HFIN.out⟩
    · have g2b : (r1 == r2) = false := beq_eq_false_iff_ne.2 g2
      go_wp2
      go_ret
      exact ⟨false, by simp [g2], fun e => absurd (HEQ.out e) g2, HFIN.out⟩
end Go.Proofs.YtdbaajgkcjpnoaaGreat.Rg
