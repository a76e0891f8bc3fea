/- The law's act, by kinds, as a contract of a call. Written by genrgt.py. -/
import Derived.Test.YtdbaajgkcjpnoaaGreatQf
namespace Go.Proofs.YtdbaajgkcjpnoaaGreat.Rg
open Go.RowKit By CoP Co Mo Kd

abbrev tAct : TypeId := 31
/-- A call. -/
structure A11 where
  kd : Int
  n : Int
  ix : Nat
  tm : Nat
  l : List En
def actL (s : Lg) (a : A11) : Lg := if a.kd = 1 then appS s a.ix a.tm a.l else if a.kd = 2 then shrS s a.ix else s
def a11V (a : A11) (A : Option Addr) (c : Nat) : Array Value := #[.int .i64 a.kd, .int .i64 a.n, .int .u64 (a.ix : Int), .int .u64 (a.tm : Int), .slice A a.l.length c]
/-- A call's values. -/
structure A11At (B : Nat) (w : World) (a : A11) (A : Option Addr) (c : Nat) : Prop where
  ix : a.ix < 18446744073709551616
  tm : a.tm < 18446744073709551616
  few : a.l.length ≤ 9437184
  rep : (listK entryK 8).rep w (fun b => b < B) [.slice A a.l.length c] (.agg (a.l.map eD))
/-- What a call on both comes to. -/
def ActPost (B p q : Nat) (s1 s2 : Lg) (a : A11) (F : Nat → Prop) (w : World) (e : Ending) (w' : World) : Prop := ∃ bb, e = .returned (.bool bb) ∧ (s1 = s2 → bb = true) ∧ BStep B p q (actL s1 a) (actL s2 a) F w w'
theorem ref_after {B q : Nat} {s2 : Lg} {u : Value} {S T : Nat → Prop} {w wa wb : World} (h2 : RefIs w q s2 u T (fun b => b < B)) (hS : ∀ b, S b → B ≤ b) (h5 : ∀ b, S b → ¬ T b) (hba : Below w.heap.size w wa) (hk : Kept S wa wb) : RefIs wb q s2 u T (fun b => b < B) := by
  have hz := hba.size
  refine h2.keep (Nat.le_trans hz hk.size) (fun b e => ?_)
  have hlt : b < w.heap.size := by
    rcases e with e | e
    · exact h2.lt b e
    · exact (h2.dat b e).1
  refine (hk.block b (by omega) (fun hs => ?_)).trans (hba.block b hlt)
  rcases e with e | e
  · exact h5 b hs e
  · have := hS b hs; omega
theorem log_after {p : Nat} {s1 : Lg} {v : Value} {S T : Nat → Prop} {w wa wb : World} (h1 : LogIs w p s1 v S) (h5 : ∀ b, S b → ¬ T b) (hba : Below w.heap.size w wa) (hk : Kept T wa wb) : LogIs wb p s1 v S := by
  have hz := hba.size
  exact h1.keep (Nat.le_trans hz hk.size) (fun b e => (hk.block b (by have := h1.lt b e; omega) (h5 b e)).trans (hba.block b (h1.lt b e)))
/-- The log first, then the reference's. -/
theorem two_step {B p q : Nat} {s1 s2 s1' s2' : Lg} {v u : Value} {S T F : Nat → Prop} {w wa wb wc wd we : World} (h1 : LogIs w p s1 v S) (_h2 : RefIs w q s2 u T (fun b => b < B)) (h3 : ∀ b, S b → F b) (h4 : ∀ b, T b → F b) (h5 : ∀ b, S b → ¬ T b) (h6 : ∀ b, F b → B ≤ b ∧ b < w.heap.size)
    (hba : Below w.heap.size w wa) (hl : LStep p s1' S wa wb) (hbb : Below wb.heap.size wb wc) (hr : RStep q s2' T (fun b => b < B) wc wd) (hbd : Below wd.heap.size wd we) : BStep B p q s1' s2' F w we := by
  obtain ⟨v', S', a1, a2, a3⟩ := hl
  obtain ⟨u', T', b1, b2, b3⟩ := hr
  have z1 := hba.size
  have z2 := a3.size
  have z3 := hbb.size
  have z4 := b3.size
  have z5 := hbd.size
  have hB : B ≤ w.heap.size := by have := h6 p (h3 p h1.ing); omega
  have hST : ∀ b, S' b → ¬ T b := fun b e hT => by
    rcases a2 b e with e | e
    · exact h5 b e hT
    · have := (h6 b (h4 b hT)).2; omega
  have hST2 : ∀ b, S' b → ¬ T' b := fun b e hT => by
    rcases b2 b hT with hT | hT
    · exact hST b e hT
    · have := a1.lt b e; omega
  have hl2 : LogIs wd p s1' v' S' := log_after a1 hST hbb b3
  refine ⟨fun b => S' b ∨ T' b, ⟨v', S', u', T', hl2.below hbd, b1.below hbd, fun b e => .inl e, fun b e => .inr e, hST2, fun b e => ?_⟩, fun b e => ?_, ?_⟩
  · rcases e with e | e
    · refine ⟨?_, (hl2.below hbd).lt b e⟩
      rcases a2 b e with e | e
      · exact (h6 b (h3 b e)).1
      · omega
    · refine ⟨?_, (b1.below hbd).lt b e⟩
      rcases b2 b e with e | e
      · exact (h6 b (h4 b e)).1
      · omega
  · rcases e with e | e
    · rcases a2 b e with e | e
      · exact .inl (h3 b e)
      · exact .inr (by omega)
    · rcases b2 b e with e | e
      · exact .inl (h4 b e)
      · exact .inr (by omega)
  · refine ((((Kept.of_below (M := F) hba).step a3 (fun b _ e => h3 b e)).step (Kept.of_below (M := F) hbb) (fun b _ e => e)).step b3 (fun b _ e => h4 b e)).step (Kept.of_below (M := F) hbd) (fun b _ e => e)
/-- The reference's first, then the log. -/
theorem two_step2 {B p q : Nat} {s1 s2 s1' s2' : Lg} {v u : Value} {S T F : Nat → Prop} {w wa wb wc wd we : World} (h1 : LogIs w p s1 v S) (_h2 : RefIs w q s2 u T (fun b => b < B)) (h3 : ∀ b, S b → F b) (h4 : ∀ b, T b → F b) (h5 : ∀ b, S b → ¬ T b) (h6 : ∀ b, F b → B ≤ b ∧ b < w.heap.size)
    (hba : Below w.heap.size w wa) (hr : RStep q s2' T (fun b => b < B) wa wb) (hbb : Below wb.heap.size wb wc) (hl : LStep p s1' S wc wd) (hbd : Below wd.heap.size wd we) : BStep B p q s1' s2' F w we := by
  obtain ⟨v', S', a1, a2, a3⟩ := hl
  obtain ⟨u', T', b1, b2, b3⟩ := hr
  have z1 := hba.size
  have z2 := b3.size
  have z3 := hbb.size
  have z4 := a3.size
  have z5 := hbd.size
  have hB : B ≤ w.heap.size := by have := h6 p (h3 p h1.ing); omega
  have hTS : ∀ b, T' b → ¬ S b := fun b e hS => by
    rcases b2 b e with e | e
    · exact h5 b hS e
    · have := (h6 b (h3 b hS)).2; omega
  have hST2 : ∀ b, S' b → ¬ T' b := fun b e hT => by
    rcases a2 b e with e | e
    · exact hTS b hT e
    · have := b1.lt b hT; omega
  have hr2 : RefIs wd q s2' u' T' (fun b => b < B) := ref_after b1 (fun b e => (h6 b (h3 b e)).1) (fun b e hT => hTS b hT e) hbb a3
  refine ⟨fun b => S' b ∨ T' b, ⟨v', S', u', T', a1.below hbd, hr2.below hbd, fun b e => .inl e, fun b e => .inr e, hST2, fun b e => ?_⟩, fun b e => ?_, ?_⟩
  · rcases e with e | e
    · refine ⟨?_, (a1.below hbd).lt b e⟩
      rcases a2 b e with e | e
      · exact (h6 b (h3 b e)).1
      · omega
    · refine ⟨?_, (hr2.below hbd).lt b e⟩
      rcases b2 b e with e | e
      · exact (h6 b (h4 b e)).1
      · omega
  · rcases e with e | e
    · rcases a2 b e with e | e
      · exact .inl (h3 b e)
      · exact .inr (by omega)
    · rcases b2 b e with e | e
      · exact .inl (h4 b e)
      · exact .inr (by omega)
  · refine ((((Kept.of_below (M := F) hba).step b3 (fun b _ e => h4 b e)).step (Kept.of_below (M := F) hbb) (fun b _ e => e)).step a3 (fun b _ e => h3 b e)).step (Kept.of_below (M := F) hbd) (fun b _ e => e)
theorem holds_rep {w : World} {base : Nat} {D : Nat → Prop} {v : Value} {rows : List Value} {l : List En} (ho : w.ownsRow base tApi 5 v l.length rows) (hh : Holds w D rows l) (hD : ∀ b, D b → b < w.heap.size) (hm : l.length ≤ 140737488355328) (most : Int) : (listK entryK most).rep w (Old w) [v] (.agg (l.map eD)) := by
  obtain ⟨A, c, rfl, hc, _, hn⟩ := owns_form ho
  refine rep_of hc hm (fun hp => ?_)
  obtain ⟨b, rfl, hb, _, h4, h5⟩ := hn hp
  refine ⟨b, 0, rfl, h4, fun j e he => ?_⟩
  obtain ⟨Ad, cd, h6, h7⟩ := hh j e he
  refine ⟨Ad, cd, ⟨?_, ?_, ?_, ?_, ?_⟩, h6.keep (fun _ _ => rfl) hD⟩
  · rw [Nat.zero_add]; exact h5 _ _ (h7 0 _ rfl)
  · rw [Nat.zero_add]; exact h5 _ _ (h7 1 _ rfl)
  · rw [Nat.zero_add]; exact h5 _ _ (h7 2 _ rfl)
  · rw [Nat.zero_add]; exact h5 _ _ (h7 3 _ rfl)
  · rw [Nat.zero_add]; exact h5 _ _ (h7 4 _ rfl)
def ActP (B p q : Nat) (s1 s2 s1' s2' : Lg) (F : Nat → Prop) (w : World) (e : Ending) (w' : World) : Prop := ∃ bb, e = .returned (.bool bb) ∧ (s1 = s2 → bb = true) ∧ BStep B p q s1' s2' F w w'
theorem row_lt_of {w w1 : World} {g : Nat} (h : w.heap[g]? = w1.heap[g]?) (hg : g < w1.heap.size) : g < w.heap.size := by
  have := Array.getElem?_eq_getElem hg
  rw [← h] at this
  exact row_lt this
theorem entsK_ok_below {w w' : World} {v : Value} {d : Data} (h : (listK entryK 8).rep w (Old w) [v] d) (hb : Below w.heap.size w w') : (listK entryK 8).rep w' (Old w') [v] d :=
  (listK_ok entryK_ok 8).keep h (fun b hB => hb.block b hB) (fun _ hB => Nat.lt_of_lt_of_le hB hb.size)
set_option maxRecDepth 100000 in
set_option maxHeartbeats 3200000 in
theorem act_else {kd : Int} {B p q : Nat} {s1 s2 : Lg} {F : Nat → Prop} {w : World} (h : TwoAt B w p q s1 s2 F) (n : Int) (ix tm : Nat) (l : List En) (A : Option Addr) (c : Nat) (ha : A11At B w ⟨kd, n, ix, tm, l⟩ A c) (hn1 : s1.es.length + l.length ≤ 1073741823) (hn2 : s2.es.length + l.length ≤ 1073741823) (k1 : kd ≠ 1) (k2 : kd ≠ 2) (k3 : kd ≠ 3) (k4 : kd ≠ 4) (k5 : kd ≠ 5) (k6 : kd ≠ 6) :
    Calls Tryz.prog 12 #[ptr p, ptr q, .agg #[.int .i64 kd, .int .i64 n, .int .u64 (ix : Int), .int .u64 (tm : Int), .slice A l.length c]] w (ActPost B p q s1 s2 ⟨kd, n, ix, tm, l⟩ F w) := by
  have htwo := h
  obtain ⟨v, S, u, T, h1, h2, h3, h4, h5, h6⟩ := h
  obtain ⟨w1, e1⟩ : ∃ w1, w1 = w.alloc (.cells #[.int .i64 kd, .int .i64 n, .int .u64 (ix : Int), .int .u64 (tm : Int), .slice A l.length c] tAct) := ⟨_, rfl⟩
  have hb1 : Below w.heap.size w w1 := by rw [e1]; exact (Below.refl _ _).alloc (Nat.le_refl _) _
  have hr1 : w1.heap[w.heap.size]? = some (.cells #[.int .i64 kd, .int .i64 n, .int .u64 (ix : Int), .int .u64 (tm : Int), .slice A l.length c] tAct (0, 0)) := by rw [e1]; exact heap_alloc_new _ _
  have hz1 : w1.heap.size = w.heap.size + 1 := by rw [e1, World.size_alloc]
  have HBOX := Lib.hid (show ∀ W : World, W.heap[w.heap.size]? = w1.heap[w.heap.size]? → W.cell? ⟨w.heap.size, 0, none⟩ = some (.int .i64 kd) ∧ W.cell? ⟨w.heap.size, 1, none⟩ = some (.int .i64 n) ∧ W.cell? ⟨w.heap.size, 2, none⟩ = some (.int .u64 (ix : Int)) ∧ W.cell? ⟨w.heap.size, 3, none⟩ = some (.int .u64 (tm : Int)) ∧ W.cell? ⟨w.heap.size, 4, none⟩ = some (.slice A l.length c) from fun W hW => by
    have h := hW.trans hr1
    exact ⟨by rw [cell_of_row W _ 0 _ _ _ h]; rfl, by rw [cell_of_row W _ 1 _ _ _ h]; rfl, by rw [cell_of_row W _ 2 _ _ _ h]; rfl, by rw [cell_of_row W _ 3 _ _ _ h]; rfl, by rw [cell_of_row W _ 4 _ _ _ h]; rfl⟩)
  have HB1 := Lib.hid hb1
  have HZ1 := Lib.hid hz1
  have HLT1 := Lib.hid (row_lt hr1)
  obtain ⟨b0, b1, b2, b3, b4⟩ := HBOX.out w1 rfl
  have HTWO := Lib.hid htwo
  have H1 := Lib.hid h1
  have H2 := Lib.hid h2
  have H3 := Lib.hid h3
  have H4 := Lib.hid h4
  have H5 := Lib.hid h5
  have H6 := Lib.hid h6
  have HA := Lib.hid ha
  have HN1 := Lib.hid hn1
  have HN2 := Lib.hid hn2
  have HS := Lib.hid (show ActPost B p q s1 s2 ⟨kd, n, ix, tm, l⟩ F w = fun e w' => ∃ bb, e = .returned (.bool bb) ∧ (s1 = s2 → bb = true) ∧ BStep B p q s1 s2 F w w' by
    unfold ActPost actL
    rw [if_neg k1, if_neg k2, if_neg k1, if_neg k2])
  rw [HS.out]
  have t1 : (kd == 1) = false := beq_eq_false_iff_ne.2 k1
  have t2 : (kd == 2) = false := beq_eq_false_iff_ne.2 k2
  have t3 : (kd == 3) = false := beq_eq_false_iff_ne.2 k3
  have t4 : (kd == 4) = false := beq_eq_false_iff_ne.2 k4
  have t5 : (kd == 5) = false := beq_eq_false_iff_ne.2 k5
  have t6 : (kd == 6) = false := beq_eq_false_iff_ne.2 k6
  have HC1 := Lib.hid (fun W (hW : Below w.heap.size w W) => term_any W (h1.below hW) ix)
  have HC2 := Lib.hid (fun W (hW : Below w.heap.size w W) => rterm_any W (h2.below hW) ix)
  have HEQ := Lib.hid (show s1 = s2 → termR s1 ix = termR s2 ix from fun e => by rw [e])
  unfold errV at HC1 HC2
  generalize termR s1 ix = r at HC1 HEQ
  generalize termR s2 ix = r' at HC2 HEQ
  obtain ⟨r1, r2⟩ := r
  obtain ⟨q1, q2⟩ := r'
  dsimp only at HC1 HC2
  clear hb1 hr1 hz1 htwo h1 h2 h3 h4 h5 h6 ha hn1 hn2
  by_cases g1 : r1 = q1
  · by_cases g2 : r2 = q2
    · subst g1 g2
      go_enter Tryz.func12, Tryz.ntmps12
      go_upto_region 1 with fail
      rw [← e1]
      clear e1
      go_wp2_with (first
        | (go_at_call 19; refine (HC1.out _ HB1.out).mono ?_; rintro e w2 ⟨rfl, hb⟩; have HB2 := Lib.hid (By.ext HB1.out hb); obtain ⟨d0, d1, d2, d3, d4⟩ := HBOX.out w2 (hb.block _ HLT1.out); clear hb)
        | (go_at_call 15; refine (HC2.out _ HB2.out).mono ?_; rintro e w3 ⟨rfl, hb⟩; have HB3 := Lib.hid (By.ext HB2.out hb); clear hb))
      go_ret
      exact ⟨true, rfl, fun _ => rfl, BStep.same HTWO.out HB3.out⟩
    · have g2b : (r2 == q2) = false := beq_eq_false_iff_ne.2 g2
      subst g1
      go_enter Tryz.func12, Tryz.ntmps12
      go_upto_region 1 with fail
      rw [← e1]
      clear e1
      go_wp2_with (first
        | (go_at_call 19; refine (HC1.out _ HB1.out).mono ?_; rintro e w2 ⟨rfl, hb⟩; have HB2 := Lib.hid (By.ext HB1.out hb); obtain ⟨d0, d1, d2, d3, d4⟩ := HBOX.out w2 (hb.block _ HLT1.out); clear hb)
        | (go_at_call 15; refine (HC2.out _ HB2.out).mono ?_; rintro e w3 ⟨rfl, hb⟩; have HB3 := Lib.hid (By.ext HB2.out hb); clear hb))
      go_ret
      exact ⟨false, rfl, fun e => absurd (Prod.mk.inj (HEQ.out e)).2 g2, BStep.same HTWO.out HB3.out⟩
  · have g1b : ((r1 : Int) == (q1 : Int)) = false := beq_eq_false_iff_ne.2 (by omega)
    have g1c : ((r1 : Int) = (q1 : Int)) = False := by simp; omega
    go_enter Tryz.func12, Tryz.ntmps12
    go_upto_region 1 with fail
    rw [← e1]
    clear e1
    go_wp2_with (first
      | (go_at_call 19; refine (HC1.out _ HB1.out).mono ?_; rintro e w2 ⟨rfl, hb⟩; have HB2 := Lib.hid (By.ext HB1.out hb); obtain ⟨d0, d1, d2, d3, d4⟩ := HBOX.out w2 (hb.block _ HLT1.out); clear hb)
      | (go_at_call 15; refine (HC2.out _ HB2.out).mono ?_; rintro e w3 ⟨rfl, hb⟩; have HB3 := Lib.hid (By.ext HB2.out hb); clear hb))
    go_ret
    exact ⟨false, rfl, fun e => absurd (Prod.mk.inj (HEQ.out e)).1 g1, BStep.same HTWO.out HB3.out⟩
set_option maxRecDepth 100000 in
set_option maxHeartbeats 3200000 in
theorem act_6 {B p q : Nat} {s1 s2 : Lg} {F : Nat → Prop} {w : World} (h : TwoAt B w p q s1 s2 F) (n : Int) (ix tm : Nat) (l : List En) (A : Option Addr) (c : Nat) (ha : A11At B w ⟨6, n, ix, tm, l⟩ A c) (hn1 : s1.es.length + l.length ≤ 1073741823) (hn2 : s2.es.length + l.length ≤ 1073741823) :
    Calls Tryz.prog 12 #[ptr p, ptr q, .agg #[.int .i64 6, .int .i64 n, .int .u64 (ix : Int), .int .u64 (tm : Int), .slice A l.length c]] w (ActPost B p q s1 s2 ⟨6, n, ix, tm, l⟩ F w) := by
  have htwo := h
  obtain ⟨v, S, u, T, h1, h2, h3, h4, h5, h6⟩ := h
  obtain ⟨w1, e1⟩ : ∃ w1, w1 = w.alloc (.cells #[.int .i64 6, .int .i64 n, .int .u64 (ix : Int), .int .u64 (tm : Int), .slice A l.length c] tAct) := ⟨_, rfl⟩
  have hb1 : Below w.heap.size w w1 := by rw [e1]; exact (Below.refl _ _).alloc (Nat.le_refl _) _
  have hr1 : w1.heap[w.heap.size]? = some (.cells #[.int .i64 6, .int .i64 n, .int .u64 (ix : Int), .int .u64 (tm : Int), .slice A l.length c] tAct (0, 0)) := by rw [e1]; exact heap_alloc_new _ _
  have hz1 : w1.heap.size = w.heap.size + 1 := by rw [e1, World.size_alloc]
  have HBOX := Lib.hid (show ∀ W : World, W.heap[w.heap.size]? = w1.heap[w.heap.size]? → W.cell? ⟨w.heap.size, 0, none⟩ = some (.int .i64 6) ∧ W.cell? ⟨w.heap.size, 1, none⟩ = some (.int .i64 n) ∧ W.cell? ⟨w.heap.size, 2, none⟩ = some (.int .u64 (ix : Int)) ∧ W.cell? ⟨w.heap.size, 3, none⟩ = some (.int .u64 (tm : Int)) ∧ W.cell? ⟨w.heap.size, 4, none⟩ = some (.slice A l.length c) from fun W hW => by
    have h := hW.trans hr1
    exact ⟨by rw [cell_of_row W _ 0 _ _ _ h]; rfl, by rw [cell_of_row W _ 1 _ _ _ h]; rfl, by rw [cell_of_row W _ 2 _ _ _ h]; rfl, by rw [cell_of_row W _ 3 _ _ _ h]; rfl, by rw [cell_of_row W _ 4 _ _ _ h]; rfl⟩)
  have HB1 := Lib.hid hb1
  have HZ1 := Lib.hid hz1
  have HLT1 := Lib.hid (row_lt hr1)
  obtain ⟨b0, b1, b2, b3, b4⟩ := HBOX.out w1 rfl
  have HTWO := Lib.hid htwo
  have H1 := Lib.hid h1
  have H2 := Lib.hid h2
  have H3 := Lib.hid h3
  have H4 := Lib.hid h4
  have H5 := Lib.hid h5
  have H6 := Lib.hid h6
  have HA := Lib.hid ha
  have HN1 := Lib.hid hn1
  have HN2 := Lib.hid hn2
  clear hb1 hr1 hz1 htwo h1 h2 h3 h4 h5 h6 ha hn1 hn2
  go_enter Tryz.func12, Tryz.ntmps12
  go_upto_region 1 with fail
  rw [← e1]
  clear e1
  go_wp2
  go_ret
  exact ⟨true, rfl, fun _ => rfl, BStep.same HTWO.out HB1.out⟩
set_option maxRecDepth 100000 in
set_option maxHeartbeats 3200000 in
theorem act_4 {B p q : Nat} {s1 s2 : Lg} {F : Nat → Prop} {w : World} (h : TwoAt B w p q s1 s2 F) (n : Int) (ix tm : Nat) (l : List En) (A : Option Addr) (c : Nat) (ha : A11At B w ⟨4, n, ix, tm, l⟩ A c) (hn1 : s1.es.length + l.length ≤ 1073741823) (hn2 : s2.es.length + l.length ≤ 1073741823) :
    Calls Tryz.prog 12 #[ptr p, ptr q, .agg #[.int .i64 4, .int .i64 n, .int .u64 (ix : Int), .int .u64 (tm : Int), .slice A l.length c]] w (ActPost B p q s1 s2 ⟨4, n, ix, tm, l⟩ F w) := by
  have htwo := h
  obtain ⟨v, S, u, T, h1, h2, h3, h4, h5, h6⟩ := h
  obtain ⟨w1, e1⟩ : ∃ w1, w1 = w.alloc (.cells #[.int .i64 4, .int .i64 n, .int .u64 (ix : Int), .int .u64 (tm : Int), .slice A l.length c] tAct) := ⟨_, rfl⟩
  have hb1 : Below w.heap.size w w1 := by rw [e1]; exact (Below.refl _ _).alloc (Nat.le_refl _) _
  have hr1 : w1.heap[w.heap.size]? = some (.cells #[.int .i64 4, .int .i64 n, .int .u64 (ix : Int), .int .u64 (tm : Int), .slice A l.length c] tAct (0, 0)) := by rw [e1]; exact heap_alloc_new _ _
  have hz1 : w1.heap.size = w.heap.size + 1 := by rw [e1, World.size_alloc]
  have HBOX := Lib.hid (show ∀ W : World, W.heap[w.heap.size]? = w1.heap[w.heap.size]? → W.cell? ⟨w.heap.size, 0, none⟩ = some (.int .i64 4) ∧ W.cell? ⟨w.heap.size, 1, none⟩ = some (.int .i64 n) ∧ W.cell? ⟨w.heap.size, 2, none⟩ = some (.int .u64 (ix : Int)) ∧ W.cell? ⟨w.heap.size, 3, none⟩ = some (.int .u64 (tm : Int)) ∧ W.cell? ⟨w.heap.size, 4, none⟩ = some (.slice A l.length c) from fun W hW => by
    have h := hW.trans hr1
    exact ⟨by rw [cell_of_row W _ 0 _ _ _ h]; rfl, by rw [cell_of_row W _ 1 _ _ _ h]; rfl, by rw [cell_of_row W _ 2 _ _ _ h]; rfl, by rw [cell_of_row W _ 3 _ _ _ h]; rfl, by rw [cell_of_row W _ 4 _ _ _ h]; rfl⟩)
  have HB1 := Lib.hid hb1
  have HZ1 := Lib.hid hz1
  have HLT1 := Lib.hid (row_lt hr1)
  obtain ⟨b0, b1, b2, b3, b4⟩ := HBOX.out w1 rfl
  have HTWO := Lib.hid htwo
  have H1 := Lib.hid h1
  have H2 := Lib.hid h2
  have H3 := Lib.hid h3
  have H4 := Lib.hid h4
  have H5 := Lib.hid h5
  have H6 := Lib.hid h6
  have HA := Lib.hid ha
  have HN1 := Lib.hid hn1
  have HN2 := Lib.hid hn2
  have HC1 := Lib.hid (fun W (hW : Below w.heap.size w W) => hint_any W (h1.below hW) ix tm (by omega))
  have HC2 := Lib.hid (fun W (hW : Below w.heap.size w W) => rhint_any W (h2.below hW) ix tm)
  have HEQ := Lib.hid (show s1 = s2 → hintL s1 ix tm = hintL s2 ix tm from fun e => by rw [e])
  unfold pairV at HC1 HC2
  generalize hintL s1 ix tm = r at HC1 HEQ
  generalize hintL s2 ix tm = r' at HC2 HEQ
  obtain ⟨r1, r2⟩ := r
  obtain ⟨q1, q2⟩ := r'
  dsimp only at HC1 HC2
  clear hb1 hr1 hz1 htwo h1 h2 h3 h4 h5 h6 ha hn1 hn2
  by_cases g1 : r1 = q1
  · by_cases g2 : r2 = q2
    · subst g1 g2
      go_enter Tryz.func12, Tryz.ntmps12
      go_upto_region 1 with fail
      rw [← e1]
      clear e1
      go_wp2_with (first
        | (go_at_call 20; refine (HC1.out _ HB1.out).mono ?_; rintro e w2 ⟨rfl, hb⟩; have HB2 := Lib.hid (By.ext HB1.out hb); obtain ⟨d0, d1, d2, d3, d4⟩ := HBOX.out w2 (hb.block _ HLT1.out); clear hb)
        | (go_at_call 32; refine (HC2.out _ HB2.out).mono ?_; rintro e w3 ⟨rfl, hb⟩; have HB3 := Lib.hid (By.ext HB2.out hb); clear hb))
      go_ret
      exact ⟨true, rfl, fun _ => rfl, BStep.same HTWO.out HB3.out⟩
    · have g2b : ((r2 : Int) == (q2 : Int)) = false := beq_eq_false_iff_ne.2 (by omega)
      have g2c : ((r2 : Int) = (q2 : Int)) = False := by simp; omega
      subst g1
      go_enter Tryz.func12, Tryz.ntmps12
      go_upto_region 1 with fail
      rw [← e1]
      clear e1
      go_wp2_with (first
        | (go_at_call 20; refine (HC1.out _ HB1.out).mono ?_; rintro e w2 ⟨rfl, hb⟩; have HB2 := Lib.hid (By.ext HB1.out hb); obtain ⟨d0, d1, d2, d3, d4⟩ := HBOX.out w2 (hb.block _ HLT1.out); clear hb)
        | (go_at_call 32; refine (HC2.out _ HB2.out).mono ?_; rintro e w3 ⟨rfl, hb⟩; have HB3 := Lib.hid (By.ext HB2.out hb); clear hb))
      go_ret
      exact ⟨false, rfl, fun e => absurd (Prod.mk.inj (HEQ.out e)).2 g2, BStep.same HTWO.out HB3.out⟩
  · have g1b : ((r1 : Int) == (q1 : Int)) = false := beq_eq_false_iff_ne.2 (by omega)
    have g1c : ((r1 : Int) = (q1 : Int)) = False := by simp; omega
    go_enter Tryz.func12, Tryz.ntmps12
    go_upto_region 1 with fail
    rw [← e1]
    clear e1
    go_wp2_with (first
      | (go_at_call 20; refine (HC1.out _ HB1.out).mono ?_; rintro e w2 ⟨rfl, hb⟩; have HB2 := Lib.hid (By.ext HB1.out hb); obtain ⟨d0, d1, d2, d3, d4⟩ := HBOX.out w2 (hb.block _ HLT1.out); clear hb)
      | (go_at_call 32; refine (HC2.out _ HB2.out).mono ?_; rintro e w3 ⟨rfl, hb⟩; have HB3 := Lib.hid (By.ext HB2.out hb); clear hb))
    go_ret
    exact ⟨false, rfl, fun e => absurd (Prod.mk.inj (HEQ.out e)).1 g1, BStep.same HTWO.out HB3.out⟩
end Go.Proofs.YtdbaajgkcjpnoaaGreat.Rg
