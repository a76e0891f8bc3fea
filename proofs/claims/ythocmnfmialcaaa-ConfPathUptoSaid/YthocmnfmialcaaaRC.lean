/- What a change comes to, as a plain function; plain facts of sound configurations. | The package's Learn, as a contract of a call. | The package's Vote, as a contract of a call. Written by gencn2.py. | The package's Leave, as a contract of a call. Written by gencn2.py. -/
import Derived.Test.YthocmnfmialcaaaRB
import Derived.Test.YthocmnfmialcaaaRA
import Derived.Deep.RegionHeld3
import Derived.Test.YthocmnfmialcaaaKfG
import Derived.Deep.CutBlock
import Derived.Deep.RegionLaw
/-! What a change comes to, as a plain function; plain facts of sound configurations. -/
namespace Go.Proofs.Ythocmnfmialcaaa.Cn
open Go.RowKit Go.ChangeAt By CoP Co Mo Kd Go.Shelf

theorem risingFrom_len : ∀ (l : List Int) (p : Int), risingFrom p l = true → (l.length : Int) ≤ 16 - p ∨ l.length = 0
  | [], _, _ => .inr rfl
  | x :: t, p, h => by
    simp only [risingFrom, Bool.and_eq_true, decide_eq_true_eq] at h
    obtain ⟨⟨⟨_, h16⟩, hp⟩, ht⟩ := h
    have ih := risingFrom_len t x ht
    rw [List.length_cons]
    omega
theorem rising_len {l : List Int} (h : risingB l = true) : l.length ≤ 16 := by
  have := risingFrom_len l 0 h
  omega
theorem risingFrom_mem : ∀ (l : List Int) (p : Int), risingFrom p l = true → ∀ x ∈ l, p < x ∧ 1 ≤ x ∧ x ≤ 16
  | [], _, _ => fun x hx => absurd hx List.not_mem_nil
  | y :: t, p, h => fun x hx => by
    simp only [risingFrom, Bool.and_eq_true, decide_eq_true_eq] at h
    obtain ⟨⟨⟨h1, h16⟩, hp⟩, ht⟩ := h
    rcases List.mem_cons.1 hx with rfl | hx
    · exact ⟨hp, h1, h16⟩
    · have := risingFrom_mem t y ht x hx
      exact ⟨by omega, this.2⟩
theorem confB_iff (vs ls : List Int) : confB vs ls = true ↔ (∀ x ∈ vs, x ∉ ls) ∧ risingB vs = true ∧ risingB ls = true ∧ 0 < vs.length := by
  unfold confB
  simp only [Bool.and_eq_true, decide_eq_true_eq, List.all_eq_true, and_assoc]
theorem putIds_small {l : List Int} (h : l.length ≤ 100) : (putIds l).length ≤ 1000 := by
  have := putIds_len l (by omega)
  omega
theorem putConf_small {vs ls : List Int} (h : vs.length ≤ 100) (h2 : ls.length ≤ 100) : (putConf vs ls).length ≤ 9437184 := by
  have h1 := putIds_small h
  have h3 := putIds_small h2
  have e : (putConf vs ls).length = (putIds vs).length + (putIds ls).length := by simp only [putConf, List.length_append]
  omega
theorem wthL_len (x : Int) (l : List Int) : (wthL x l).length = l.length + 1 := insL_len x (posL_le x l)
theorem woL_len (x : Int) (l : List Int) : (woL x l).length ≤ l.length := List.length_filter_le _ _
/-- The errors that all changes have. -/
def ccErr (vs ls : List Int) (x : Int) : Int := if confB vs ls = true then (if x < 1 ∨ 16 < x then 1 else 0) else 2
/-- A change: 1 Learn, 2 Vote, else Leave. -/
def chgE (k : Nat) (vs ls : List Int) (x : Int) : Int :=
  if ccErr vs ls x ≠ 0 then ccErr vs ls x
  else if k = 1 then (if x ∈ vs ∨ x ∈ ls then 9 else 0)
  else if k = 2 then (if x ∈ ls then 0 else 8)
  else if ¬ (x ∈ vs ∨ x ∈ ls) then 8 else if (woL x vs).length = 0 then 15 else 0
def chgV (k : Nat) (vs ls : List Int) (x : Int) : List Int := if chgE k vs ls x ≠ 0 then [] else if k = 1 then vs else if k = 2 then wthL x vs else woL x vs
def chgL (k : Nat) (vs ls : List Int) (x : Int) : List Int := if chgE k vs ls x ≠ 0 then [] else if k = 1 then wthL x ls else woL x ls
theorem ccErr_zero {vs ls : List Int} {x : Int} (h : ccErr vs ls x = 0) : confB vs ls = true ∧ 1 ≤ x ∧ x ≤ 16 := by
  unfold ccErr at h
  by_cases h1 : confB vs ls = true
  · rw [if_pos h1] at h
    by_cases h2 : x < 1 ∨ 16 < x
    · rw [if_pos h2] at h; cases h
    · exact ⟨h1, by omega, by omega⟩
  · rw [if_neg h1] at h; cases h
theorem woL_none {x : Int} {l : List Int} (h : x ∉ l) : woL x l = l := by
  unfold woL
  rw [List.filter_eq_self]
  intro y hy
  have : (y == x) = false := by rw [beq_eq_false_iff_ne]; rintro rfl; exact h hy
  rw [this]; rfl
theorem woL_empty {x : Int} {vs ls : List Int} (hs : confB vs ls = true) : (woL x vs).length = 0 ↔ x ∈ vs ∧ vs.length = 1 := by
  obtain ⟨_, hr, _, hp⟩ := (confB_iff vs ls).1 hs
  constructor
  · intro h
    by_cases hx : x ∈ vs
    · refine ⟨hx, ?_⟩
      have hall : ∀ y ∈ vs, y = x := fun y hy => by
        have h0 := List.length_eq_zero_iff.1 h
        unfold woL at h0
        rw [List.filter_eq_nil_iff] at h0
        have := h0 y hy
        simpa using this
      match vs, hr, hp, hall with
      | [_], _, _, _ => rfl
      | a :: b :: t, hr, _, hall =>
        exfalso
        simp only [risingB, risingFrom, Bool.and_eq_true, decide_eq_true_eq] at hr
        have h1 := hall a (by simp)
        have h2 := hall b (by simp)
        omega
    · rw [woL_none hx] at h
      omega
  · rintro ⟨hx, hl⟩
    match vs, hl with
    | [a], _ =>
      have : x = a := by simpa using hx
      subst this
      simp [woL]
/-- Gives a configuration, and an error. -/
def GivesC (S : World → World → Nat → Prop) (er : Int) (vs ls : List Int) (w : World) (e : Ending) (w' : World) : Prop :=
  ∃ A n c A2 m c2, e = .returned (.tuple #[cfV A n c A2 m c2, .int .i64 er]) ∧ CfAt w' (S w w') A n c A2 m c2 vs ls ∧ Below w.heap.size w w'
theorem CfAt.empty (w : World) (S : Nat → Prop) : CfAt w S none 0 0 none 0 0 [] [] := ⟨rfl, rfl, Ls.nil _ _ _, Ls.nil _ _ _, Nat.le_refl _, Nat.le_refl _, putConf_small (by decide) (by decide)⟩
theorem below_sound {vs ls : List Int} (h : confB vs ls = true) : vs.length ≤ 16 ∧ ls.length ≤ 16 := by
  obtain ⟨_, h1, h2, _⟩ := (confB_iff vs ls).1 h
  exact ⟨rising_len h1, rising_len h2⟩
section
variable {w : World} {A A2 : Option Addr} {n c m c2 : Nat} {vs ls : List Int}
set_option maxHeartbeats 1000000 in
theorem checkChange_any (h : CfAt w (Old w) A n c A2 m c2 vs ls) (x : Int) : Calls Try.prog 39 #[cfV A n c A2 m c2, .int .i64 x] w (Tells (.int .i64 (ccErr vs ls x)) w) := by
  obtain ⟨w1, hw1⟩ : ∃ w1, w1 = w.alloc (.cells #[.slice A n c, .slice A2 m c2] 24) := ⟨_, rfl⟩
  have hb1 : Below w.heap.size w w1 := by rw [hw1]; exact (Below.refl _ _).alloc (Nat.le_refl _) _
  have hrow : w1.heap[w.heap.size]? = some (.cells #[.slice A n c, .slice A2 m c2] 24 (0, 0)) := by rw [hw1]; exact heap_alloc_new w _
  have k0 : w1.cell? ⟨w.heap.size, 0, none⟩ = some (.slice A n c) := by rw [cell_of_row w1 _ 0 _ _ _ hrow]; rfl
  have k1 : w1.cell? ⟨w.heap.size, 1, none⟩ = some (.slice A2 m c2) := by rw [cell_of_row w1 _ 1 _ _ _ hrow]; rfl
  have HC := Lib.hid (checkc_any h w1 hb1)
  have HB1 := Lib.hid hb1
  have hcc : ccErr vs ls x = if confB vs ls = true then (if x < 1 ∨ 16 < x then 1 else 0) else 2 := rfl
  generalize confB vs ls = b at HC hcc
  generalize ccErr vs ls x = z at hcc ⊢
  clear h hb1 hrow
  cases b with
  | false =>
    obtain rfl : z = 2 := hcc
    have HC := Lib.hid (show Calls Try.prog 9 #[cfV A n c A2 m c2] w1 (Tells (.int .i64 2) w1) from HC.out)
    go_enter Try.func39, Try.ntmps39
    go_wp2_with fail
    rw [← hw1]
    clear hw1
    refine HC.out.mono ?_
    rintro e w2 ⟨rfl, hb2⟩
    have HB2 := Lib.hid hb2
    clear hb2
    go_wp2
    go_ret
    exact ⟨rfl, By.ext HB1.out HB2.out⟩
  | true =>
    have HC := Lib.hid (show Calls Try.prog 9 #[cfV A n c A2 m c2] w1 (Tells (.int .i64 0) w1) from HC.out)
    replace hcc : z = if x < 1 ∨ 16 < x then 1 else 0 := hcc
    have hx : (z = 1 ∧ x < 1) ∨ (z = 1 ∧ ¬ x < 1 ∧ 16 < x) ∨ (z = 0 ∧ ¬ x < 1 ∧ ¬ 16 < x) := by
      by_cases h1 : x < 1
      · rw [if_pos (.inl h1)] at hcc; exact .inl ⟨hcc, h1⟩
      · by_cases h2 : 16 < x
        · rw [if_pos (.inr h2)] at hcc; exact .inr (.inl ⟨hcc, h1, h2⟩)
        · rw [if_neg (by omega)] at hcc; exact .inr (.inr ⟨hcc, h1, h2⟩)
    clear hcc
    rcases hx with ⟨rfl, h1⟩ | ⟨rfl, h1, h2⟩ | ⟨rfl, h1, h2⟩
    · have d1 : decide (x < 1) = true := decide_eq_true h1
      go_enter Try.func39, Try.ntmps39
      go_wp2_with fail
      rw [← hw1]
      clear hw1
      refine HC.out.mono ?_
      rintro e w2 ⟨rfl, hb2⟩
      have HB2 := Lib.hid hb2
      clear hb2
      go_wp2
      go_ret
      exact ⟨rfl, By.ext HB1.out HB2.out⟩
    · have d1 : decide (x < 1) = false := decide_eq_false h1
      have d2 : decide (16 < x) = true := decide_eq_true h2
      go_enter Try.func39, Try.ntmps39
      go_wp2_with fail
      rw [← hw1]
      clear hw1
      refine HC.out.mono ?_
      rintro e w2 ⟨rfl, hb2⟩
      have HB2 := Lib.hid hb2
      clear hb2
      go_wp2
      go_ret
      exact ⟨rfl, By.ext HB1.out HB2.out⟩
    · have d1 : decide (x < 1) = false := decide_eq_false h1
      have d2 : decide (16 < x) = false := decide_eq_false h2
      go_enter Try.func39, Try.ntmps39
      go_wp2_with fail
      rw [← hw1]
      clear hw1
      refine HC.out.mono ?_
      rintro e w2 ⟨rfl, hb2⟩
      have HB2 := Lib.hid hb2
      clear hb2
      go_wp2
      go_ret
      exact ⟨rfl, By.ext HB1.out HB2.out⟩
end
end Go.Proofs.Ythocmnfmialcaaa.Cn

/-! The package's Learn, as a contract of a call. -/
namespace Go.Proofs.Ythocmnfmialcaaa.Cn
open Go.RowKit Go.ChangeAt By CoP Co Mo Kd Go.Shelf

/-- A configuration's box, and the result's, laid one behind the other. -/
structure Boxes (w W : World) (A : Option Addr) (n c : Nat) (A2 : Option Addr) (m c2 : Nat) : Prop where
  below : Below w.heap.size w W
  size : W.heap.size = w.heap.size + 1 + 1
  row : W.heap[w.heap.size]? = some (.cells #[.slice A n c, .slice A2 m c2] 24 (0, 0))
  res : W.heap[w.heap.size + 1]? = some (.cells #[.slice none 0 0, .slice none 0 0] 24 (0, 0))
theorem boxes (w : World) (A : Option Addr) (n c : Nat) (A2 : Option Addr) (m c2 : Nat) : Boxes w ((w.alloc (.cells #[.slice A n c, .slice A2 m c2] 24)).alloc (.cells #[.slice none 0 0, .slice none 0 0] 24)) A n c A2 m c2 :=
  ⟨((Below.refl _ _).alloc (Nat.le_refl _) _).alloc (by simp) _, by simp, heap_alloc2_old w _ _, heap_alloc2_new w _ _⟩
section
variable {w W w' : World} {A A2 : Option Addr} {n c m c2 : Nat} {vs ls : List Int}
theorem Boxes.cells (h : Boxes w W A n c A2 m c2) (hb : Below W.heap.size W w') : w'.cell? ⟨w.heap.size, 0, none⟩ = some (.slice A n c) ∧ w'.cell? ⟨w.heap.size, 1, none⟩ = some (.slice A2 m c2) := by
  have hr := (hb.block _ (row_lt h.row)).trans h.row
  exact ⟨by rw [cell_of_row w' _ 0 _ _ _ hr]; rfl, by rw [cell_of_row w' _ 1 _ _ _ hr]; rfl⟩
theorem Boxes.fz (h : Boxes w W A n c A2 m c2) (hb : Below W.heap.size W w') (j : Nat) : w'.frozen? ⟨w.heap.size + 1, j, none⟩ = false := frozen_of_row w' _ j _ _ ((hb.block _ (row_lt h.res)).trans h.res)
theorem Boxes.rcells (h : Boxes w W A n c A2 m c2) (hb : Below W.heap.size W w') : w'.cell? ⟨w.heap.size + 1, 0, none⟩ = some (.slice none 0 0) ∧ w'.cell? ⟨w.heap.size + 1, 1, none⟩ = some (.slice none 0 0) := by
  have hr := (hb.block _ (row_lt h.res)).trans h.res
  exact ⟨by rw [cell_of_row w' _ 0 _ _ _ hr]; rfl, by rw [cell_of_row w' _ 1 _ _ _ hr]; rfl⟩
theorem Boxes.row' (h : Boxes w W A n c A2 m c2) (hb : Below W.heap.size W w') : w'.heap[w.heap.size + 1]? = some (.cells #[.slice none 0 0, .slice none 0 0] 24 (0, 0)) := (hb.block _ (row_lt h.res)).trans h.res
/-- The result, written. -/
theorem Boxes.set (h : Boxes w W A n c A2 m c2) (hb : Below W.heap.size W w') (x y : Value) : ((w'.setCell ⟨w.heap.size + 1, 0, none⟩ x).setCell ⟨w.heap.size + 1, 1, none⟩ y).heap[w.heap.size + 1]? = some (.cells #[x, y] 24 (0, 0)) :=
  heap_setCell_same _ (w.heap.size + 1) 1 _ _ y (heap_setCell_same w' (w.heap.size + 1) 0 _ _ x (h.row' hb))
theorem Boxes.setBelow (h : Boxes w W A n c A2 m c2) (hb : Below W.heap.size W w') (x y : Value) : Below w.heap.size w ((w'.setCell ⟨w.heap.size + 1, 0, none⟩ x).setCell ⟨w.heap.size + 1, 1, none⟩ y) :=
  ((By.ext h.below hb).setCell (p := ⟨w.heap.size + 1, 0, none⟩) (Nat.le_succ _) x).setCell (p := ⟨w.heap.size + 1, 1, none⟩) (Nat.le_succ _) y
theorem Boxes.wk (h : Boxes w W A n c A2 m c2) (hb : Below W.heap.size W w') : Below (w.heap.size + 1) W w' := hb.mono (by have := h.size; omega)
theorem Boxes.setW (h : Boxes w W A n c A2 m c2) (hb : Below W.heap.size W w') (x y : Value) : Below (w.heap.size + 1) W ((w'.setCell ⟨w.heap.size + 1, 0, none⟩ x).setCell ⟨w.heap.size + 1, 1, none⟩ y) :=
  ((h.wk hb).setCell (p := ⟨w.heap.size + 1, 0, none⟩) (Nat.le_refl _) x).setCell (p := ⟨w.heap.size + 1, 1, none⟩) (Nat.le_refl _) y
theorem Boxes.cellsW (h : Boxes w W A n c A2 m c2) (hb : Below (w.heap.size + 1) W w') : w'.cell? ⟨w.heap.size, 0, none⟩ = some (.slice A n c) ∧ w'.cell? ⟨w.heap.size, 1, none⟩ = some (.slice A2 m c2) := by
  have hr := (hb.block _ (Nat.lt_succ_self _)).trans h.row
  exact ⟨by rw [cell_of_row w' _ 0 _ _ _ hr]; rfl, by rw [cell_of_row w' _ 1 _ _ _ hr]; rfl⟩
theorem conf_size : (Try.prog.info? 24).map (·.size) = some 2 := by kernel_rfl
/-- New ints stay, where the result's box is written. -/
theorem Ls.box {w wa wb : World} {g : Nat} {A : Option Addr} {l : List Int} (h : Ls wa (NewF w wa) A l) (hb : Below wa.heap.size wa wb) (hg : g < w.heap.size) (base : World) (hbase : base.heap.size ≤ w.heap.size) (x y : Value) :
    Ls ((wb.setCell ⟨g, 0, none⟩ x).setCell ⟨g, 1, none⟩ y) (NewF base ((wb.setCell ⟨g, 0, none⟩ x).setCell ⟨g, 1, none⟩ y)) A l := by
  have hk : ∀ b, NewF w wa b → ((wb.setCell ⟨g, 0, none⟩ x).setCell ⟨g, 1, none⟩ y).heap[b]? = wa.heap[b]? := fun b hB => by
    have hbg : b ≠ g := by have := hB.1.1; omega
    exact (heap_setCell_other _ ⟨g, 1, none⟩ b _ hbg).trans ((heap_setCell_other _ ⟨g, 0, none⟩ b _ hbg).trans (hb.block b hB.1.2))
  have hz : ((wb.setCell ⟨g, 0, none⟩ x).setCell ⟨g, 1, none⟩ y).heap.size = wb.heap.size := by simp [World.setCell]
  exact h.keep hk (fun b hB => ⟨⟨Nat.le_trans hbase hB.1.1, by rw [hz]; exact Nat.lt_of_lt_of_le hB.1.2 hb.size⟩, hB.2.keep (hk b hB)⟩)
/-- What the changes end with: an error. -/
theorem give_err {er : Int} {vs ls : List Int} (h : Boxes w W A n c A2 m c2) (hb : Below W.heap.size W w') (hv : vs = []) (hl : ls = []) : GivesC NewF er vs ls w (.returned (.tuple #[cfV none 0 0 none 0 0, .int .i64 er])) ((w'.setCell ⟨w.heap.size + 1, 0, none⟩ (.slice none 0 0)).setCell ⟨w.heap.size + 1, 1, none⟩ (.slice none 0 0)) :=
  ⟨none, 0, 0, none, 0, 0, rfl, by subst hv; subst hl; exact CfAt.empty _ _, h.setBelow hb _ _⟩
theorem drew_left {B : Nat} {w w' : World} (h : Below B w.drew w') : Below B w w' := ⟨h.os, h.tape, h.output, h.size, h.block⟩
/-- What the changes end with: two new lists. -/
theorem give_two {A4 A5 : Option Addr} {c4 c5 : Nat} {us ks : List Int} {wa w4 wb w5 : World} (h : Boxes w W A n c A2 m c2) (ha : Below W.heap.size W wa) (hb : Below W.heap.size W wb) (hs : Below W.heap.size W w5) (h4 : Ls w4 (NewF wa w4) A4 us) (h45 : Below w4.heap.size w4 w5)
    (h5 : Ls w5 (NewF wb w5) A5 ks) (hc4 : us.length ≤ c4) (hc5 : ks.length ≤ c5) (hsm : (putConf us ks).length ≤ 9437184) :
    GivesC NewF 0 us ks w (.returned (.tuple #[cfV A4 us.length c4 A5 ks.length c5, .int .i64 0])) ((w5.setCell ⟨w.heap.size + 1, 0, none⟩ (.slice A4 us.length c4)).setCell ⟨w.heap.size + 1, 1, none⟩ (.slice A5 ks.length c5)) := by
  have z := h.size
  have za := ha.size
  have zb := hb.size
  exact ⟨A4, _, c4, A5, _, c5, rfl, ⟨rfl, rfl, h4.box h45 (by omega) w (by omega) _ _, h5.box (Below.refl _ _) (by omega) w (by omega) _ _, hc4, hc5, hsm⟩, h.setBelow hs _ _⟩
set_option maxHeartbeats 2000000 in
theorem learn_any (h : CfAt w (Old w) A n c A2 m c2 vs ls) (x : Int) : Calls Try.prog 25 #[cfV A n c A2 m c2, .int .i64 x] w (GivesC NewF (chgE 1 vs ls x) (chgV 1 vs ls x) (chgL 1 vs ls x) w) := by
  obtain ⟨W, hW⟩ : ∃ W, W = (w.alloc (.cells #[.slice A n c, .slice A2 m c2] 24)).alloc (.cells #[.slice none 0 0, .slice none 0 0] 24) := ⟨_, rfl⟩
  have hbx : Boxes w W A n c A2 m c2 := by rw [hW]; exact boxes w A n c A2 m c2
  have hb1 := hbx.below
  have hcc := checkChange_any (h.below hb1) x
  have HBX := Lib.hid hbx
  have HH := Lib.hid h
  obtain ⟨k0, k1⟩ := hbx.cells (Below.refl _ _)
  obtain ⟨r0, r1⟩ := hbx.rcells (Below.refl _ _)
  have f0 := hbx.fz (Below.refl _ _)
  by_cases he : ccErr vs ls x = 0
  · obtain ⟨hs, hx1, hx2⟩ := ccErr_zero he
    obtain ⟨hv16, hl16⟩ := below_sound hs
    rw [he] at hcc
    have hmem := fun w' (hb : Below W.heap.size W w') => isMember_any (h.below (By.ext hb1 hb)) x
    by_cases hm : x ∈ vs ∨ x ∈ ls
    · have hE : chgE 1 vs ls x = 9 := by unfold chgE; rw [if_neg (by rw [he]; decide), if_pos rfl, if_pos hm]
      have HV := Lib.hid (show chgV 1 vs ls x = [] by unfold chgV; rw [if_pos (by rw [hE]; decide)])
      have HL := Lib.hid (show chgL 1 vs ls x = [] by unfold chgL; rw [if_pos (by rw [hE]; decide)])
      rw [hE]
      have hd : (decide (x ∈ vs) || decide (x ∈ ls)) = true := by simpa using hm
      rw [hd] at hmem
      have HM := Lib.hid hmem
      have HC := Lib.hid hcc
      clear hcc he hE hb1 h hbx hs hx1 hx2 hv16 hl16 hm hd hmem
      go_enter Try.func25, Try.ntmps25
      go_wp2_with fail
      rw [← hW]
      clear hW
      refine HC.out.mono ?_
      rintro e w2 ⟨rfl, hb2⟩
      have HB2 := Lib.hid hb2
      obtain ⟨k0, k1⟩ := HBX.out.cells hb2
      obtain ⟨r0, r1⟩ := HBX.out.rcells hb2
      have f0 := HBX.out.fz hb2
      clear hb2
      go_wp2_with fail
      refine (HM.out _ HB2.out).mono ?_
      rintro e w3 ⟨rfl, hb3⟩
      have HB3 := Lib.hid (By.ext HB2.out hb3)
      obtain ⟨k0, k1⟩ := HBX.out.cells HB3.out
      obtain ⟨r0, r1⟩ := HBX.out.rcells HB3.out
      have f0 := HBX.out.fz HB3.out
      clear hb3
      go_wp2
      exact bodyPost_ret (Kd.results_cell_tmp rfl _ _ (w.heap.size + 1) 24 #[.slice none 0 0, .slice none 0 0] (0, 0) _ rfl (HBX.out.set HB3.out _ _) Try.underlying24 conf_size) rfl (give_err HBX.out HB3.out HV.out HL.out)
    · have hE : chgE 1 vs ls x = 0 := by unfold chgE; rw [if_neg (by rw [he]; decide), if_pos rfl, if_neg hm]
      have hV : chgV 1 vs ls x = vs := by unfold chgV; rw [if_neg (by rw [hE]; decide), if_pos rfl]
      have hL : chgL 1 vs ls x = wthL x ls := by unfold chgL; rw [if_neg (by rw [hE]; decide), if_pos rfl]
      rw [hE, hV, hL]
      have hd : (decide (x ∈ vs) || decide (x ∈ ls)) = false := by
        rw [decide_eq_false (fun h => hm (.inl h)), decide_eq_false (fun h => hm (.inr h))]; rfl
      rw [hd] at hmem
      have hclone := fun w' (hb : Below W.heap.size W w') => clone_any A n c w'.heap.size vs h.hn (by have := h.nv; omega) w' (Nat.le_refl _) (h.below (By.ext hb1 hb)).v.lies
      have hwith := fun w' (hb : Below W.heap.size W w') => with_any A2 m c2 w'.heap.size ls h.hm (by have := h.nl; omega) x ⟨by omega, by omega⟩ w' (Nat.le_refl _) (h.below (By.ext hb1 hb)).l.lies
      have HI := Lib.hid (LiesI.i64 h.v.lies)
      have HSM := Lib.hid (show (putConf vs (wthL x ls)).length ≤ 9437184 from putConf_small (by omega) (by rw [wthL_len]; omega))
      have HM := Lib.hid hmem
      have HC := Lib.hid hcc
      have HCL := Lib.hid hclone
      have HWI := Lib.hid hwith
      generalize wthL x ls = r at HSM HWI ⊢
      clear hcc he hE hb1 h hbx hs hx1 hx2 hv16 hl16 hm hd hmem hclone hwith hV hL
      go_enter Try.func25, Try.ntmps25
      go_wp2_with fail
      rw [← hW]
      clear hW
      refine HC.out.mono ?_
      rintro e w2 ⟨rfl, hb2⟩
      have HB2 := Lib.hid hb2
      obtain ⟨k0, k1⟩ := HBX.out.cells hb2
      clear hb2
      go_wp2_with fail
      refine (HM.out _ HB2.out).mono ?_
      rintro e w3 ⟨rfl, hb3⟩
      have hs3 : Below W.heap.size W w3 := By.ext HB2.out hb3
      have HB3 := Lib.hid hs3
      have hxc : ∀ w', Below (w.heap.size + 1) W w' → w'.cell? ⟨w.heap.size, 0, none⟩ = some (.slice A n c) := fun w' hb => (HBX.out.cellsW hb).1
      have hxd : ∀ w', Below (w.heap.size + 1) W w' → w'.cell? ⟨w.heap.size, 1, none⟩ = some (.slice A2 m c2) := fun w' hb => (HBX.out.cellsW hb).2
      have hw3 := HBX.out.wk hs3
      have hw3d : Below (w.heap.size + 1) W w3.drew := hw3.drew
      have hs3d : Below W.heap.size W w3.drew := hs3.drew
      clear hb3 k0 k1 r0 r1 f0
      go_upto_region 6 with fail
      go_region_held3 (fun w' => Below (w.heap.size + 1) W w')
        (first
          | with_reducible assumption
          | with_reducible exact hw3
          | with_reducible exact hw3d
          | with_reducible exact hw4
          | with_reducible exact hw4d
          | with_reducible exact hw5
          | with_reducible exact hw5d
          | with_reducible exact HBX.out.setW hs5 _ _)
        (first
          | (go_at_call 40
             refine (HCL.out _ (by with_reducible first | exact hs3 | exact hs3d)).mono ?_
             rintro e w4 ⟨v4, rfl, ho4, hb4⟩
             obtain ⟨A4, c4, rfl, hc4, hl4⟩ := OwnZ.ls ho4 (Nat.le_refl _) HI.out
             have hs4 : Below W.heap.size W w4 := By.ext (by with_reducible first | exact hs3 | exact hs3d) hb4
             have hw4 := HBX.out.wk hs4
             have hw4d : Below (w.heap.size + 1) W w4.drew := hw4.drew
             have hs4d : Below W.heap.size W w4.drew := hs4.drew
             have HO4 := Lib.hid hl4
             have HC4 := Lib.hid hc4
             have HB4 := Lib.hid hb4
             clear ho4 hb4 hc4 hl4)
          | (go_at_call 41
             refine (HWI.out _ (by with_reducible first | exact hs4 | exact hs4d)).mono ?_
             rintro e w5 ⟨A5, c5, rfl, hc5, hl5, hb5⟩
             have hs5 : Below W.heap.size W w5 := By.ext (by with_reducible first | exact hs4 | exact hs4d) hb5
             have hw5 := HBX.out.wk hs5
             have hw5d : Below (w.heap.size + 1) W w5.drew := hw5.drew
             have HO5 := Lib.hid hl5
             have HC5 := Lib.hid hc5
             have HB5 := Lib.hid hb5
             have HS5 := Lib.hid hs5
             obtain ⟨r0, r1⟩ := HBX.out.rcells hs5
             have f0 := HBX.out.fz hs5
             clear hb5 hc5 hl5))
      all_goals
        go_wp2
        exact bodyPost_ret (v := .tuple #[cfV A4 vs.length c4 A5 r.length c5, .int .i64 0]) (Kd.results_cell_tmp (p := 4) (q := 5) rfl _ _ (w.heap.size + 1) 24 #[.slice A4 vs.length c4, .slice A5 r.length c5] (0, 0) _ rfl (HBX.out.set HS5.out _ _) Try.underlying24 conf_size) rfl
          (give_two HBX.out (by with_reducible first | exact hs3 | exact hs3d) (by with_reducible first | exact hs4 | exact hs4d) HS5.out HO4.out (by with_reducible first | exact HB5.out | exact drew_left HB5.out) HO5.out HC4.out HC5.out HSM.out)
  · have hE : chgE 1 vs ls x = ccErr vs ls x := by unfold chgE; rw [if_pos he]
    have HV := Lib.hid (show chgV 1 vs ls x = [] by unfold chgV; rw [if_pos (by rw [hE]; exact he)])
    have HL := Lib.hid (show chgL 1 vs ls x = [] by unfold chgL; rw [if_pos (by rw [hE]; exact he)])
    rw [hE]
    have e1 : (ccErr vs ls x == 0) = false := by rw [beq_eq_false_iff_ne]; exact he
    have e2 : (ccErr vs ls x != 0) = true := by rw [bne_iff_ne]; exact he
    generalize ccErr vs ls x = z at hcc e1 e2 ⊢
    have HC := Lib.hid hcc
    clear hcc he hE hb1 h hbx
    go_enter Try.func25, Try.ntmps25
    go_wp2_with fail
    rw [← hW]
    clear hW
    refine HC.out.mono ?_
    rintro e w2 ⟨rfl, hb2⟩
    have HB2 := Lib.hid hb2
    obtain ⟨k0, k1⟩ := HBX.out.cells hb2
    obtain ⟨r0, r1⟩ := HBX.out.rcells hb2
    have f0 := HBX.out.fz hb2
    clear hb2
    go_wp2
    exact bodyPost_ret (Kd.results_cell_tmp rfl _ _ (w.heap.size + 1) 24 #[.slice none 0 0, .slice none 0 0] (0, 0) _ rfl (HBX.out.set HB2.out _ _) Try.underlying24 conf_size) rfl (give_err HBX.out HB2.out HV.out HL.out)
end
end Go.Proofs.Ythocmnfmialcaaa.Cn

/-! The package's Vote, as a contract of a call. Written by gencn2.py. -/
namespace Go.Proofs.Ythocmnfmialcaaa.Cn
open Go.RowKit Go.ChangeAt By CoP Co Mo Kd Go.Shelf
variable {w W w' : World} {A A2 : Option Addr} {n c m c2 : Nat} {vs ls : List Int}
set_option maxHeartbeats 2000000 in
theorem vote_any (h : CfAt w (Old w) A n c A2 m c2 vs ls) (x : Int) : Calls Try.prog 27 #[cfV A n c A2 m c2, .int .i64 x] w (GivesC NewF (chgE 2 vs ls x) (chgV 2 vs ls x) (chgL 2 vs ls x) w) := by
  obtain ⟨W, hW⟩ : ∃ W, W = (w.alloc (.cells #[.slice A n c, .slice A2 m c2] 24)).alloc (.cells #[.slice none 0 0, .slice none 0 0] 24) := ⟨_, rfl⟩
  have hbx : Boxes w W A n c A2 m c2 := by rw [hW]; exact boxes w A n c A2 m c2
  have hb1 := hbx.below
  have hcc := checkChange_any (h.below hb1) x
  have HBX := Lib.hid hbx
  obtain ⟨k0, k1⟩ := hbx.cells (Below.refl _ _)
  obtain ⟨r0, r1⟩ := hbx.rcells (Below.refl _ _)
  have f0 := hbx.fz (Below.refl _ _)
  by_cases he : ccErr vs ls x = 0
  · obtain ⟨hs, hx1, hx2⟩ := ccErr_zero he
    obtain ⟨hv16, hl16⟩ := below_sound hs
    rw [he] at hcc
    have hmem := fun w' (hb : Below W.heap.size W w') => h.has2 x w' (By.ext hb1 hb)
    by_cases hm : x ∈ ls
    · have hE : chgE 2 vs ls x = 0 := by unfold chgE; rw [if_neg (by rw [he]; decide), if_neg (by decide), if_pos rfl, if_pos hm]
      have hV : chgV 2 vs ls x = wthL x vs := by unfold chgV; rw [if_neg (by rw [hE]; decide), if_neg (by decide), if_pos rfl]
      have hL : chgL 2 vs ls x = woL x ls := by unfold chgL; rw [if_neg (by rw [hE]; decide), if_neg (by decide)]
      rw [hE, hV, hL]
      have hd : decide (x ∈ ls) = true := decide_eq_true hm
      rw [hd] at hmem
      have hrv := fun w' (hb : Below W.heap.size W w') => with_any A n c w'.heap.size vs h.hn (by have := h.nv; omega) x ⟨by omega, by omega⟩ w' (Nat.le_refl _) (h.below (By.ext hb1 hb)).v.lies
      have hrl := fun w' (hb : Below W.heap.size W w') => without_any A2 m c2 w'.heap.size ls h.hm (by have := h.nl; omega) x w' (Nat.le_refl _) (h.below (By.ext hb1 hb)).l.lies
      have HSM := Lib.hid (show (putConf (wthL x vs) (woL x ls)).length ≤ 9437184 from putConf_small (by rw [wthL_len]; omega) (by have := woL_len x ls; omega))
      generalize wthL x vs = rv at hrv HSM ⊢
      generalize woL x ls = rl at hrl HSM ⊢
      have HM := Lib.hid hmem
      have HC := Lib.hid hcc
      have HRV := Lib.hid hrv
      have HRL := Lib.hid hrl
      clear hcc he hE hb1 h hbx hs hx1 hx2 hv16 hl16 hm hd hmem hrv hrl hV hL
      go_enter Try.func27, Try.ntmps27
      go_wp2_with fail
      rw [← hW]
      clear hW
      refine (HC.out).mono ?_
      rintro e w2 ⟨rfl, hb⟩
      have HB2 := Lib.hid hb
      obtain ⟨k0, k1⟩ := HBX.out.cells HB2.out
      obtain ⟨r0, r1⟩ := HBX.out.rcells HB2.out
      have f0 := HBX.out.fz HB2.out
      clear hb
      go_wp2_with fail
      refine (HM.out _ HB2.out).mono ?_
      rintro e w3 ⟨rfl, hb⟩
      have HB3 := Lib.hid (By.ext HB2.out hb)
      obtain ⟨k0, k1⟩ := HBX.out.cells HB3.out
      obtain ⟨r0, r1⟩ := HBX.out.rcells HB3.out
      have f0 := HBX.out.fz HB3.out
      clear hb
      have hxc : ∀ w', Below (w.heap.size + 1) W w' → w'.cell? ⟨w.heap.size, 0, none⟩ = some (.slice A n c) := fun w' hb => (HBX.out.cellsW hb).1
      have hxd : ∀ w', Below (w.heap.size + 1) W w' → w'.cell? ⟨w.heap.size, 1, none⟩ = some (.slice A2 m c2) := fun w' hb => (HBX.out.cellsW hb).2
      have hs3 := HB3.out
      have hw3 := HBX.out.wk hs3
      have hw3d : Below (w.heap.size + 1) W w3.drew := hw3.drew
      have hs3d : Below W.heap.size W w3.drew := hs3.drew
      clear k0 k1 r0 r1 f0
      go_upto_region 6 with fail
      go_region_held3 (fun w' => Below (w.heap.size + 1) W w')
        (first
          | with_reducible assumption
          | with_reducible exact hw3
          | with_reducible exact hw3d
          | with_reducible exact hw4
          | with_reducible exact hw4d
          | with_reducible exact hw5
          | with_reducible exact hw5d
          | with_reducible exact HBX.out.setW hs5 _ _)
        (first
          | (go_at_call 41
             refine (HRV.out _ (by with_reducible first | exact hs3 | exact hs3d)).mono ?_
             rintro e w4 ⟨A4, c4, rfl, hc4, hl4, hb4⟩
             have hs4 : Below W.heap.size W w4 := By.ext (by with_reducible first | exact hs3 | exact hs3d) hb4
             have hw4 := HBX.out.wk hs4
             have hw4d : Below (w.heap.size + 1) W w4.drew := hw4.drew
             have hs4d : Below W.heap.size W w4.drew := hs4.drew
             have HO4 := Lib.hid hl4
             have HC4 := Lib.hid hc4
             have HB4 := Lib.hid hb4
             clear hb4 hc4 hl4)
          | (go_at_call 42
             refine (HRL.out _ (by with_reducible first | exact hs4 | exact hs4d)).mono ?_
             rintro e w5 ⟨A5, c5, rfl, hc5, hl5, hb5⟩
             have hs5 : Below W.heap.size W w5 := By.ext (by with_reducible first | exact hs4 | exact hs4d) hb5
             have hw5 := HBX.out.wk hs5
             have hw5d : Below (w.heap.size + 1) W w5.drew := hw5.drew
             have HO5 := Lib.hid hl5
             have HC5 := Lib.hid hc5
             have HB5 := Lib.hid hb5
             have HS5 := Lib.hid hs5
             obtain ⟨r0, r1⟩ := HBX.out.rcells hs5
             have f0 := HBX.out.fz hs5
             clear hb5 hc5 hl5))
      all_goals
        go_wp2
        exact bodyPost_ret (v := .tuple #[cfV A4 rv.length c4 A5 rl.length c5, .int .i64 0]) (Kd.results_cell_tmp (p := 4) (q := 5) rfl _ _ (w.heap.size + 1) 24 #[.slice A4 rv.length c4, .slice A5 rl.length c5] (0, 0) _ rfl (HBX.out.set HS5.out _ _) Try.underlying24 conf_size) rfl
          (give_two HBX.out (by with_reducible first | exact hs3 | exact hs3d) (by with_reducible first | exact hs4 | exact hs4d) HS5.out HO4.out (by with_reducible first | exact HB5.out | exact drew_left HB5.out) HO5.out HC4.out HC5.out HSM.out)
    · have hE : chgE 2 vs ls x = 8 := by unfold chgE; rw [if_neg (by rw [he]; decide), if_neg (by decide), if_pos rfl, if_neg hm]
      have HV := Lib.hid (show chgV 2 vs ls x = [] by unfold chgV; rw [if_pos (by rw [hE]; decide)])
      have HL := Lib.hid (show chgL 2 vs ls x = [] by unfold chgL; rw [if_pos (by rw [hE]; decide)])
      rw [hE]
      have hd : decide (x ∈ ls) = false := decide_eq_false hm
      rw [hd] at hmem
      have HM := Lib.hid hmem
      have HC := Lib.hid hcc
      clear hcc he hE hb1 h hbx hs hx1 hx2 hv16 hl16 hm hd hmem
      go_enter Try.func27, Try.ntmps27
      go_wp2_with fail
      rw [← hW]
      clear hW
      refine (HC.out).mono ?_
      rintro e w2 ⟨rfl, hb⟩
      have HB2 := Lib.hid hb
      obtain ⟨k0, k1⟩ := HBX.out.cells HB2.out
      obtain ⟨r0, r1⟩ := HBX.out.rcells HB2.out
      have f0 := HBX.out.fz HB2.out
      clear hb
      go_wp2_with fail
      refine (HM.out _ HB2.out).mono ?_
      rintro e w3 ⟨rfl, hb⟩
      have HB3 := Lib.hid (By.ext HB2.out hb)
      obtain ⟨k0, k1⟩ := HBX.out.cells HB3.out
      obtain ⟨r0, r1⟩ := HBX.out.rcells HB3.out
      have f0 := HBX.out.fz HB3.out
      clear hb
      go_wp2
      exact bodyPost_ret (v := .tuple #[cfV none 0 0 none 0 0, .int .i64 8]) (Kd.results_cell_tmp (p := 4) (q := 5) rfl _ _ (w.heap.size + 1) 24 #[.slice none 0 0, .slice none 0 0] (0, 0) _ rfl (HBX.out.set HB3.out _ _) Try.underlying24 conf_size) rfl (give_err HBX.out HB3.out HV.out HL.out)
  · have hE : chgE 2 vs ls x = ccErr vs ls x := by unfold chgE; rw [if_pos he]
    have HV := Lib.hid (show chgV 2 vs ls x = [] by unfold chgV; rw [if_pos (by rw [hE]; exact he)])
    have HL := Lib.hid (show chgL 2 vs ls x = [] by unfold chgL; rw [if_pos (by rw [hE]; exact he)])
    rw [hE]
    have e1 : (ccErr vs ls x == 0) = false := by rw [beq_eq_false_iff_ne]; exact he
    have e2 : (ccErr vs ls x != 0) = true := by rw [bne_iff_ne]; exact he
    generalize ccErr vs ls x = z at hcc e1 e2 ⊢
    have HC := Lib.hid hcc
    clear hcc he hE hb1 h hbx
    go_enter Try.func27, Try.ntmps27
    go_wp2_with fail
    rw [← hW]
    clear hW
    refine (HC.out).mono ?_
    rintro e w2 ⟨rfl, hb⟩
    have HB2 := Lib.hid hb
    obtain ⟨k0, k1⟩ := HBX.out.cells HB2.out
    obtain ⟨r0, r1⟩ := HBX.out.rcells HB2.out
    have f0 := HBX.out.fz HB2.out
    clear hb
    go_wp2
    exact bodyPost_ret (v := .tuple #[cfV none 0 0 none 0 0, .int .i64 z]) (Kd.results_cell_tmp (p := 4) (q := 5) rfl _ _ (w.heap.size + 1) 24 #[.slice none 0 0, .slice none 0 0] (0, 0) _ rfl (HBX.out.set HB2.out _ _) Try.underlying24 conf_size) rfl (give_err HBX.out HB2.out HV.out HL.out)
end Go.Proofs.Ythocmnfmialcaaa.Cn

/-! The package's Leave, as a contract of a call. Written by gencn2.py. -/
namespace Go.Proofs.Ythocmnfmialcaaa.Cn
open Go.RowKit Go.ChangeAt By CoP Co Mo Kd Go.Shelf
variable {w W w' : World} {A A2 : Option Addr} {n c m c2 : Nat} {vs ls : List Int}
set_option maxHeartbeats 2000000 in
theorem leave_any (h : CfAt w (Old w) A n c A2 m c2 vs ls) (x : Int) : Calls Try.prog 26 #[cfV A n c A2 m c2, .int .i64 x] w (GivesC NewF (chgE 3 vs ls x) (chgV 3 vs ls x) (chgL 3 vs ls x) w) := by
  obtain ⟨W, hW⟩ : ∃ W, W = (w.alloc (.cells #[.slice A n c, .slice A2 m c2] 24)).alloc (.cells #[.slice none 0 0, .slice none 0 0] 24) := ⟨_, rfl⟩
  have hbx : Boxes w W A n c A2 m c2 := by rw [hW]; exact boxes w A n c A2 m c2
  have hb1 := hbx.below
  have hcc := checkChange_any (h.below hb1) x
  have HBX := Lib.hid hbx
  obtain ⟨k0, k1⟩ := hbx.cells (Below.refl _ _)
  obtain ⟨r0, r1⟩ := hbx.rcells (Below.refl _ _)
  have f0 := hbx.fz (Below.refl _ _)
  by_cases he : ccErr vs ls x = 0
  · obtain ⟨hs, hx1, hx2⟩ := ccErr_zero he
    obtain ⟨hv16, hl16⟩ := below_sound hs
    rw [he] at hcc
    have hmem := fun w' (hb : Below W.heap.size W w') => isMember_any (h.below (By.ext hb1 hb)) x
    by_cases hm : x ∈ vs ∨ x ∈ ls
    · by_cases h0 : (woL x vs).length = 0
      · have hE : chgE 3 vs ls x = 15 := by unfold chgE; rw [if_neg (by rw [he]; decide), if_neg (by decide), if_neg (by decide), if_neg (by exact not_not_intro hm), if_pos h0]
        have HV := Lib.hid (show chgV 3 vs ls x = [] by unfold chgV; rw [if_pos (by rw [hE]; decide)])
        have HL := Lib.hid (show chgL 3 vs ls x = [] by unfold chgL; rw [if_pos (by rw [hE]; decide)])
        rw [hE]
        have hd : (decide (x ∈ vs) || decide (x ∈ ls)) = true := by simpa using hm
        rw [hd] at hmem
        have hrv := fun w' (hb : Below W.heap.size W w') => without_any A n c w'.heap.size vs h.hn (by have := h.nv; omega) x w' (Nat.le_refl _) (h.below (By.ext hb1 hb)).v.lies
        generalize woL x vs = rv at hrv h0
        have z1 : ((rv.length : Int) == 0) = true := by rw [beq_iff_eq]; omega
        have z2 : (rv.length == 0) = true := by rw [beq_iff_eq]; exact h0
        have HM := Lib.hid hmem
        have HC := Lib.hid hcc
        have HRV := Lib.hid hrv
        clear hcc he hE hb1 h hbx hs hx1 hx2 hv16 hl16 hm hd hmem hrv
        go_enter Try.func26, Try.ntmps26
        go_wp2_with fail
        rw [← hW]
        clear hW
        refine (HC.out).mono ?_
        rintro e w2 ⟨rfl, hb⟩
        have HB2 := Lib.hid hb
        obtain ⟨k0, k1⟩ := HBX.out.cells HB2.out
        obtain ⟨r0, r1⟩ := HBX.out.rcells HB2.out
        have f0 := HBX.out.fz HB2.out
        clear hb
        go_wp2_with fail
        refine (HM.out _ HB2.out).mono ?_
        rintro e w3 ⟨rfl, hb⟩
        have HB3 := Lib.hid (By.ext HB2.out hb)
        obtain ⟨k0, k1⟩ := HBX.out.cells HB3.out
        obtain ⟨r0, r1⟩ := HBX.out.rcells HB3.out
        have f0 := HBX.out.fz HB3.out
        clear hb
        go_wp2_with fail
        refine (HRV.out _ HB3.out).mono ?_
        rintro e w4 ⟨A4, c4, rfl, -, -, hb⟩
        have HB4 := Lib.hid (By.ext HB3.out hb)
        obtain ⟨k0, k1⟩ := HBX.out.cells HB4.out
        obtain ⟨r0, r1⟩ := HBX.out.rcells HB4.out
        have f0 := HBX.out.fz HB4.out
        clear hb
        go_wp2
        exact bodyPost_ret (v := .tuple #[cfV none 0 0 none 0 0, .int .i64 15]) (Kd.results_cell_tmp (p := 4) (q := 5) rfl _ _ (w.heap.size + 1) 24 #[.slice none 0 0, .slice none 0 0] (0, 0) _ rfl (HBX.out.set HB4.out _ _) Try.underlying24 conf_size) rfl (give_err HBX.out HB4.out HV.out HL.out)
      · have hE : chgE 3 vs ls x = 0 := by unfold chgE; rw [if_neg (by rw [he]; decide), if_neg (by decide), if_neg (by decide), if_neg (by exact not_not_intro hm), if_neg h0]
        have hV : chgV 3 vs ls x = woL x vs := by unfold chgV; rw [if_neg (by rw [hE]; decide), if_neg (by decide), if_neg (by decide)]
        have hL : chgL 3 vs ls x = woL x ls := by unfold chgL; rw [if_neg (by rw [hE]; decide), if_neg (by decide)]
        rw [hE, hV, hL]
        have hd : (decide (x ∈ vs) || decide (x ∈ ls)) = true := by simpa using hm
        rw [hd] at hmem
        have hrv := fun w' (hb : Below W.heap.size W w') => without_any A n c w'.heap.size vs h.hn (by have := h.nv; omega) x w' (Nat.le_refl _) (h.below (By.ext hb1 hb)).v.lies
        have hrl := fun w' (hb : Below W.heap.size W w') => without_any A2 m c2 w'.heap.size ls h.hm (by have := h.nl; omega) x w' (Nat.le_refl _) (h.below (By.ext hb1 hb)).l.lies
        have HSM := Lib.hid (show (putConf (woL x vs) (woL x ls)).length ≤ 9437184 from putConf_small (by have := woL_len x vs; omega) (by have := woL_len x ls; omega))
        generalize woL x vs = rv at hrv h0 HSM ⊢
        generalize woL x ls = rl at hrl HSM ⊢
        have z1 : ((rv.length : Int) == 0) = false := by rw [beq_eq_false_iff_ne]; omega
        have z2 : (rv.length == 0) = false := by rw [beq_eq_false_iff_ne]; exact h0
        have HM := Lib.hid hmem
        have HC := Lib.hid hcc
        have HRV := Lib.hid hrv
        have HRL := Lib.hid hrl
        clear hcc he hE hb1 h hbx hs hx1 hx2 hv16 hl16 hm hd hmem hrv hrl hV hL h0
        go_enter Try.func26, Try.ntmps26
        go_wp2_with fail
        rw [← hW]
        clear hW
        refine (HC.out).mono ?_
        rintro e w2 ⟨rfl, hb⟩
        have HB2 := Lib.hid hb
        obtain ⟨k0, k1⟩ := HBX.out.cells HB2.out
        obtain ⟨r0, r1⟩ := HBX.out.rcells HB2.out
        have f0 := HBX.out.fz HB2.out
        clear hb
        go_wp2_with fail
        refine (HM.out _ HB2.out).mono ?_
        rintro e w3 ⟨rfl, hb⟩
        have HB3 := Lib.hid (By.ext HB2.out hb)
        obtain ⟨k0, k1⟩ := HBX.out.cells HB3.out
        obtain ⟨r0, r1⟩ := HBX.out.rcells HB3.out
        have f0 := HBX.out.fz HB3.out
        clear hb
        go_wp2_with fail
        refine (HRV.out _ HB3.out).mono ?_
        rintro e w4 ⟨A4, c4, rfl, hc4, hl4, hb⟩
        have HO4 := Lib.hid hl4
        have HC4 := Lib.hid hc4
        have HB4 := Lib.hid (By.ext HB3.out hb)
        obtain ⟨k0, k1⟩ := HBX.out.cells HB4.out
        clear hb hc4 hl4
        go_wp2_with fail
        refine (HRL.out _ HB4.out).mono ?_
        rintro e w5 ⟨A5, c5, rfl, hc5, hl5, hb⟩
        have HO5 := Lib.hid hl5
        have HC5 := Lib.hid hc5
        have HB45 := Lib.hid hb
        have HB5 := Lib.hid (By.ext HB4.out hb)
        obtain ⟨r0, r1⟩ := HBX.out.rcells HB5.out
        have f0 := HBX.out.fz HB5.out
        clear hb hc5 hl5
        go_wp2
        exact bodyPost_ret (v := .tuple #[cfV A4 rv.length c4 A5 rl.length c5, .int .i64 0]) (Kd.results_cell_tmp (p := 4) (q := 5) rfl _ _ (w.heap.size + 1) 24 #[.slice A4 rv.length c4, .slice A5 rl.length c5] (0, 0) _ rfl (HBX.out.set HB5.out _ _) Try.underlying24 conf_size) rfl (give_two HBX.out HB3.out HB4.out HB5.out HO4.out HB45.out HO5.out HC4.out HC5.out HSM.out)
    · have hE : chgE 3 vs ls x = 8 := by unfold chgE; rw [if_neg (by rw [he]; decide), if_neg (by decide), if_neg (by decide), if_pos hm]
      have HV := Lib.hid (show chgV 3 vs ls x = [] by unfold chgV; rw [if_pos (by rw [hE]; decide)])
      have HL := Lib.hid (show chgL 3 vs ls x = [] by unfold chgL; rw [if_pos (by rw [hE]; decide)])
      rw [hE]
      have hd : (decide (x ∈ vs) || decide (x ∈ ls)) = false := by rw [decide_eq_false (fun h => hm (.inl h)), decide_eq_false (fun h => hm (.inr h))]; rfl
      rw [hd] at hmem
      have HM := Lib.hid hmem
      have HC := Lib.hid hcc
      clear hcc he hE hb1 h hbx hs hx1 hx2 hv16 hl16 hm hd hmem
      go_enter Try.func26, Try.ntmps26
      go_wp2_with fail
      rw [← hW]
      clear hW
      refine (HC.out).mono ?_
      rintro e w2 ⟨rfl, hb⟩
      have HB2 := Lib.hid hb
      obtain ⟨k0, k1⟩ := HBX.out.cells HB2.out
      obtain ⟨r0, r1⟩ := HBX.out.rcells HB2.out
      have f0 := HBX.out.fz HB2.out
      clear hb
      go_wp2_with fail
      refine (HM.out _ HB2.out).mono ?_
      rintro e w3 ⟨rfl, hb⟩
      have HB3 := Lib.hid (By.ext HB2.out hb)
      obtain ⟨k0, k1⟩ := HBX.out.cells HB3.out
      obtain ⟨r0, r1⟩ := HBX.out.rcells HB3.out
      have f0 := HBX.out.fz HB3.out
      clear hb
      go_wp2
      exact bodyPost_ret (v := .tuple #[cfV none 0 0 none 0 0, .int .i64 8]) (Kd.results_cell_tmp (p := 4) (q := 5) rfl _ _ (w.heap.size + 1) 24 #[.slice none 0 0, .slice none 0 0] (0, 0) _ rfl (HBX.out.set HB3.out _ _) Try.underlying24 conf_size) rfl (give_err HBX.out HB3.out HV.out HL.out)
  · have hE : chgE 3 vs ls x = ccErr vs ls x := by unfold chgE; rw [if_pos he]
    have HV := Lib.hid (show chgV 3 vs ls x = [] by unfold chgV; rw [if_pos (by rw [hE]; exact he)])
    have HL := Lib.hid (show chgL 3 vs ls x = [] by unfold chgL; rw [if_pos (by rw [hE]; exact he)])
    rw [hE]
    have e1 : (ccErr vs ls x == 0) = false := by rw [beq_eq_false_iff_ne]; exact he
    have e2 : (ccErr vs ls x != 0) = true := by rw [bne_iff_ne]; exact he
    generalize ccErr vs ls x = z at hcc e1 e2 ⊢
    have HC := Lib.hid hcc
    clear hcc he hE hb1 h hbx
    go_enter Try.func26, Try.ntmps26
    go_wp2_with fail
    rw [← hW]
    clear hW
    refine (HC.out).mono ?_
    rintro e w2 ⟨rfl, hb⟩
    have HB2 := Lib.hid hb
    obtain ⟨k0, k1⟩ := HBX.out.cells HB2.out
    obtain ⟨r0, r1⟩ := HBX.out.rcells HB2.out
    have f0 := HBX.out.fz HB2.out
    clear hb
    go_wp2
    exact bodyPost_ret (v := .tuple #[cfV none 0 0 none 0 0, .int .i64 z]) (Kd.results_cell_tmp (p := 4) (q := 5) rfl _ _ (w.heap.size + 1) 24 #[.slice none 0 0, .slice none 0 0] (0, 0) _ rfl (HBX.out.set HB2.out _ _) Try.underlying24 conf_size) rfl (give_err HBX.out HB2.out HV.out HL.out)
end Go.Proofs.Ythocmnfmialcaaa.Cn
