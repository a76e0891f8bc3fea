/- The reference's Append to a log, as a contract of a call. Written by genrgo.py. -/
import Derived.Test.YtdbaajgkcjpnoaaGreatQe
namespace Go.Proofs.YtdbaajgkcjpnoaaGreat.Rg
open Go.RowKit By CoP Co Mo Kd

def appV (a : Nat × Nat × Int) : Value := .tuple #[.int .u64 (a.1 : Int), .int .u64 (a.2.1 : Int), .int .i64 a.2.2]
/-- What an append on the reference comes to. -/
def RApp (q : Nat) (s : Lg) (i t : Nat) (l : List En) (T D : Nat → Prop) (w : World) (e : Ending) (w' : World) : Prop := e = .returned (appV (appA s i t l)) ∧ RStep q (appS s i t l) T D w w'
theorem new_at {s : Lg} : ∀ {l : List En} {k : Nat} {x : En}, (∀ m y, m < k → l[m]? = some y → fits s y.ix y.tm = true) → l[k]? = some x → fits s x.ix x.tm = false → newOnes s l = l.drop k
  | [], k, x, _, hx, _ => by simp at hx
  | e :: r, 0, x, _, hx, hf => by
    obtain rfl : e = x := by simpa using hx
    unfold newOnes
    rw [List.dropWhile_cons_of_neg (p := fun e : En => fits s e.ix e.tm) (by show ¬ fits s e.ix e.tm = true; rw [hf]; decide), List.drop_zero]
  | e :: r, k + 1, x, hp, hx, hf => by
    have he : fits s e.ix e.tm = true := hp 0 e (Nat.succ_pos _) rfl
    have ih := new_at (s := s) (l := r) (k := k) (x := x) (fun m y hm hy => hp (m + 1) y (by omega) (by simpa using hy)) (by simpa using hx) hf
    unfold newOnes at ih ⊢
    rw [List.dropWhile_cons_of_pos (p := fun e : En => fits s e.ix e.tm) he, List.drop_succ_cons]
    exact ih
theorem append_at {s : Lg} {l : List En} {k : Nat} {x : En} (hp : ∀ m y, m < k → l[m]? = some y → fits s y.ix y.tm = true) (hx : l[k]? = some x) (hf : fits s x.ix x.tm = false) :
    appendL s l = ⟨s.ix, s.tm, (s.es.filter fun y => decide (y.ix < x.ix)) ++ l.drop k⟩ ∧ fromA s l = x.ix := by
  have hn := new_at hp hx hf
  obtain ⟨hk, he⟩ := List.getElem?_eq_some_iff.1 hx
  have hd : l.drop k = x :: l.drop (k + 1) := by rw [List.drop_eq_getElem_cons hk, he]
  unfold appendL fromA
  rw [hn, hd]
  exact ⟨rfl, rfl⟩
section
variable {q : Nat} {s : Lg} {v : Value} {i t : Nat} {l : List En} {T D : Nat → Prop} {w w' : World}
theorem RStep.same (h : RefIs w q s v T D) (hb : Below w.heap.size w w') : RStep q s T D w w' := ⟨v, T, h.below hb, fun _ e => .inl e, Kept.of_below hb⟩
theorem RApp.form (h : RefIs w q s v T D) (ho : okL i t l = false) (hb : Below w.heap.size w w') : RApp q s i t l T D w (.returned (.tuple #[.int .u64 0, .int .u64 0, .int .i64 2])) w' := by
  unfold RApp appA appS
  rw [ho, if_neg (by decide), if_neg (fun e => by cases e.1)]
  exact ⟨rfl, RStep.same h hb⟩
theorem RApp.gap (h : RefIs w q s v T D) (ho : okL i t l = true) (hf : fits s i t = false) (hb : Below w.heap.size w w') : RApp q s i t l T D w (.returned (.tuple #[.int .u64 0, .int .u64 0, .int .i64 12])) w' := by
  unfold RApp appA appS
  rw [ho, hf, if_pos rfl, if_neg (by decide), if_neg (fun e => by cases e.2)]
  exact ⟨rfl, RStep.same h hb⟩
theorem RApp.old (h : RefIs w q s v T D) (ho : okL i t l = true) (hf : fits s i t = true) (hn : ∀ m y, m < l.length → l[m]? = some y → fits s y.ix y.tm = true) (hb : Below w.heap.size w w') : RApp q s i t l T D w (.returned (.tuple #[.int .u64 ((i + l.length : Nat) : Int), .int .u64 0, .int .i64 0])) w' := by
  have h0 : newOnes s l = [] := new_of_all (fun e he => by
    obtain ⟨m, hm⟩ := List.mem_iff_getElem?.1 he
    exact hn m e (List.getElem?_eq_some_iff.1 hm).1 hm)
  unfold RApp appA appS
  rw [ho, hf, if_pos rfl, if_pos rfl, if_pos ⟨rfl, rfl⟩, appendL_none h0]
  refine ⟨?_, RStep.same h hb⟩
  unfold fromA
  rw [h0]; rfl
theorem RApp.new {k : Nat} {x : En} {w' : World} (h : RefIs w q s v T D) (ho : okL i t l = true) (hf : fits s i t = true) (hp : ∀ m y, m < k → l[m]? = some y → fits s y.ix y.tm = true) (hx : l[k]? = some x) (hfx : fits s x.ix x.tm = false)
    (hm : RMid q s.ix s.tm T D ((s.es.filter fun y => decide (y.ix < x.ix)) ++ (l.drop k).take (l.length - k)) w w') : RApp q s i t l T D w (.returned (.tuple #[.int .u64 ((i + l.length : Nat) : Int), .int .u64 (x.ix : Int), .int .i64 0])) w' := by
  obtain ⟨e1, e2⟩ := append_at hp hx hfx
  have hok := h.ok.append ho hf
  rw [List.take_of_length_le (by rw [List.length_drop]; exact Nat.le_refl _)] at hm
  unfold RApp appA appS
  rw [ho, hf, if_pos rfl, if_pos rfl, if_pos ⟨rfl, rfl⟩, e1, e2]
  rw [e1] at hok
  exact ⟨rfl, hm.done h.ing h.lt h.dat hok⟩
end
theorem RMid.push {q a b : Nat} {T D : Nat → Prop} {es : List En} {w wr wa w5 : World} {v1 v5 : Value} {rows : List Value} {x : En} {Ad : Option Addr} {cd : Nat} (hq : T q) (hT : ∀ b, T b → b < w.heap.size) (hD : ∀ b, D b → b < w.heap.size ∧ ¬ T b)
    (hv : ∀ b, v1.ownBlock = some b → (T b ∨ w.heap.size ≤ b) ∧ b ≠ q) (hk : Kept T w wr) (hb : Below wr.heap.size wr wa) (hh : Holds wr D rows es) (hr : rows.length = es.length * 5) (he : EnV wr D x Ad cd)
    (hrow : w5.heap[q]? = some (.cells #[.int .u64 (a : Int), .int .u64 (b : Int), v1] tRef (0, 0))) (ho : w5.ownsRow 0 tApi 5 v5 (es.length + 1) (rows ++ entV x Ad cd)) (hg : wa.grownBy w5 v1.ownBlock) (hv5 : ∀ b, v5.ownBlock = some b → v1.ownBlock = some b ∨ wa.heap.size ≤ b) :
    RMid q a b T D (es ++ [x]) w (w5.setCell ⟨q, 2, none⟩ v5) := by
  have hz1 := hk.size
  have hz2 := hb.size
  have hz3 := hg.size
  have hqlt := hT q hq
  have hne : ∀ b, v5.ownBlock = some b → (T b ∨ w.heap.size ≤ b) ∧ b ≠ q := fun b hb => by
    rcases hv5 b hb with h1 | h1
    · exact hv b h1
    · exact ⟨.inr (by omega), by omega⟩
  have h5 : Kept T w w5 := (hk.step (Kept.of_below (M := T) hb) (fun b _ e => e)).step (M1 := fun b => v1.ownBlock = some b) ⟨hg.os, hg.tape, hg.output, hg.size, fun b hb hn => hg.block b hb (fun e => hn e.symm)⟩ (fun b hb e => by
    rcases (hv b e).1 with h | h
    · exact h
    · omega)
  have hDold : ∀ b, D b → (w5.setCell ⟨q, 2, none⟩ v5).heap[b]? = wr.heap[b]? := fun d hd => by
    have h1 := hD d hd
    rw [Below.heap_setCell w5 ⟨q, 2, none⟩ v5 d (fun e => h1.2 (e ▸ hq))]
    exact (h5.block d h1.1 h1.2).trans (hk.block d h1.1 h1.2).symm
  refine ⟨v5, rows ++ entV x Ad cd, heap_setCell_same w5 q 2 _ _ _ hrow, ?_, (hh.keep hDold (fun _ e => e)).snoc hr (he.keep hDold (fun _ e => e)), hne, h5.setCell (fun _ => hq) v5⟩
  rw [List.length_append, List.length_singleton]
  exact ownsRow_keep ho (fun b hb => Below.heap_setCell w5 ⟨q, 2, none⟩ v5 b (hne b hb).2)
theorem RMid.kept {q : Nat} {s : Lg} {v : Value} {T D : Nat → Prop} {es : List En} {w wr : World} {v1 : Value} {rows : List Value} (h : RefIs w q s v T D) (hb : Below w.heap.size w wr) (ho : wr.ownsRow w.heap.size tApi 5 v1 es.length rows) (hh : Holds wr D rows es) :
    RMid q s.ix s.tm T D es w (wr.setCell ⟨q, 2, none⟩ v1) := by
  have hq := h.lt q h.ing
  refine ⟨v1, rows, heap_setCell_same wr q 2 _ _ _ ((hb.block q hq).trans h.row), ?_, hh.keep (fun b hb => Below.heap_setCell wr ⟨q, 2, none⟩ v1 b (fun e => (h.dat b hb).2 (e ▸ h.ing))) (fun _ e => e), fun b e => ⟨.inr (ownsRow_lt ho e).1, fun e2 => by have := (ownsRow_lt ho e).1; omega⟩, (Kept.of_below (M := T) hb).setCell (fun _ => h.ing) _⟩
  exact ownsRow_base (ownsRow_keep ho (fun b e => Below.heap_setCell wr ⟨q, 2, none⟩ v1 b (fun e2 => by have := (ownsRow_lt ho e).1; have e2 : b = q := e2; omega))) (Nat.zero_le _)
theorem RMid.below {q a b : Nat} {T D : Nat → Prop} {es : List En} {w wr wz : World} (h : RMid q a b T D es w wr) (hD : ∀ b, D b → b < w.heap.size ∧ ¬ T b) (hb : Below wr.heap.size wr wz) : RMid q a b T D es w wz := by
  obtain ⟨v1, rows, h1, h2, h3, h4, h5⟩ := h
  exact ⟨v1, rows, (hb.block q (row_lt h1)).trans h1, ownsRow_keep h2 (fun b hb' => hb.block b (ownsRow_lt h2 hb').2), h3.keep (fun b hb' => hb.block b (Nat.lt_of_lt_of_le (hD b hb').1 h5.size)) (fun _ e => e), h4, h5.step (Kept.of_below (M := T) hb) (fun _ _ e => e)⟩
/-- The entries below place i, of the first so many of the log. -/
def underTake (s : Lg) (i j : Nat) : List En := (s.es.take j).filter fun e => decide (e.ix < i)
theorem underTake_step (s : Lg) (i : Nat) {j : Nat} {x : En} (hx : s.es[j]? = some x) : underTake s i (j + 1) = if x.ix < i then underTake s i j ++ [x] else underTake s i j := by
  unfold underTake
  rw [List.take_add_one, hx, Option.toList_some, List.filter_append]
  by_cases h : x.ix < i
  · rw [if_pos h, List.filter_cons_of_pos (by simpa using h), List.filter_nil]
  · rw [if_neg h, List.filter_cons_of_neg (by simpa using h), List.filter_nil, List.append_nil]
theorem underTake_len (s : Lg) (i j : Nat) : (underTake s i j).length ≤ j := by
  unfold underTake
  refine Nat.le_trans (List.length_filter_le _ _) ?_
  rw [List.length_take]
  exact Nat.min_le_left _ _
/-- The second loop's state. -/
def Mid2 (q : Nat) (s : Lg) (l : List En) (T D : Nat → Prop) (w : World) (j F : Nat) (wr : World) : Prop :=
  (F = 0 ∧ Below w.heap.size w wr ∧ ∀ m y, m < j → l[m]? = some y → fits s y.ix y.tm = true) ∨
  (∃ k x, k < j ∧ l[k]? = some x ∧ F = x.ix ∧ fits s x.ix x.tm = false ∧ (∀ m y, m < k → l[m]? = some y → fits s y.ix y.tm = true) ∧ RMid q s.ix s.tm T D ((s.es.filter fun y => decide (y.ix < x.ix)) ++ (l.drop k).take (j - k)) w wr)
theorem okL_cons2 (i t : Nat) (e : En) (r : List En) : okL i t (e :: r) = ((eB e && decide (e.ix = i + 1)) && (decide (t ≤ e.tm) && okL e.ix e.tm r)) := rfl
theorem take_drop_snoc {l : List En} {k j : Nat} {x : En} (hk : k ≤ j) (hx : l[j]? = some x) : (l.drop k).take (j + 1 - k) = (l.drop k).take (j - k) ++ [x] := by
  rw [show j + 1 - k = (j - k) + 1 by omega, List.take_add_one, List.getElem?_drop, show k + (j - k) = j by omega, hx]; rfl
set_option maxRecDepth 100000 in
set_option maxHeartbeats 4000000 in
theorem rappend_any {q : Nat} {s : Lg} {v : Value} {T D : Nat → Prop} (w : World) (h : RefIs w q s v T D) (i t : Nat) (hi : i < 18446744073709551616) {A : Option Addr} {n c : Nat} {l : List En} {most : Int}
    (hl : (listK entryK most).rep w D [.slice A n c] (.agg (l.map eD))) (hn : s.es.length + l.length ≤ 1073741823) :
    Calls Tryz.prog 27 #[ptr q, .int .u64 (i : Int), .int .u64 (t : Int), .slice A n c] w (RApp q s i t l T D w) := by
  obtain ⟨rfl, hnc, hn47, hr⟩ := ents_at hl
  obtain ⟨m, hm⟩ : ∃ m, m = l.length := ⟨_, rfl⟩
  have HR := Lib.hid hr
  have HM := Lib.hid hm
  have HH := Lib.hid h
  have HN := Lib.hid hn
  have HDT := Lib.hid h.dat
  have HI := Lib.hid hi
  obtain ⟨Av, cv, rfl⟩ := h.form
  obtain ⟨MM, hMM⟩ : ∃ MM, MM = s.es.length := ⟨_, rfl⟩
  have HMM := Lib.hid hMM
  have hMM1 : MM ≤ 1073741823 := by omega
  rw [← hm] at hn47 ⊢
  rw [← hMM] at HH
  clear hl hr hm hnc h hn hMM
  go_enter Tryz.func27, Tryz.ntmps27
  go_wp2
  go_loopw [11, 12] (fun a kk wr => ∃ (j p : Nat), j ≤ m ∧ kk = .int .i64 (j : Int) ∧ a = .int .u64 (p : Int) ∧ i + j < 18446744073709551616 ∧ Below w.heap.size w wr ∧ okL i t l = okL (i + j) p (l.drop j)) (fun _ kk _ => m - (intOf kk).toNat)
  case atStart => exact ⟨0, t, Nat.zero_le _, rfl, rfl, by have := HI.out; omega, Below.refl _ _, rfl⟩
  case round =>
    obtain ⟨j, p, hj, rfl, rfl, hij, hbr, heq⟩ := hrel
    have HBR := Lib.hid hbr
    by_cases hjm : j < m
    · obtain ⟨x, hx⟩ : ∃ x, l[j]? = some x := ⟨_, List.getElem?_eq_getElem (by have := HM.out; omega)⟩
      obtain ⟨b, o, rfl, hb, hcell⟩ := HR.out (by have := HM.out; omega)
      obtain ⟨Ad, cd, ⟨e0, e1, e2, e3, e4⟩, hv⟩ := hcell j x hx
      have hbw : b < w.heap.size := (HDT.out b hb).1
      have HDR := Lib.hid (show l.drop j = x :: l.drop (j + 1) by
        obtain ⟨hk, he⟩ := List.getElem?_eq_some_iff.1 hx
        rw [List.drop_eq_getElem_cons hk, he])
      have x0 := (hbr.cell (p := ⟨b, o + j * 5, none⟩) hbw).trans e0
      have x1 := (hbr.cell (p := ⟨b, o + j * 5 + 1, none⟩) hbw).trans e1
      have x2 := (hbr.cell (p := ⟨b, o + j * 5 + 2, none⟩) hbw).trans e2
      have x3 := (hbr.cell (p := ⟨b, o + j * 5 + 3, none⟩) hbw).trans e3
      have x4 := (hbr.cell (p := ⟨b, o + j * 5 + 4, none⟩) hbw).trans e4
      have HX := Lib.hid (show ∀ w', Below w.heap.size w w' → w'.cell? ⟨b, o + j * 5, none⟩ = some (.int .u64 (x.ix : Int)) ∧ w'.cell? ⟨b, o + j * 5 + 1, none⟩ = some (.int .u64 (x.tm : Int)) from fun w' hb' => ⟨(hb'.cell (p := ⟨b, o + j * 5, none⟩) hbw).trans e0, (hb'.cell (p := ⟨b, o + j * 5 + 1, none⟩) hbw).trans e1⟩)
      have HEQ := Lib.hid (show okL i t l = ((eB x && decide (x.ix = i + j + 1)) && (decide (p ≤ x.tm) && okL x.ix x.tm (l.drop (j + 1)))) by rw [heq, HDR.out, okL_cons2])
      have hv' : EnV wr (Old wr) x Ad cd := (hv.keep (fun b hb => hbr.block b (HDT.out b hb).1) (fun b hb => Nat.lt_of_lt_of_le (HDT.out b hb).1 hbr.size))
      have HE := Lib.hid (show Calls Tryz.prog 45 #[.agg #[.int .u64 (x.ix : Int), .int .u64 (x.tm : Int), .int .i64 x.kd, .int .i64 x.dl, .slice Ad x.da.length cd]] wr (Says (eB x) wr) from entryOK_any wr x.ix x.tm x.kd x.dl Ad x.da _ cd rfl hv'.cap hv'.few hv'.lies.lies)
      have HXV := Lib.hid hv.ix
      have hj1 : (j : Int) < (m : Int) := by omega
      obtain ⟨P, hP⟩ : ∃ P : Int, P = (i : Int) + (j : Int) := ⟨_, rfl⟩
      have W1 : IntKind.u64.wrap ((i : Int) + (j : Int)) = P := by rw [← hP]; exact wrap_u (by omega) (by omega)
      clear hcell hx e0 e1 e2 e3 e4 hv hv' hbr heq hb
      by_cases hB : eB x = true
      · have HB := Lib.hid (eB_ok hB)
        rw [hB] at HE
        have W2 : IntKind.u64.wrap ((x.ix : Int) - 1) = (x.ix : Int) - 1 := wrap_u (by have := HB.out.ix; omega) (by have := HB.out.ix; omega)
        by_cases h1 : x.ix = i + j + 1
        · have hne : (x.ix : Int) - 1 = P := by omega
          have W3 : IntKind.u64.wrap P = P := by rw [← hne]; exact W2
          have hne2 : (((x.ix : Int) - 1) == P) = true := beq_iff_eq.2 hne
          by_cases h2 : p ≤ x.tm
          · have h2' : ¬ (x.tm : Int) < (p : Int) := by omega
            have HN2 := Lib.hid (show okL i t l = okL (i + (j + 1)) x.tm (l.drop (j + 1)) by rw [HEQ.out, hB, decide_eq_true h1, decide_eq_true h2, show i + (j + 1) = x.ix by omega]; rfl)
            have hij' : i + (j + 1) < 18446744073709551616 := by have := HB.out.ix.2; omega
            clear h1 h2 hB hP
            go_wp2_with (go_at_call 45; refine HE.out.mono ?_; rintro e w2 ⟨rfl, hb2⟩; have HB2 := Lib.hid (By.ext HBR.out hb2); obtain ⟨y0, y1⟩ := HX.out w2 HB2.out; clear hb2)
            go_roundw
            case rel => exact ⟨j + 1, x.tm, by omega, by go_num, rfl, hij', HB2.out, HN2.out⟩
            case measure => simp [intOf]; omega
          · have h2' : (x.tm : Int) < (p : Int) := by omega
            have HN2 := Lib.hid (show okL i t l = false by rw [HEQ.out, hB, decide_eq_true h1, decide_eq_false h2]; rfl)
            clear h1 h2 hB hP
            go_wp2_with (go_at_call 45; refine HE.out.mono ?_; rintro e w2 ⟨rfl, hb2⟩; have HB2 := Lib.hid (By.ext HBR.out hb2); obtain ⟨y0, y1⟩ := HX.out w2 HB2.out; clear hb2)
            go_ret3
            exact RApp.form HH.out HN2.out HB2.out
        · have hne : (((x.ix : Int) - 1) == P) = false := beq_eq_false_iff_ne.2 (by have := HB.out.ix.1; omega)
          have hne2 : (((x.ix : Int) - 1) != P) = true := by unfold bne; rw [hne]; rfl
          have HN2 := Lib.hid (show okL i t l = false by rw [HEQ.out, hB, decide_eq_false h1]; rfl)
          clear h1 hB hP
          go_wp2_with (go_at_call 45; refine HE.out.mono ?_; rintro e w2 ⟨rfl, hb2⟩; have HB2 := Lib.hid (By.ext HBR.out hb2); obtain ⟨y0, y1⟩ := HX.out w2 HB2.out; clear hb2)
          go_ret3
          exact RApp.form HH.out HN2.out HB2.out
      · have hB' := (Bool.not_eq_true _).mp hB
        rw [hB'] at HE
        have HN2 := Lib.hid (show okL i t l = false by rw [HEQ.out, hB']; rfl)
        clear hB hB' hP
        go_wp2_with (go_at_call 45; refine HE.out.mono ?_; rintro e w2 ⟨rfl, hb2⟩; have HB2 := Lib.hid (By.ext HBR.out hb2); obtain ⟨y0, y1⟩ := HX.out w2 HB2.out; clear hb2)
        go_ret3
        exact RApp.form HH.out HN2.out HB2.out
    · have hjm' : j = m := by omega
      subst hjm'
      have HOKL := Lib.hid (show okL i t l = true by rw [heq, List.drop_of_length_le (by have := HM.out; omega)]; rfl)
      have HFC := Lib.hid (rfits_any wr (HH.out.below hbr) i t)
      clear heq hbr
      cases hf : fits s i t with
      | false =>
        rw [hf] at HFC
        have HF := Lib.hid hf
        clear hf
        go_wp2_with (go_at_call 16; refine HFC.out.mono ?_; rintro e w2 ⟨rfl, hb2⟩; have HB2 := Lib.hid (By.ext HBR.out hb2); clear hb2)
        go_ret3
        exact RApp.gap HH.out HOKL.out HF.out HB2.out
      | true =>
        rw [hf] at HFC
        have HF := Lib.hid hf
        clear hf
        go_wp2_with (go_at_call 16; refine HFC.out.mono ?_; rintro e w2 ⟨rfl, hb2⟩; have HB2 := Lib.hid (By.ext HBR.out hb2); clear hb2)
        go_loopw [13, 14] (fun a kk wr => ∃ (j2 F : Nat), j2 ≤ j ∧ kk = .int .i64 (j2 : Int) ∧ a = .int .u64 (F : Int) ∧ Mid2 q s l T D w j2 F wr) (fun _ kk _ => j - (intOf kk).toNat)
        case atStart => exact ⟨0, 0, Nat.zero_le _, rfl, rfl, .inl ⟨rfl, HB2.out, fun m y hm => absurd hm (Nat.not_lt_zero _)⟩⟩
        case round =>
          obtain ⟨j2, F, hj2, rfl, rfl, hmid2⟩ := hrel
          by_cases hjm : j2 < j
          · obtain ⟨x, hx⟩ : ∃ x, l[j2]? = some x := ⟨_, List.getElem?_eq_getElem (by have := HM.out; omega)⟩
            obtain ⟨b, o, rfl, hb, hcell⟩ := HR.out (by have := HM.out; omega)
            obtain ⟨Ad, cd, hea, hv⟩ := hcell j2 x hx
            have HEA := Lib.hid hea
            have HVX := Lib.hid hv
            have HDB := Lib.hid hb
            have HX := Lib.hid hx
            have hj1 : (j2 : Int) < (j : Int) := by omega
            have HLE0 := Lib.hid (underTake_len s x.ix s.es.length)
            have HCELL := Lib.hid (show ∀ (W : World), W.heap[b]? = w.heap[b]? → W.cell? ⟨b, o + j2 * 5, none⟩ = some (.int .u64 (x.ix : Int)) ∧ W.cell? ⟨b, o + j2 * 5 + 1, none⟩ = some (.int .u64 (x.tm : Int)) from fun W hbb => ⟨(World.cell?_of_block (w := w) (a := ⟨b, _, none⟩) hbb).trans hea.c0, (World.cell?_of_block (w := w) (a := ⟨b, _, none⟩) hbb).trans hea.c1⟩)
            have HXI := Lib.hid (show 1 ≤ x.ix ∧ x.ix ≤ 4611686018427387904 from (eB_ok ((okL_chain HOKL.out).2 x (List.mem_of_getElem? hx))).ix)
            clear hcell hea hv hb hx
            rcases hmid2 with ⟨rfl, hb2, hpre⟩ | ⟨k, y, hk, hy, hF, hfy, hpre, hmid⟩
            · -- all of them were there so far
              have HB3 := Lib.hid hb2
              have HPRE := Lib.hid hpre
              have HFX := Lib.hid (fun w' (hbw : Below w.heap.size w w') => rfits_any w' (HH.out.below hbw) x.ix x.tm)
              have hbD := HDT.out b HDB.out
              have HC14 := Lib.hid (show ∀ W, Below w.heap.size w W → W.cell? ⟨b, o + j2 * 5, none⟩ = some (.int .u64 (x.ix : Int)) ∧ W.cell? ⟨b, o + j2 * 5 + 1, none⟩ = some (.int .u64 (x.tm : Int)) from fun W hW => HCELL.out W (hW.block b hbD.1))
              clear hb2 hpre
              go_upto_region 14 with fail
              have HB4 := Lib.hid HB3.out.drew
              have HT1 := Lib.hid trivial
              cases hfx : fits s x.ix x.tm with
              | true =>
                rw [hfx] at HFX
                go_region_held3 (fun w' => w'.cell? ⟨b, o + j2 * 5, none⟩ = some (.int .u64 (x.ix : Int)) ∧ w'.cell? ⟨b, o + j2 * 5 + 1, none⟩ = some (.int .u64 (x.tm : Int)))
                  (first
                    | with_reducible assumption
                    | exact HC14.out _ HB4.out
                    | exact HC14.out _ HB5.out)
                  (first
                    | (go_at_call 16; clear HT1; refine (HFX.out _ HB4.out).mono ?_; rintro e wx ⟨rfl, hbx⟩
                       have HB5 := Lib.hid (By.ext HB4.out hbx)
                       clear hbx))
                go_wp2
                go_roundw
                case rel => exact ⟨j2 + 1, 0, by omega, by go_num, rfl, .inl ⟨rfl, HB5.out, fun m y hm hy => by
                  by_cases e : m = j2
                  · subst e
                    rw [HX.out] at hy
                    rw [← Option.some.inj hy]; exact hfx
                  · exact HPRE.out m y (by omega) hy⟩⟩
                case measure => simp [intOf]; omega
              | false =>
                rw [hfx] at HFX
                have HFX0 := Lib.hid hfx
                clear hfx
                go_region_held3 (fun w' => w'.cell? ⟨b, o + j2 * 5, none⟩ = some (.int .u64 (x.ix : Int)) ∧ w'.cell? ⟨b, o + j2 * 5 + 1, none⟩ = some (.int .u64 (x.tm : Int)))
                  (first
                    | with_reducible assumption
                    | exact HC14.out _ HB4.out
                    | exact HC14.out _ HB5.out)
                  (first
                    | (go_at_call 16; clear HT1; refine (HFX.out _ HB4.out).mono ?_; rintro e wx ⟨rfl, hbx⟩
                       have HB5 := Lib.hid (By.ext HB4.out hbx)
                       clear hbx))
                obtain ⟨a1, a2⟩ := HC14.out wx HB5.out
                go_wp2
                clear a1 a2
                go_loopw [15, 16] (fun sv kk wz => ∃ (j3 : Nat) (rows : List Value), j3 ≤ MM ∧ kk = .int .i64 (j3 : Int) ∧ Below w.heap.size w wz ∧ wz.ownsRow w.heap.size tApi 5 sv (underTake s x.ix j3).length rows ∧ Holds wz D rows (underTake s x.ix j3)) (fun _ kk _ => MM - (intOf kk).toNat)
                case atStart => exact ⟨0, [], Nat.zero_le _, rfl, HB5.out, World.ownsRow_nil _ _ _ _, Holds.nil _ _ _⟩
                case round =>
                  obtain ⟨j3, rows3, hj3, rfl, hbr3, hown3, hho3⟩ := hrel
                  have h5 := HH.out.below hbr3
                  obtain ⟨d0, d1, d2⟩ := h5.cells
                  obtain ⟨A0, c0, rfl⟩ := ownsRow_form hown3
                  have HBR3 := Lib.hid hbr3
                  have HOWN3 := Lib.hid hown3
                  have HHO3 := Lib.hid hho3
                  have HDD3 := Lib.hid (fun b hb => (h5.dat b hb).1)
                  have HTL := Lib.hid (underTake_len s x.ix j3)
                  by_cases hjm3 : j3 < MM
                  · obtain ⟨z, hz⟩ : ∃ z, s.es[j3]? = some z := ⟨_, List.getElem?_eq_getElem (by have := HMM.out; omega)⟩
                    have HST := Lib.hid (underTake_step s x.ix hz)
                    obtain ⟨bz, cz', Az, cz, hA, _, hbl, ⟨e0, e1, e2, e3, e4⟩, hvz⟩ := h5.ent hz
                    simp only [Value.slice.injEq] at hA
                    obtain ⟨rfl, -, -⟩ := hA
                    have HVZ := Lib.hid hvz
                    have hj31 : (j3 : Int) < (MM : Int) := by omega
                    clear h5 hz hvz hbr3 hown3 hho3 hbl
                    generalize hL : underTake s x.ix j3 = L at *
                    by_cases hge : z.ix < x.ix
                    · have hge1 : (z.ix : Int) < (x.ix : Int) := by omega
                      have HS2 := Lib.hid (show underTake s x.ix (j3 + 1) = L ++ [z] by rw [HST.out, if_pos hge])
                      clear hge
                      go_wp2_with (at_builtin; refine wpList_appG Tryz.underlying29 apiInfo rfl (by decide) (by decide) rfl (.tmp 110) (.tmp 118) rfl w.heap.size _ L.length rows3 rfl (ownsRow_keep HOWN3.out (fun q hq => heap_alloc_old _ _ (ownsRow_lt HOWN3.out hq).2)) (some ⟨wr.heap.size, 0, none⟩) 1 1 rfl (entV z Az cz) rfl (fun _ => ⟨_, rfl, fun j u hu => news_cells wr tApi (entV z Az cz) j u hu⟩) entV_one (by have := HTL.out; omega) (by rw [World.size_alloc]; have := HBR3.out.size; omega) ?_
                                   intro v' w' ho' hg' hv'
                                   have hold : ∀ b, D b → w'.heap[b]? = wr.heap[b]? := fun b hb => (hg'.block b (by rw [World.size_alloc]; have := HDD3.out b hb; omega) (fun e => by have := (ownsRow_lt HOWN3.out e.symm).1; have := (HH.out.dat b hb).1; omega)).trans (heap_alloc_old _ _ (HDD3.out b hb))
                                   have HNH := Lib.hid ((HHO3.out.keep hold (fun _ e => e)).snoc HOWN3.out.1 (HVZ.out.keep hold (fun _ e => e)))
                                   have HO3 := Lib.hid ho'
                                   have HB6 := Lib.hid (show Below w.heap.size w w' from ((HBR3.out).alloc (HBR3.out.size) _).trans (grown_below hg' (by rw [World.size_alloc]; have := HBR3.out.size; omega) (fun q hq => (ownsRow_lt HOWN3.out hq).1)))
                                   clear ho' hg' hv' hold)
                      go_roundw
                      case rel => exact ⟨j3 + 1, rows3 ++ entV z Az cz, by omega, by go_num, HB6.out, by rw [HS2.out, List.length_append, List.length_singleton]; exact HO3.out, by rw [HS2.out]; exact HNH.out⟩
                      case measure => simp [intOf]; omega
                    · have hge1 : ¬ (z.ix : Int) < (x.ix : Int) := by omega
                      have HS2 := Lib.hid (show underTake s x.ix (j3 + 1) = L by rw [HST.out, if_neg hge])
                      clear hge
                      go_wp2
                      go_roundw
                      case rel => exact ⟨j3 + 1, rows3, by omega, by go_num, HBR3.out, by rw [HS2.out]; exact HOWN3.out, by rw [HS2.out]; exact HHO3.out⟩
                      case measure => simp [intOf]; omega
                  · have hjm3' : j3 = MM := by omega
                    subst hjm3'
                    have hmid := RMid.kept HH.out HBR3.out HOWN3.out HHO3.out
                    have f2 := frozen_of_row wr q 2 _ _ h5.row
                    have HPU := Lib.hid (show ∀ wz, RMid q s.ix s.tm T D (underTake s x.ix j3 ++ [x]) w wz → Mid2 q s l T D w (j2 + 1) x.ix wz from fun wz hz => .inr ⟨j2, x, Nat.lt_succ_self _, HX.out, rfl, HFX0.out, HPRE.out, by
                      have e : (s.es.filter fun y => decide (y.ix < x.ix)) ++ (l.drop j2).take (j2 + 1 - j2) = underTake s x.ix j3 ++ [x] := by
                        rw [take_drop_snoc (Nat.le_refl _) HX.out, Nat.sub_self, List.take_zero, List.nil_append]
                        unfold underTake
                        rw [HMM.out, List.take_length]
                      rw [e]; exact hz⟩)
                    have HLE := Lib.hid (show (underTake s x.ix j3).length + 1 ≤ 1073741824 by have := HTL.out; omega)
                    clear h5 hbr3 hown3 hho3
                    go_upto_region 24 with fail
                    generalize wr.setCell ⟨q, 2, none⟩ (.slice A0 (underTake s x.ix j3).length c0) = wz at hmid ⊢
                    clear d0 d1 d2 f2
                    obtain ⟨v1, rows, hrow, hown, hho, hvb, hkk⟩ := hmid
                    obtain ⟨A1, k1, rfl⟩ := ownsRow_form hown
                    have hlenE := HLE.out
                    generalize underTake s x.ix j3 = E at hown hho hlenE hrow hvb HPU ⊢
                    have hDw : ∀ b, D b → wz.heap[b]? = w.heap[b]? := fun b hb => hkk.block b (HDT.out b hb).1 (HDT.out b hb).2
                    have HV := Lib.hid (HVX.out.keep hDw (fun _ e => e))
                    have HROW := Lib.hid hrow
                    have HOWN := Lib.hid hown
                    have HHO := Lib.hid hho
                    have HVB := Lib.hid hvb
                    have HKK := Lib.hid hkk
                    have hqw : q < wz.heap.size := row_lt hrow
                    have hzw := hkk.size
                    have HALL := Lib.hid (show ∀ W, Below wz.heap.size wz W → W.cell? ⟨q, 2, none⟩ = some (.slice A1 E.length k1) ∧ W.cell? ⟨b, o + j2 * 5, none⟩ = some (.int .u64 (x.ix : Int)) ∧ W.cell? ⟨b, o + j2 * 5 + 1, none⟩ = some (.int .u64 (x.tm : Int)) ∧ W.cell? ⟨b, o + j2 * 5 + 2, none⟩ = some (.int .i64 x.kd) ∧ W.cell? ⟨b, o + j2 * 5 + 3, none⟩ = some (.int .i64 x.dl) ∧ W.cell? ⟨b, o + j2 * 5 + 4, none⟩ = some (.slice Ad x.da.length cd) from fun W hW => by
                      have h2 := (hW.block _ hqw).trans hrow
                      have hbb : W.heap[b]? = w.heap[b]? := (hW.block b (by have := (HDT.out b HDB.out).1; omega)).trans (hDw b HDB.out)
                      obtain ⟨e0, e1, e2, e3, e4⟩ := HEA.out
                      exact ⟨by rw [cell_of_row W _ 2 _ _ _ h2]; rfl, (World.cell?_of_block (w := w) (a := ⟨b, _, none⟩) hbb).trans e0, (World.cell?_of_block (w := w) (a := ⟨b, _, none⟩) hbb).trans e1, (World.cell?_of_block (w := w) (a := ⟨b, _, none⟩) hbb).trans e2, (World.cell?_of_block (w := w) (a := ⟨b, _, none⟩) hbb).trans e3, (World.cell?_of_block (w := w) (a := ⟨b, _, none⟩) hbb).trans e4⟩)
                    clear hrow hown hho hvb hkk hDw
                    have hba : Below wz.heap.size wz (wz.alloc (.cells #[.int .u64 (x.ix : Int), .int .u64 (x.tm : Int), .int .i64 x.kd, .int .i64 x.dl, .slice Ad x.da.length cd] tApi)).drew := ((Below.refl _ _).alloc (Nat.le_refl _) _).drew
                    obtain ⟨p1, p2, p3, p4, p5, p6⟩ := HALL.out wz (Below.refl _ _)
                    obtain ⟨q1, q2, q3, q4, q5, q6⟩ := HALL.out _ hba
                    have HB1 := Lib.hid hba
                    have HRG := Lib.hid ((hba.block q hqw).trans HROW.out)
                    have HOA := Lib.hid (ownsRow_keep HOWN.out (fun q hq => hba.block q (ownsRow_lt HOWN.out hq).2))
                    have HNC := Lib.hid (show 0 < 1 → ∃ a, (some (⟨wz.heap.size, 0, none⟩ : Addr)) = some a ∧ ∀ j u, (entV x Ad cd)[j]? = some u → (wz.alloc (.cells #[.int .u64 (x.ix : Int), .int .u64 (x.tm : Int), .int .i64 x.kd, .int .i64 x.dl, .slice Ad x.da.length cd] tApi)).drew.cell? (a.add j) = some u from fun _ => ⟨_, rfl, fun j u hu => news_cells wz tApi (entV x Ad cd) j u hu⟩)
                    clear hba
                    go_region_law (refine step_appG Tryz.underlying29 apiInfo rfl (by decide) (by decide) rfl (.tmp 128) (.tmp 133) rfl 0 (.slice A1 E.length k1) E.length rows rfl HOA.out (some ⟨wz.heap.size, 0, none⟩) 1 1 rfl (entV x Ad cd) rfl HNC.out entV_one hlenE (Nat.zero_le _) ?_; intro v5 w5 ho5 hg5 hv5
                                   obtain ⟨A5, c5, rfl⟩ := ownsRow_form ho5
                                   have hr5 := (hg5.block q (row_lt HRG.out) (fun e => (HVB.out q e.symm).2 rfl)).trans HRG.out
                                   have hc5 : w5.cell? ⟨q, 2, none⟩ = some (.slice A1 E.length k1) := by rw [cell_of_row w5 q 2 _ _ _ hr5]; rfl
                                   have hf5 : w5.frozen? ⟨q, 2, none⟩ = false := frozen_of_row w5 q 2 _ _ hr5
                                   have HO5 := Lib.hid ho5
                                   have HG5 := Lib.hid hg5
                                   have HV5 := Lib.hid hv5
                                   have HR5 := Lib.hid hr5
                                   clear ho5 hg5 hv5 hr5)
                    all_goals
                      go_wp2
                      go_roundw
                      case rel => exact ⟨j2 + 1, x.ix, by omega, by go_num, rfl, HPU.out _ (RMid.push HH.out.ing HH.out.lt HDT.out HVB.out HKK.out HB1.out HHO.out HOWN.out.1 HV.out HR5.out HO5.out HG5.out HV5.out)⟩
                      case measure => simp [intOf]; omega
            · -- one of them came already
              subst hF
              have hy1 : 1 ≤ y.ix := (eB_ok ((okL_chain HOKL.out).2 y (List.mem_of_getElem? hy))).ix.1
              have hF0 : (((y.ix : Nat) : Int) == 0) = false := beq_eq_false_iff_ne.2 (by omega)
              have hF1 : (((y.ix : Nat) : Int) = 0) = False := by simp; omega
              have HPU := Lib.hid (show ∀ wz, RMid q s.ix s.tm T D (((s.es.filter fun z => decide (z.ix < y.ix)) ++ (l.drop k).take (j2 - k)) ++ [x]) w wz → Mid2 q s l T D w (j2 + 1) y.ix wz from fun wz hz => .inr ⟨k, y, by omega, hy, rfl, hfy, hpre, by
                rw [take_drop_snoc (Nat.le_of_lt hk) HX.out, ← List.append_assoc]; exact hz⟩)
              have HLE := Lib.hid (show ((s.es.filter fun z => decide (z.ix < y.ix)) ++ (l.drop k).take (j2 - k)).length + 1 ≤ 1073741824 by
                rw [List.length_append, List.length_take]
                have h1 := List.length_filter_le (fun z : En => decide (z.ix < y.ix)) s.es
                have h2 := HN.out
                have h3 := HM.out
                omega)
              have HMID := Lib.hid hmid
              clear hmid hpre hfy hy
              go_upto_region 14 with fail
              go_quiet (fail)
              rename_i nq
              have hmid := HMID.out.below HDT.out (below_drewN (Below.refl _ _) nq)
              generalize HWQ : World.drewN _ nq = wz at hmid ⊢
              clear HWQ HMID
              obtain ⟨v1, rows, hrow, hown, hho, hvb, hkk⟩ := hmid
              obtain ⟨A1, k1, rfl⟩ := ownsRow_form hown
              have hlenE := HLE.out
              generalize (s.es.filter fun z => decide (z.ix < y.ix)) ++ (l.drop k).take (j2 - k) = E at hown hho hlenE hrow hvb HPU ⊢
              have hDw : ∀ b, D b → wz.heap[b]? = w.heap[b]? := fun b hb => hkk.block b (HDT.out b hb).1 (HDT.out b hb).2
              have HV := Lib.hid (HVX.out.keep hDw (fun _ e => e))
              have HROW := Lib.hid hrow
              have HOWN := Lib.hid hown
              have HHO := Lib.hid hho
              have HVB := Lib.hid hvb
              have HKK := Lib.hid hkk
              have hqw : q < wz.heap.size := row_lt hrow
              have hzw := hkk.size
              have HALL := Lib.hid (show ∀ W, Below wz.heap.size wz W → W.cell? ⟨q, 2, none⟩ = some (.slice A1 E.length k1) ∧ W.cell? ⟨b, o + j2 * 5, none⟩ = some (.int .u64 (x.ix : Int)) ∧ W.cell? ⟨b, o + j2 * 5 + 1, none⟩ = some (.int .u64 (x.tm : Int)) ∧ W.cell? ⟨b, o + j2 * 5 + 2, none⟩ = some (.int .i64 x.kd) ∧ W.cell? ⟨b, o + j2 * 5 + 3, none⟩ = some (.int .i64 x.dl) ∧ W.cell? ⟨b, o + j2 * 5 + 4, none⟩ = some (.slice Ad x.da.length cd) from fun W hW => by
                have h2 := (hW.block _ hqw).trans hrow
                have hbb : W.heap[b]? = w.heap[b]? := (hW.block b (by have := (HDT.out b HDB.out).1; omega)).trans (hDw b HDB.out)
                obtain ⟨e0, e1, e2, e3, e4⟩ := HEA.out
                exact ⟨by rw [cell_of_row W _ 2 _ _ _ h2]; rfl, (World.cell?_of_block (w := w) (a := ⟨b, _, none⟩) hbb).trans e0, (World.cell?_of_block (w := w) (a := ⟨b, _, none⟩) hbb).trans e1, (World.cell?_of_block (w := w) (a := ⟨b, _, none⟩) hbb).trans e2, (World.cell?_of_block (w := w) (a := ⟨b, _, none⟩) hbb).trans e3, (World.cell?_of_block (w := w) (a := ⟨b, _, none⟩) hbb).trans e4⟩)
              clear hrow hown hho hvb hkk hDw
              go_upto_region 24 with fail
              have hba : Below wz.heap.size wz (wz.alloc (.cells #[.int .u64 (x.ix : Int), .int .u64 (x.tm : Int), .int .i64 x.kd, .int .i64 x.dl, .slice Ad x.da.length cd] tApi)).drew := ((Below.refl _ _).alloc (Nat.le_refl _) _).drew
              obtain ⟨p1, p2, p3, p4, p5, p6⟩ := HALL.out wz (Below.refl _ _)
              obtain ⟨q1, q2, q3, q4, q5, q6⟩ := HALL.out _ hba
              have HB1 := Lib.hid hba
              have HRG := Lib.hid ((hba.block q hqw).trans HROW.out)
              have HOA := Lib.hid (ownsRow_keep HOWN.out (fun q hq => hba.block q (ownsRow_lt HOWN.out hq).2))
              have HNC := Lib.hid (show 0 < 1 → ∃ a, (some (⟨wz.heap.size, 0, none⟩ : Addr)) = some a ∧ ∀ j u, (entV x Ad cd)[j]? = some u → (wz.alloc (.cells #[.int .u64 (x.ix : Int), .int .u64 (x.tm : Int), .int .i64 x.kd, .int .i64 x.dl, .slice Ad x.da.length cd] tApi)).drew.cell? (a.add j) = some u from fun _ => ⟨_, rfl, fun j u hu => news_cells wz tApi (entV x Ad cd) j u hu⟩)
              clear hba
              go_region_law (refine step_appG Tryz.underlying29 apiInfo rfl (by decide) (by decide) rfl (.tmp 128) (.tmp 133) rfl 0 (.slice A1 E.length k1) E.length rows rfl HOA.out (some ⟨wz.heap.size, 0, none⟩) 1 1 rfl (entV x Ad cd) rfl HNC.out entV_one hlenE (Nat.zero_le _) ?_; intro v5 w5 ho5 hg5 hv5
                             obtain ⟨A5, c5, rfl⟩ := ownsRow_form ho5
                             have hr5 := (hg5.block q (row_lt HRG.out) (fun e => (HVB.out q e.symm).2 rfl)).trans HRG.out
                             have hc5 : w5.cell? ⟨q, 2, none⟩ = some (.slice A1 E.length k1) := by rw [cell_of_row w5 q 2 _ _ _ hr5]; rfl
                             have hf5 : w5.frozen? ⟨q, 2, none⟩ = false := frozen_of_row w5 q 2 _ _ hr5
                             have HO5 := Lib.hid ho5
                             have HG5 := Lib.hid hg5
                             have HV5 := Lib.hid hv5
                             have HR5 := Lib.hid hr5
                             clear ho5 hg5 hv5 hr5)
              all_goals
                go_wp2
                go_roundw
                case rel => exact ⟨j2 + 1, y.ix, by omega, by go_num, rfl, HPU.out _ (RMid.push HH.out.ing HH.out.lt HDT.out HVB.out HKK.out HB1.out HHO.out HOWN.out.1 HV.out HR5.out HO5.out HG5.out HV5.out)⟩
                case measure => simp [intOf]; omega
          · have hjm' : j2 = j := by omega
            subst hjm'
            have HFIN := Lib.hid (show RApp q s i t l T D w (.returned (.tuple #[.int .u64 ((i + j2 : Nat) : Int), .int .u64 (F : Int), .int .i64 0])) wr from by
              rcases hmid2 with ⟨rfl, hb2, hpre⟩ | ⟨k, y, hk, hy, rfl, hfy, hpre, hmid⟩
              · rw [HM.out]
                exact RApp.old HH.out HOKL.out HF.out (fun m y hm hy => hpre m y (by have := HM.out; omega) hy) hb2
              · rw [HM.out] at hmid ⊢
                exact RApp.new HH.out HOKL.out HF.out hpre hy hfy hmid)
            have hib := (fits_bound HH.out.ok HF.out).1
            have W1 : IntKind.u64.wrap ((i : Int) + (j2 : Int)) = ((i + j2 : Nat) : Int) := by rw [wrap_u (by omega) (by omega)]; omega
            clear hmid2
            go_wp2
            go_ret3
            exact HFIN.out
end Go.Proofs.YtdbaajgkcjpnoaaGreat.Rg
