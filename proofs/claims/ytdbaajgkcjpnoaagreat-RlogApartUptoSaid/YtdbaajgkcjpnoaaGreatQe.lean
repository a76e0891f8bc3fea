/- The reference's Last, TermAt, Fits, Fresh, Hint of a log, as contracts of calls. | The reference's From of a log, as a contract of a call. | The reference's Shrink of a log, as a contract of a call. -/
import Derived.Test.YtdbaajgkcjpnoaaGreatQb
import Derived.Test.YtdbaajgkcjpnoaaGreatKrB
import Derived.Test.YtdbaajgkcjpnoaaGreatGR
/-! The reference's Last, TermAt, Fits, Fresh, Hint of a log, as contracts of calls. -/
namespace Go.Proofs.YtdbaajgkcjpnoaaGreat.Rg
open Go.RowKit By CoP Co Mo Kd

section
variable {q : Nat} {s : Lg} {v : Value} {T D : Nat → Prop} (w : World)
set_option maxHeartbeats 1600000 in
theorem rlast_any (h : RefIs w q s v T D) : Calls Tryz.prog 35 #[ptr q] w (RetB (pairV (lastL s)) w) := by
  rw [behind_last h.ok.inv]
  have hend := h.ok.end_
  obtain ⟨c0, c1, c2⟩ := h.cells
  cases hn : s.es.length with
  | zero =>
    obtain ⟨A, c, rfl⟩ := h.form
    rw [hn] at c2
    show Calls _ _ _ _ (RetB (pairV (s.ix, s.tm)) w)
    unfold pairV
    dsimp only
    generalize s.ix = a at *
    generalize s.tm = b at *
    clear h hn hend
    go_enter Tryz.func35, Tryz.ntmps35
    go_wp2
    go_quiet (fail)
    go_wp2
    go_ret2
    exact ⟨rfl, below_drewN (Below.refl _ _) _⟩
  | succ k =>
    have hk : k < s.es.length := by omega
    have he := List.getElem?_eq_getElem hk
    obtain ⟨b, c, Ad, cd, rfl, hc, hb, ⟨e0, e1, e2, e3, e4⟩, _⟩ := h.ent he
    have hix := (h.ok.at_ he).1
    have hp : pairV (behindL s (k + 1)) = .tuple #[.int .u64 (s.es[k].ix : Int), .int .u64 (s.es[k].tm : Int)] := by
      simp [pairV, behindL, he]
      omega
    rw [hp]
    rw [hn] at c2
    generalize s.es[k] = x at *
    obtain ⟨K, hK⟩ : ∃ K : Int, K = ((k + 1 : Nat) : Int) := ⟨_, rfl⟩
    obtain ⟨m, hm⟩ : ∃ m, m = k + 1 := ⟨_, rfl⟩
    rw [← hm] at c2
    have hx3 : (m : Int) - 1 = k := by omega
    have hx4 : (k : Int) < (m : Int) := by omega
    have hx7 : (m : Int) ≤ 4611686018427387904 := by omega
    have hx8 : (k : Int) ≤ 4611686018427387904 := by omega
    have hx5 : ((m : Int) = 0) = False := by simp; omega
    have hx6 : ((m : Int) == 0) = false := beq_eq_false_iff_ne.2 (by omega)
    have hq : q < w.heap.size := h.lt q h.ing
    have al : ∀ (g o : Nat) (u : Value), g < w.heap.size → w.cell? ⟨g, o, none⟩ = some u → (w.alloc (.cells #[.int .u64 0, .int .u64 0, .int .i64 0, .int .i64 0, .slice none 0 0] tApi)).cell? ⟨g, o, none⟩ = some u := fun g o u hg hc => (World.cell?_alloc_lt w _ ⟨g, o, none⟩ hg).trans hc
    have a2 := al _ _ _ hq c2
    have a3 := al _ _ _ hb e0
    have a4 := al _ _ _ hb e1
    have a5 := al _ _ _ hb e2
    have a6 := al _ _ _ hb e3
    have a7 := al _ _ _ hb e4
    have HB := Lib.hid hb
    clear h hp he c0 c1 hc hn hk hend hix hK hm al hq
    go_enter Tryz.func35, Tryz.ntmps35
    go_upto_region 3 with fail
    go_region
    go_wp2
    go_quiet (fail)
    go_wp2
    go_ret2
    exact ⟨rfl, below_drewN ((Below.refl _ _).alloc (Nat.le_refl _) _).drew _⟩
set_option maxHeartbeats 1600000 in
theorem rterm_any (h : RefIs w q s v T D) (i : Nat) : Calls Tryz.prog 15 #[ptr q, .int .u64 (i : Int)] w (RetB (errV (termR s i)) w) := by
  have hend := h.ok.end_
  obtain ⟨c0, c1, c2⟩ := h.cells
  by_cases h1 : i < s.ix
  · rw [termR_low h1]
    unfold errV
    have h1' : (i : Int) < (s.ix : Int) := by omega
    generalize s.ix = a at *
    clear h h1 hend
    go_enter Tryz.func15, Tryz.ntmps15
    go_wp2
    go_ret2
    exact ⟨rfl, Below.refl _ _⟩
  · have h1' : ¬ (i : Int) < (s.ix : Int) := by omega
    by_cases h2 : i = s.ix
    · subst h2
      rw [termR_base]
      unfold errV
      generalize s.ix = a at *
      generalize s.tm = b at *
      clear h h1 hend
      go_enter Tryz.func15, Tryz.ntmps15
      go_wp2
      go_ret2
      exact ⟨rfl, Below.refl _ _⟩
    · have h2' : ((i : Int) == (s.ix : Int)) = false := beq_eq_false_iff_ne.2 (by omega)
      have h2b : ((i : Int) = (s.ix : Int)) = False := by simp; omega
      have HH := Lib.hid h
      have HI := Lib.hid (show s.ix < i by omega)
      obtain ⟨A, c, rfl⟩ := h.form
      obtain ⟨m, hm⟩ : ∃ m, m = s.es.length := ⟨_, rfl⟩
      rw [← hm] at c2 HH hend
      have HM := Lib.hid hm
      have hm1 : m ≤ 4611686018427387904 := by omega
      clear h h1 h2 hm hend
      go_enter Tryz.func15, Tryz.ntmps15
      go_wp2
      go_loopw [6] (fun k wr => ∃ j : Nat, j ≤ m ∧ k = .int .i64 (j : Int) ∧ Below w.heap.size w wr ∧ ∀ l e, l < j → s.es[l]? = some e → e.ix ≠ i) (fun k _ => m - (intOf k).toNat)
      case atStart => exact ⟨0, Nat.zero_le _, rfl, Below.refl _ _, fun l e hl => absurd hl (Nat.not_lt_zero _)⟩
      case round =>
        obtain ⟨j, hj, rfl, hb, hno⟩ := hrel
        have h3 := HH.out.below hb
        clear c0 c1 c2
        obtain ⟨d0, d1, d2⟩ := h3.cells
        have HNO := Lib.hid hno
        have HB := Lib.hid hb
        by_cases hjm : j < m
        · obtain ⟨x, hx⟩ : ∃ x, s.es[j]? = some x := ⟨_, List.getElem?_eq_getElem (by have := HM.out; omega)⟩
          obtain ⟨b, c', Ad, cd, hA, _, _, ⟨e0, e1, e2, e3, e4⟩, _⟩ := h3.ent hx
          simp only [Value.slice.injEq] at hA
          obtain ⟨rfl, _, _⟩ := hA
          have hj1 : (j : Int) < (m : Int) := by omega
          have HX := Lib.hid hx
          clear h3 hx hno hb e2 e3 e4
          by_cases he : x.ix = i
          · have HT := Lib.hid (show errV (termR s i) = .tuple #[.int .u64 (x.tm : Int), .int .i64 0] by rw [← he, termR_at HH.out.ok HX.out]; rfl)
            rw [he] at e0
            clear he
            go_wp2
            go_ret2
            exact ⟨by rw [HT.out]; rfl, HB.out⟩
          · have he1 : ((x.ix : Int) == (i : Int)) = false := beq_eq_false_iff_ne.2 (by omega)
            have he2 : ((x.ix : Int) = (i : Int)) = False := by simp; omega
            have HE := Lib.hid he
            clear he
            go_wp2
            go_roundw
            case rel =>
              refine ⟨j + 1, by omega, by go_num, HB.out, fun l e hl hle => ?_⟩
              by_cases hlj : l = j
              · subst hlj
                rw [HX.out] at hle
                rw [← Option.some.inj hle]
                exact HE.out
              · exact HNO.out l e (by omega) hle
            case measure => simp [intOf]; omega
        · have hjm' : j = m := by omega
          subst hjm'
          have HT := Lib.hid (show errV (termR s i) = .tuple #[.int .u64 0, .int .i64 8] by rw [termR_out HH.out.ok HI.out (fun l e hl hle => HNO.out l e (by have := HM.out; omega) hle)]; rfl)
          clear h3 hno hb
          go_wp2
          go_ret2
          exact ⟨by rw [HT.out]; rfl, HB.out⟩
theorem rfits_any (h : RefIs w q s v T D) (i t : Nat) : Calls Tryz.prog 16 #[ptr q, .int .u64 (i : Int), .int .u64 (t : Int)] w (RetB (.bool (fits s i t)) w) := by
  have HT := Lib.hid (rterm_any w h i)
  rw [fits_term h.ok.inv]
  unfold errV at HT
  generalize termR s i = r at *
  obtain ⟨r1, r2⟩ := r
  clear h
  dsimp only at HT ⊢
  by_cases h2 : r2 = 0
  · subst h2
    by_cases h1 : r1 = t
    · subst h1
      go_enter Tryz.func16, Tryz.ntmps16
      go_wp2_with (go_at_call 15; refine HT.out.mono ?_; rintro e w1 ⟨rfl, hb⟩)
      go_ret
      exact ⟨rfl, hb⟩
    · have h1' : ((r1 : Int) = (t : Int)) = False := by simp; omega
      have h1b : ((r1 : Int) == (t : Int)) = false := beq_eq_false_iff_ne.2 (by omega)
      rw [decide_eq_false h1]
      clear h1
      go_enter Tryz.func16, Tryz.ntmps16
      go_wp2_with (go_at_call 15; refine HT.out.mono ?_; rintro e w1 ⟨rfl, hb⟩)
      go_ret
      exact ⟨rfl, hb⟩
  · have h1b : (r2 == (0 : Int)) = false := beq_eq_false_iff_ne.2 h2
    rw [decide_eq_false h2]
    go_enter Tryz.func16, Tryz.ntmps16
    go_wp2_with (go_at_call 15; refine HT.out.mono ?_; rintro e w1 ⟨rfl, hb⟩)
    go_ret
    exact ⟨rfl, hb⟩
theorem rfresh_any (h : RefIs w q s v T D) (i t : Nat) : Calls Tryz.prog 33 #[ptr q, .int .u64 (i : Int), .int .u64 (t : Int)] w (RetB (.bool (fresh s i t)) w) := by
  have HT := Lib.hid (rlast_any w h)
  unfold fresh
  unfold pairV at HT
  generalize lastL s = r at *
  obtain ⟨r1, r2⟩ := r
  clear h
  dsimp only at HT ⊢
  by_cases h1 : r2 < t
  · have h1' : (r2 : Int) < (t : Int) := by omega
    rw [decide_eq_true h1]
    clear h1
    go_enter Tryz.func33, Tryz.ntmps33
    go_wp2_with (go_at_call 35; refine HT.out.mono ?_; rintro e w1 ⟨rfl, hb⟩)
    go_ret
    exact ⟨rfl, hb⟩
  · have h1' : ¬ (r2 : Int) < (t : Int) := by omega
    rw [decide_eq_false h1]
    by_cases h2 : t = r2
    · subst h2
      rw [decide_eq_true rfl]
      clear h1
      go_enter Tryz.func33, Tryz.ntmps33
      go_wp2_with (go_at_call 35; refine HT.out.mono ?_; rintro e w1 ⟨rfl, hb⟩)
      go_ret
      exact ⟨rfl, hb⟩
    · have h2b : ((t : Int) == (r2 : Int)) = false := beq_eq_false_iff_ne.2 (by omega)
      have h2c : ((t : Int) = (r2 : Int)) = False := by simp; omega
      rw [decide_eq_false h2]
      clear h2
      go_enter Tryz.func33, Tryz.ntmps33
      go_wp2_with (go_at_call 35; refine HT.out.mono ?_; rintro e w1 ⟨rfl, hb⟩)
      go_ret
      exact ⟨rfl, hb⟩
theorem hint_step (s : Lg) (i t : Nat) {j : Nat} {x : En} (hx : s.es[j]? = some x) : (s.es.take (j + 1)).foldl (fun p e => if e.ix ≤ i ∧ e.tm ≤ t then (e.ix, e.tm) else p) (s.ix, s.tm) =
    if x.ix ≤ i ∧ x.tm ≤ t then (x.ix, x.tm) else (s.es.take j).foldl (fun p e => if e.ix ≤ i ∧ e.tm ≤ t then (e.ix, e.tm) else p) (s.ix, s.tm) := by
  rw [List.take_add_one, hx, Option.toList_some, List.foldl_append]; rfl
set_option maxHeartbeats 1600000 in
theorem rhint_any (h : RefIs w q s v T D) (i t : Nat) : Calls Tryz.prog 32 #[ptr q, .int .u64 (i : Int), .int .u64 (t : Int)] w (RetB (pairV (hintL s i t)) w) := by
  have hend := h.ok.end_
  obtain ⟨c0, c1, c2⟩ := h.cells
  have HH := Lib.hid h
  obtain ⟨A, c, rfl⟩ := h.form
  obtain ⟨m, hm⟩ : ∃ m, m = s.es.length := ⟨_, rfl⟩
  rw [← hm] at c2 HH hend
  have HM := Lib.hid hm
  have hm1 : m ≤ 4611686018427387904 := by omega
  obtain ⟨f, hf⟩ : ∃ f, f = fun j => (s.es.take j).foldl (fun p e => if e.ix ≤ i ∧ e.tm ≤ t then (e.ix, e.tm) else p) (s.ix, s.tm) := ⟨_, rfl⟩
  have HF0 := Lib.hid (show f 0 = (s.ix, s.tm) by rw [hf]; rfl)
  have HF1 := Lib.hid (show ∀ j x, s.es[j]? = some x → f (j + 1) = if x.ix ≤ i ∧ x.tm ≤ t then (x.ix, x.tm) else f j by intro j x hx; rw [hf]; exact hint_step s i t hx)
  have HF2 := Lib.hid (show f m = hintL s i t by rw [hf]; unfold hintL; dsimp only; rw [hm, List.take_length])
  clear h hm hend hf
  go_enter Tryz.func32, Tryz.ntmps32
  go_wp2
  go_loopw [8, 9, 10] (fun a b k wr => ∃ j : Nat, j ≤ m ∧ k = .int .i64 (j : Int) ∧ a = .int .u64 ((f j).1 : Int) ∧ b = .int .u64 ((f j).2 : Int) ∧ Below w.heap.size w wr) (fun _ _ k _ => m - (intOf k).toNat)
  case atStart => exact ⟨0, Nat.zero_le _, rfl, by rw [HF0.out], by rw [HF0.out], Below.refl _ _⟩
  case round =>
    obtain ⟨j, hj, rfl, rfl, rfl, hb⟩ := hrel
    have h3 := HH.out.below hb
    clear c0 c1 c2
    obtain ⟨d0, d1, d2⟩ := h3.cells
    have HB := Lib.hid hb
    by_cases hjm : j < m
    · obtain ⟨x, hx⟩ : ∃ x, s.es[j]? = some x := ⟨_, List.getElem?_eq_getElem (by have := HM.out; omega)⟩
      obtain ⟨b, c', Ad, cd, hA, _, _, ⟨e0, e1, e2, e3, e4⟩, _⟩ := h3.ent hx
      simp only [Value.slice.injEq] at hA
      obtain ⟨rfl, _, _⟩ := hA
      have hj1 : (j : Int) < (m : Int) := by omega
      have HX := Lib.hid (HF1.out j x hx)
      clear h3 hx hb e2 e3 e4
      by_cases k1 : x.ix ≤ i
      · have k1' : (x.ix : Int) ≤ (i : Int) := by omega
        by_cases k2 : x.tm ≤ t
        · have k2' : (x.tm : Int) ≤ (t : Int) := by omega
          have HX2 := Lib.hid (show f (j + 1) = (x.ix, x.tm) by rw [HX.out, if_pos ⟨k1, k2⟩])
          clear k1 k2
          go_wp2
          go_roundw
          case rel => exact ⟨j + 1, by omega, by go_num, by rw [HX2.out], by rw [HX2.out], HB.out⟩
          case measure => simp [intOf]; omega
        · have k2' : ¬ (x.tm : Int) ≤ (t : Int) := by omega
          have HX2 := Lib.hid (show f (j + 1) = f j by rw [HX.out, if_neg (fun hh => k2 hh.2)])
          clear k1 k2
          go_wp2
          go_roundw
          case rel => exact ⟨j + 1, by omega, by go_num, by rw [HX2.out], by rw [HX2.out], HB.out⟩
          case measure => simp [intOf]; omega
      · have k1' : ¬ (x.ix : Int) ≤ (i : Int) := by omega
        have HX2 := Lib.hid (show f (j + 1) = f j by rw [HX.out, if_neg (fun hh => k1 hh.1)])
        clear k1
        go_wp2
        go_roundw
        case rel => exact ⟨j + 1, by omega, by go_num, by rw [HX2.out], by rw [HX2.out], HB.out⟩
        case measure => simp [intOf]; omega
    · have hjm' : j = m := by omega
      subst hjm'
      clear h3 hb
      go_wp2
      go_ret2
      exact ⟨by rw [← HF2.out]; rfl, HB.out⟩
end
end Go.Proofs.YtdbaajgkcjpnoaaGreat.Rg

/-! The reference's From of a log, as a contract of a call. -/
namespace Go.Proofs.YtdbaajgkcjpnoaaGreat.Rg
open Go.RowKit By CoP Co Mo Kd

/-- What entries are held by a row of the call's own, their bytes where D says. -/
def Holds (w : World) (D : Nat → Prop) (rows : List Value) (l : List En) : Prop := ∀ i e, l[i]? = some e → ∃ Ad cd, EnV w D e Ad cd ∧ ∀ q x, (entV e Ad cd)[q]? = some x → rows[i * 5 + q]? = some x
theorem Holds.nil (w : World) (D : Nat → Prop) (rows : List Value) : Holds w D rows [] := fun i e h => by simp at h
theorem Holds.keep {w w' : World} {D D' : Nat → Prop} {rows : List Value} {l : List En} (h : Holds w D rows l) (hb : ∀ b, D b → w'.heap[b]? = w.heap[b]?) (hs : ∀ b, D b → D' b) : Holds w' D' rows l := fun i e he => by
  obtain ⟨Ad, cd, h1, h2⟩ := h i e he
  exact ⟨Ad, cd, h1.keep hb hs, h2⟩
theorem Holds.snoc {w : World} {D : Nat → Prop} {rows : List Value} {l : List En} {x : En} {Ad : Option Addr} {cd : Nat} (h : Holds w D rows l) (hr : rows.length = l.length * 5) (he : EnV w D x Ad cd) : Holds w D (rows ++ entV x Ad cd) (l ++ [x]) := fun i e hi => by
  by_cases hl : i < l.length
  · rw [List.getElem?_append_left hl] at hi
    obtain ⟨Ad', cd', h1, h2⟩ := h i e hi
    refine ⟨Ad', cd', h1, fun q u hu => ?_⟩
    have h3 := h2 q u hu
    rw [List.getElem?_append_left (List.getElem?_eq_some_iff.1 h3).1]
    exact h3
  · have hie : i = l.length := by
      have := (List.getElem?_eq_some_iff.1 hi).1
      rw [List.length_append, List.length_singleton] at this
      omega
    subst hie
    rw [List.getElem?_append_right (Nat.le_refl _), Nat.sub_self] at hi
    obtain rfl : x = e := by simpa using hi
    refine ⟨Ad, cd, he, fun q u hu => ?_⟩
    rw [List.getElem?_append_right (by omega), hr, Nat.add_sub_cancel_left]
    exact hu
/-- Entries in a row of the call's own, their bytes where D says. -/
def RFrom (D : Nat → Prop) (l : List En) (er : Int) (w : World) (e : Ending) (w' : World) : Prop :=
  ∃ v rows, e = .returned (.tuple #[v, .int .i64 er]) ∧ w'.ownsRow w.heap.size tApi 5 v l.length rows ∧ Holds w' D rows l ∧ Below w.heap.size w w'
theorem RFrom.none {D : Nat → Prop} {er : Int} {w w' : World} (hb : Below w.heap.size w w') : RFrom D [] er w (.returned (.tuple #[.slice none 0 0, .int .i64 er])) w' :=
  ⟨_, [], rfl, World.ownsRow_nil _ _ _ _, Holds.nil _ _ _, hb⟩
/-- The entries from place i on, of the first so many of the log. -/
def fromTake (s : Lg) (i j : Nat) : List En := (s.es.take j).filter fun e => decide (i ≤ e.ix)
theorem fromTake_step (s : Lg) (i : Nat) {j : Nat} {x : En} (hx : s.es[j]? = some x) : fromTake s i (j + 1) = if i ≤ x.ix then fromTake s i j ++ [x] else fromTake s i j := by
  unfold fromTake
  rw [List.take_add_one, hx, Option.toList_some, List.filter_append]
  by_cases h : i ≤ x.ix
  · rw [if_pos h, List.filter_cons_of_pos (by simpa using h), List.filter_nil]
  · rw [if_neg h, List.filter_cons_of_neg (by simpa using h), List.filter_nil, List.append_nil]
theorem chain_filter_ge {l : List En} {i t : Nat} (h : chain i t l) (m : Nat) : (l.filter fun e => decide (m ≤ e.ix)) = l.drop (m - (i + 1)) := by
  cases m with
  | zero => rw [Nat.zero_sub, List.drop_zero, List.filter_eq_self]; intro x _; simp
  | succ m =>
    have := chain_filter_gt h m
    rw [show m + 1 - (i + 1) = m - i by omega, ← this]
    congr 1
theorem fromTake_eq {s : Lg} (h : Inv s) (i : Nat) (j : Nat) : fromTake s i j = (s.es.take j).drop (i - (s.ix + 1)) := chain_filter_ge (chain_take h j) i
theorem fromTake_take (s : Lg) (i : Nat) {j m : Nat} (h : j ≤ m) : fromTake s i j = (fromTake s i m).take (fromTake s i j).length := by
  have hp : fromTake s i j <+: fromTake s i m := by
    unfold fromTake
    refine List.IsPrefix.filter _ ?_
    exact ⟨(s.es.take m).drop j, by have := List.take_append_drop j (s.es.take m); rwa [List.take_take, Nat.min_eq_left h] at this⟩
  exact List.prefix_iff_eq_take.1 hp
theorem fromTake_len (s : Lg) (i j : Nat) : (fromTake s i j).length ≤ j := by
  unfold fromTake
  refine Nat.le_trans (List.length_filter_le _ _) ?_
  rw [List.length_take]
  exact Nat.min_le_left _ _
set_option maxRecDepth 100000 in
set_option maxHeartbeats 1600000 in
theorem rfrom_any {q : Nat} {s : Lg} {v : Value} {T D : Nat → Prop} (w : World) (h : RefIs w q s v T D) (i : Nat) (most : Int) (hn : s.es.length ≤ 1073741823) : Calls Tryz.prog 30 #[ptr q, .int .u64 (i : Int), .int .i64 most] w (RFrom D (fromR s i most).1 (fromR s i most).2 w) := by
  have HL := Lib.hid (rlast_any w h)
  obtain ⟨p, hp⟩ : ∃ p, p = lastL s := ⟨_, rfl⟩
  have hp1 : p.1 = s.ix + s.es.length := by rw [hp]; exact (last_eq h.ok.inv).1
  rw [← hp] at HL
  unfold pairV at HL
  obtain ⟨p1, p2⟩ := p
  dsimp only at HL hp1
  clear hp
  obtain ⟨P, hP⟩ : ∃ P : Int, P = (p1 : Int) := ⟨_, rfl⟩
  rw [← hP] at HL
  have hP0 : 0 ≤ P := by omega
  have hend := h.ok.end_
  have h2b : P + 1 ≤ 4611686018427387905 := by omega
  have HC := Lib.hid (fun w' (hb : Below w.heap.size w w') => (h.below hb).cells)
  by_cases h1 : i ≤ s.ix
  · have e : fromR s i most = ([], 13) := by unfold fromR; rw [if_pos h1]
    rw [e]
    have h1' : (i : Int) ≤ (s.ix : Int) := by omega
    generalize s.ix = a at *
    clear h h1 e hend hp1 hP
    go_enter Tryz.func30, Tryz.ntmps30
    go_wp2_with (go_at_call 35; refine HL.out.mono ?_; rintro e w1 ⟨rfl, hb⟩; obtain ⟨c0, c1, c2⟩ := HC.out w1 hb)
    go_ret2
    exact RFrom.none hb
  · have h1' : ¬ (i : Int) ≤ (s.ix : Int) := by omega
    by_cases h2 : s.ix + s.es.length + 1 < i
    · have e : fromR s i most = ([], 8) := by unfold fromR; rw [if_neg h1, if_pos h2]
      rw [e]
      have h2' : P + 1 < (i : Int) := by omega
      generalize s.ix = a at *
      clear h h1 h2 e hend hp1 hP
      go_enter Tryz.func30, Tryz.ntmps30
      go_wp2_with (go_at_call 35; refine HL.out.mono ?_; rintro e w1 ⟨rfl, hb⟩; obtain ⟨c0, c1, c2⟩ := HC.out w1 hb)
      go_ret2
      exact RFrom.none hb
    · have h2' : ¬ (P + 1 < (i : Int)) := by omega
      by_cases h3 : most < 0
      · have e : fromR s i most = ([], 1) := by unfold fromR; rw [if_neg h1, if_neg h2, if_pos h3]
        rw [e]
        generalize s.ix = a at *
        clear h h1 h2 e hend hp1 hP
        go_enter Tryz.func30, Tryz.ntmps30
        go_wp2_with (go_at_call 35; refine HL.out.mono ?_; rintro e w1 ⟨rfl, hb⟩; obtain ⟨c0, c1, c2⟩ := HC.out w1 hb)
        go_ret2
        exact RFrom.none hb
      · have e : fromR s i most = ((s.es.drop (i - (s.ix + 1))).take most.toNat, 0) := by unfold fromR; rw [if_neg h1, if_neg h2, if_neg h3]
        rw [e]
        have HH := Lib.hid h
        obtain ⟨A, c, rfl⟩ := h.form
        obtain ⟨m, hm⟩ : ∃ m, m = s.es.length := ⟨_, rfl⟩
        rw [← hm] at HC HH hn
        have HM := Lib.hid hm
        have HN := Lib.hid hn
        have HD := Lib.hid (show (s.es.drop (i - (s.ix + 1))) = fromTake s i m by rw [fromTake_eq h.ok.inv, hm, List.take_length])
        rw [HD.out]
        have hm3 := Lib.hid h3
        have h1d : decide (i ≤ s.ix) = false := decide_eq_false h1
        clear h h2 hp1 hP e hend hm h3
        go_enter Tryz.func30, Tryz.ntmps30
        go_upto_region 6 with (go_at_call 35; refine HL.out.mono ?_; rintro e w1 ⟨rfl, hb⟩; obtain ⟨c0, c1, c2⟩ := HC.out w1 hb; have HB1 := Lib.hid hb; clear hb)
        have h3 := hm3.out
        go_wp2
        clear c0 c1 c2 HL HC
        obtain ⟨M, hM⟩ : ∃ M : Nat, most = (M : Int) := ⟨most.toNat, by omega⟩
        subst hM
        rw [Int.toNat_natCast]
        go_loopw [10, 11] (fun sv kk wr => ∃ (j : Nat) (rows : List Value), j ≤ m ∧ kk = .int .i64 (j : Int) ∧ Below w.heap.size w wr ∧ wr.ownsRow w.heap.size tApi 5 sv (fromTake s i j).length rows ∧ Holds wr D rows (fromTake s i j) ∧ (fromTake s i j).length ≤ M) (fun _ kk _ => m - (intOf kk).toNat)
        case atStart => exact ⟨0, [], Nat.zero_le _, rfl, HB1.out, World.ownsRow_nil _ _ _ _, Holds.nil _ _ _, Nat.zero_le _⟩
        case round =>
          obtain ⟨j, rows, hj, rfl, hbr, hown, hho, hlen⟩ := hrel
          have h5 := HH.out.below hbr
          obtain ⟨d0, d1, d2⟩ := h5.cells
          obtain ⟨A0, c0, rfl⟩ := ownsRow_form hown
          have HBR := Lib.hid hbr
          have HOWN := Lib.hid hown
          have HHO := Lib.hid hho
          have HDD := Lib.hid (show ∀ b, D b → b < wr.heap.size from fun b hb => (h5.dat b hb).1)
          have HTL := Lib.hid (fromTake_len s i j)
          have HTT := Lib.hid (fromTake_take s i hj)
          by_cases hjm : j < m
          · obtain ⟨x, hx⟩ : ∃ x, s.es[j]? = some x := ⟨_, List.getElem?_eq_getElem (by have := HM.out; omega)⟩
            have HST := Lib.hid (fromTake_step s i hx)
            obtain ⟨b, c', Ad, cd, hA, _, hbl, ⟨e0, e1, e2, e3, e4⟩, hv⟩ := h5.ent hx
            simp only [Value.slice.injEq] at hA
            obtain ⟨rfl, -, -⟩ := hA
            have HV := Lib.hid hv
            have hj1 : (j : Int) < (m : Int) := by omega
            clear h5 hx hv hbr hown hho hbl
            generalize hL : fromTake s i j = L at *
            by_cases hl : L.length < M
            · have hl1 : ((L.length : Nat) : Int) < (M : Int) := by omega
              by_cases hge : i ≤ x.ix
              · have hge1 : (i : Int) ≤ (x.ix : Int) := by omega
                have HS2 := Lib.hid (show fromTake s i (j + 1) = L ++ [x] by rw [HST.out, if_pos hge])
                clear hge
                go_wp2_with (at_builtin; refine wpList_appG Tryz.underlying29 apiInfo rfl (by decide) (by decide) rfl (.tmp 54) (.tmp 62) rfl w.heap.size _ L.length rows rfl (ownsRow_keep HOWN.out (fun q hq => heap_alloc_old _ _ (ownsRow_lt HOWN.out hq).2)) (some ⟨wr.heap.size, 0, none⟩) 1 1 rfl (entV x Ad cd) rfl (fun _ => ⟨_, rfl, fun j u hu => news_cells wr tApi (entV x Ad cd) j u hu⟩) entV_one (by have := HN.out; have := HTL.out; omega) (by rw [World.size_alloc]; have := HBR.out.size; omega) ?_
                             intro v' w' ho' hg' hv'
                             have hold : ∀ b, D b → w'.heap[b]? = wr.heap[b]? := fun b hb => (hg'.block b (by rw [World.size_alloc]; have := HDD.out b hb; omega) (fun e => by have := (ownsRow_lt HOWN.out e.symm).1; have := (HH.out.dat b hb).1; omega)).trans (heap_alloc_old _ _ (HDD.out b hb))
                             have HNH := Lib.hid ((HHO.out.keep hold (fun _ e => e)).snoc HOWN.out.1 (HV.out.keep hold (fun _ e => e)))
                             have HO3 := Lib.hid ho'
                             have HB3 := Lib.hid (show Below w.heap.size w w' from ((HBR.out).alloc (HBR.out.size) _).trans (grown_below hg' (by rw [World.size_alloc]; have := HBR.out.size; omega) (fun q hq => (ownsRow_lt HOWN.out hq).1)))
                             clear ho' hg' hv' hold)
                go_roundw
                case rel => exact ⟨j + 1, rows ++ entV x Ad cd, by omega, by go_num, HB3.out, by rw [HS2.out, List.length_append, List.length_singleton]; exact HO3.out, by rw [HS2.out]; exact HNH.out, by rw [HS2.out, List.length_append, List.length_singleton]; omega⟩
                case measure => simp [intOf]; omega
              · have hge1 : ¬ (i : Int) ≤ (x.ix : Int) := by omega
                have HS2 := Lib.hid (show fromTake s i (j + 1) = L by rw [HST.out, if_neg hge])
                clear hge
                go_wp2
                go_roundw
                case rel => exact ⟨j + 1, rows, by omega, by go_num, HBR.out, by rw [HS2.out]; exact HOWN.out, by rw [HS2.out]; exact HHO.out, by rw [HS2.out]; omega⟩
                case measure => simp [intOf]; omega
            · have hl1 : ¬ ((L.length : Nat) : Int) < (M : Int) := by omega
              have HFIN := Lib.hid (show RFrom D ((fromTake s i m).take M) 0 w (.returned (.tuple #[.slice A0 L.length c0, .int .i64 0])) wr by
                have e : (fromTake s i m).take M = L := by rw [show M = L.length by omega]; exact HTT.out.symm
                rw [e]
                exact ⟨_, rows, rfl, HOWN.out, HHO.out, HBR.out⟩)
              go_wp2
              go_ret2
              exact HFIN.out
          · have hjm' : j = m := by omega
            subst hjm'
            have HFIN := Lib.hid (show RFrom D ((fromTake s i j).take M) 0 w (.returned (.tuple #[.slice A0 (fromTake s i j).length c0, .int .i64 0])) wr by
              rw [List.take_of_length_le hlen]
              exact ⟨_, rows, rfl, HOWN.out, HHO.out, HBR.out⟩)
            clear h5 hbr hown hho
            generalize fromTake s i j = L at *
            go_wp2
            go_ret2
            exact HFIN.out
end Go.Proofs.YtdbaajgkcjpnoaaGreat.Rg

/-! The reference's Shrink of a log, as a contract of a call. -/
namespace Go.Proofs.YtdbaajgkcjpnoaaGreat.Rg
open Go.RowKit By CoP Co Mo Kd

/-- The reference's log behind a call that changes it. -/
def RStep (q : Nat) (s' : Lg) (T D : Nat → Prop) (w w' : World) : Prop := ∃ v' T', RefIs w' q s' v' T' D ∧ (∀ b, T' b → T b ∨ w.heap.size ≤ b) ∧ Kept T w w'
/-- The reference's log amid a call. -/
def RMid (q : Nat) (a b : Nat) (T D : Nat → Prop) (es : List En) (w wr : World) : Prop :=
  ∃ v1 rows, wr.heap[q]? = some (.cells #[.int .u64 (a : Int), .int .u64 (b : Int), v1] tRef (0, 0)) ∧ wr.ownsRow 0 tApi 5 v1 es.length rows ∧ Holds wr D rows es ∧ (∀ b, v1.ownBlock = some b → (T b ∨ w.heap.size ≤ b) ∧ b ≠ q) ∧ Kept T w wr
theorem RMid.done {q a b : Nat} {T D : Nat → Prop} {es : List En} {w wr : World} (h : RMid q a b T D es w wr) (hq : T q) (hT : ∀ b, T b → b < w.heap.size) (hD : ∀ b, D b → b < w.heap.size ∧ ¬ T b) (hok : Ok ⟨a, b, es⟩) : RStep q ⟨a, b, es⟩ T D w wr := by
  obtain ⟨v1, rows, h1, h2, h2', h3, h4⟩ := h
  refine ⟨v1, fun b => (T b ∨ w.heap.size ≤ b) ∧ b < wr.heap.size, ⟨h1, ⟨rows, h2, h2'⟩, ⟨.inl hq, Nat.lt_of_lt_of_le (hT q hq) h4.size⟩, fun b hb => ⟨⟨(h3 b hb).1, (ownsRow_lt h2 hb).2⟩, (h3 b hb).2⟩, fun b hb => hb.2, fun b hb => ⟨Nat.lt_of_lt_of_le (hD b hb).1 h4.size, fun hh => ?_⟩, hok⟩, fun b hb => hb.1, h4⟩
  rcases hh.1 with hh | hh
  · exact (hD b hb).2 hh
  · have := (hD b hb).1; omega
/-- The entries behind place i, of the first so many of the log. -/
def overTake (s : Lg) (i j : Nat) : List En := (s.es.take j).filter fun e => decide (i < e.ix)
theorem overTake_step (s : Lg) (i : Nat) {j : Nat} {x : En} (hx : s.es[j]? = some x) : overTake s i (j + 1) = if i < x.ix then overTake s i j ++ [x] else overTake s i j := by
  unfold overTake
  rw [List.take_add_one, hx, Option.toList_some, List.filter_append]
  by_cases h : i < x.ix
  · rw [if_pos h, List.filter_cons_of_pos (by simpa using h), List.filter_nil]
  · rw [if_neg h, List.filter_cons_of_neg (by simpa using h), List.filter_nil, List.append_nil]
theorem overTake_len (s : Lg) (i j : Nat) : (overTake s i j).length ≤ j := by
  unfold overTake
  refine Nat.le_trans (List.length_filter_le _ _) ?_
  rw [List.length_take]
  exact Nat.min_le_left _ _
theorem rset3 {w : World} {g : Nat} {a b c : Value} {t : TypeId} (h : w.heap[g]? = some (.cells #[a, b, c] t (0, 0))) (x y z : Value) : (((w.setCell ⟨g, 2, none⟩ z).setCell ⟨g, 0, none⟩ x).setCell ⟨g, 1, none⟩ y).heap[g]? = some (.cells #[x, y, z] t (0, 0)) := by
  obtain ⟨w1, e1⟩ : ∃ w1, w1 = w.setCell ⟨g, 2, none⟩ z := ⟨_, rfl⟩
  have h1 : w1.heap[g]? = some (.cells #[a, b, z] t (0, 0)) := by rw [e1]; exact heap_setCell_same w g 2 _ _ _ h
  rw [← e1]
  obtain ⟨w2, e2⟩ : ∃ w2, w2 = w1.setCell ⟨g, 0, none⟩ x := ⟨_, rfl⟩
  have h2 : w2.heap[g]? = some (.cells #[x, b, z] t (0, 0)) := by rw [e2]; exact heap_setCell_same w1 g 0 _ _ _ h1
  rw [← e2]
  exact heap_setCell_same w2 g 1 _ _ _ h2
theorem rshrunk {w wr : World} {q : Nat} {s : Lg} {v : Value} {rows : List Value} {T D : Nat → Prop} {i r : Nat} {l : List En} {n c : Nat} {A : Option Addr} (hn : n = l.length) (h : RefIs w q s v T D) (hok : Ok ⟨i, r, l⟩) (hb : Below w.heap.size w wr) (ho : wr.ownsRow w.heap.size tApi 5 (.slice A n c) n rows) (hh : Holds wr D rows l) :
    RStep q ⟨i, r, l⟩ T D w (((wr.setCell ⟨q, 2, none⟩ (.slice A n c)).setCell ⟨q, 0, none⟩ (.int .u64 (i : Int))).setCell ⟨q, 1, none⟩ (.int .u64 (r : Int))) := by
  subst hn
  have hq := h.lt q h.ing
  have hrow : wr.heap[q]? = _ := (hb.block q hq).trans h.row
  have hold : ∀ b, b ≠ q → (((wr.setCell ⟨q, 2, none⟩ (.slice A l.length c)).setCell ⟨q, 0, none⟩ (.int .u64 (i : Int))).setCell ⟨q, 1, none⟩ (.int .u64 (r : Int))).heap[b]? = wr.heap[b]? := fun b hne => by
    rw [Below.heap_setCell _ _ _ _ hne, Below.heap_setCell _ _ _ _ hne, Below.heap_setCell _ _ _ _ hne]
  have hk3 : Kept T w (((wr.setCell ⟨q, 2, none⟩ (.slice A l.length c)).setCell ⟨q, 0, none⟩ (.int .u64 (i : Int))).setCell ⟨q, 1, none⟩ (.int .u64 (r : Int))) :=
    (((Kept.of_below (M := T) hb).setCell (p := ⟨q, 2, none⟩) (fun _ => h.ing) _).setCell (p := ⟨q, 0, none⟩) (fun _ => h.ing) _).setCell (p := ⟨q, 1, none⟩) (fun _ => h.ing) _
  refine RMid.done ⟨.slice A l.length c, rows, rset3 hrow _ _ _, ?_, hh.keep (fun b hb => hold b (fun e => (h.dat b hb).2 (e ▸ h.ing))) (fun _ e => e), fun b e => ⟨.inr (ownsRow_lt ho e).1, fun e2 => by have := (ownsRow_lt ho e).1; omega⟩, hk3⟩ h.ing h.lt h.dat hok
  exact ownsRow_base (ownsRow_keep ho (fun b e => hold b (fun e2 => by have := (ownsRow_lt ho e).1; omega))) (Nat.zero_le _)
set_option maxRecDepth 100000 in
set_option maxHeartbeats 1600000 in
theorem rshrink_any {q : Nat} {s : Lg} {v : Value} {T D : Nat → Prop} (w : World) (h : RefIs w q s v T D) (i : Nat) (hn : s.es.length ≤ 1073741823) : Calls Tryz.prog 29 #[ptr q, .int .u64 (i : Int)] w (fun e w' => e = .returned (.int .i64 (termR s i).2) ∧ RStep q (shrS s i) T D w w') := by
  have HT := Lib.hid (rterm_any w h i)
  by_cases h0 : (termR s i).2 = 0
  · have hs : shrS s i = shrinkL s i (termR s i).1 := by unfold shrS; rw [if_pos h0]
    have hok : Ok (shrinkL s i (termR s i).1) := by rw [← hs]; exact h.ok.shr i
    obtain ⟨A, c, rfl⟩ := h.form
    obtain ⟨m, hm⟩ : ∃ m, m = s.es.length := ⟨_, rfl⟩
    have hsh : shrinkL s i (termR s i).1 = ⟨i, (termR s i).1, overTake s i m⟩ := by unfold shrinkL overTake; rw [hm, List.take_length]
    rw [hs, h0]
    rw [hsh] at hok ⊢
    obtain ⟨r, hr⟩ : ∃ r, r = termR s i := ⟨_, rfl⟩
    rw [← hr] at HT h0 hok ⊢
    obtain ⟨r1, r2⟩ := r
    dsimp only at h0 hok ⊢
    subst h0
    unfold errV at HT
    dsimp only at HT
    rw [← hm] at hn h
    have HH := Lib.hid h
    have HOK := Lib.hid hok
    have HM := Lib.hid hm
    have HN := Lib.hid hn
    clear h hs hok hm hsh hr
    go_enter Tryz.func29, Tryz.ntmps29
    go_wp2_with (go_at_call 15; refine HT.out.mono ?_; rintro e w1 ⟨rfl, hb⟩; have HB1 := Lib.hid hb; clear hb)
    go_loopw [7, 8] (fun sv kk wr => ∃ (j : Nat) (rows : List Value), j ≤ m ∧ kk = .int .i64 (j : Int) ∧ Below w.heap.size w wr ∧ wr.ownsRow w.heap.size tApi 5 sv (overTake s i j).length rows ∧ Holds wr D rows (overTake s i j)) (fun _ kk _ => m - (intOf kk).toNat)
    case atStart => exact ⟨0, [], Nat.zero_le _, rfl, HB1.out, World.ownsRow_nil _ _ _ _, Holds.nil _ _ _⟩
    case round =>
      obtain ⟨j, rows, hj, rfl, hbr, hown, hho⟩ := hrel
      have h5 := HH.out.below hbr
      obtain ⟨d0, d1, d2⟩ := h5.cells
      obtain ⟨A0, c0, rfl⟩ := ownsRow_form hown
      have HBR := Lib.hid hbr
      have HOWN := Lib.hid hown
      have HHO := Lib.hid hho
      have HDD := Lib.hid (show ∀ b, D b → b < wr.heap.size from fun b hb => (h5.dat b hb).1)
      have HTL := Lib.hid (overTake_len s i j)
      by_cases hjm : j < m
      · obtain ⟨x, hx⟩ : ∃ x, s.es[j]? = some x := ⟨_, List.getElem?_eq_getElem (by have := HM.out; omega)⟩
        have HST := Lib.hid (overTake_step s i hx)
        obtain ⟨b, c', Ad, cd, hA, _, hbl, ⟨e0, e1, e2, e3, e4⟩, hv⟩ := h5.ent hx
        simp only [Value.slice.injEq] at hA
        obtain ⟨rfl, -, -⟩ := hA
        have HV := Lib.hid hv
        have hj1 : (j : Int) < (m : Int) := by omega
        clear h5 hx hv hbr hown hho hbl
        generalize hL : overTake s i j = L at *
        by_cases hge : i < x.ix
        · have hge1 : (i : Int) < (x.ix : Int) := by omega
          have HS2 := Lib.hid (show overTake s i (j + 1) = L ++ [x] by rw [HST.out, if_pos hge])
          clear hge
          go_wp2_with (at_builtin; refine wpList_appG Tryz.underlying29 apiInfo rfl (by decide) (by decide) rfl (.tmp 37) (.tmp 45) rfl w.heap.size _ L.length rows rfl (ownsRow_keep HOWN.out (fun q hq => heap_alloc_old _ _ (ownsRow_lt HOWN.out hq).2)) (some ⟨wr.heap.size, 0, none⟩) 1 1 rfl (entV x Ad cd) rfl (fun _ => ⟨_, rfl, fun j u hu => news_cells wr tApi (entV x Ad cd) j u hu⟩) entV_one (by have := HN.out; have := HTL.out; omega) (by rw [World.size_alloc]; have := HBR.out.size; omega) ?_
                       intro v' w' ho' hg' hv'
                       have hold : ∀ b, D b → w'.heap[b]? = wr.heap[b]? := fun b hb => (hg'.block b (by rw [World.size_alloc]; have := HDD.out b hb; omega) (fun e => by have := (ownsRow_lt HOWN.out e.symm).1; have := (HH.out.dat b hb).1; omega)).trans (heap_alloc_old _ _ (HDD.out b hb))
                       have HNH := Lib.hid ((HHO.out.keep hold (fun _ e => e)).snoc HOWN.out.1 (HV.out.keep hold (fun _ e => e)))
                       have HO3 := Lib.hid ho'
                       have HB3 := Lib.hid (show Below w.heap.size w w' from ((HBR.out).alloc (HBR.out.size) _).trans (grown_below hg' (by rw [World.size_alloc]; have := HBR.out.size; omega) (fun q hq => (ownsRow_lt HOWN.out hq).1)))
                       clear ho' hg' hv' hold)
          go_roundw
          case rel => exact ⟨j + 1, rows ++ entV x Ad cd, by omega, by go_num, HB3.out, by rw [HS2.out, List.length_append, List.length_singleton]; exact HO3.out, by rw [HS2.out]; exact HNH.out⟩
          case measure => simp [intOf]; omega
        · have hge1 : ¬ (i : Int) < (x.ix : Int) := by omega
          have HS2 := Lib.hid (show overTake s i (j + 1) = L by rw [HST.out, if_neg hge])
          clear hge
          go_wp2
          go_roundw
          case rel => exact ⟨j + 1, rows, by omega, by go_num, HBR.out, by rw [HS2.out]; exact HOWN.out, by rw [HS2.out]; exact HHO.out⟩
          case measure => simp [intOf]; omega
      · have hjm' : j = m := by omega
        subst hjm'
        have hrow := h5.row
        have f0 := frozen_of_row wr q 0 _ _ hrow
        have f1 := frozen_of_row wr q 1 _ _ hrow
        have f2 := frozen_of_row wr q 2 _ _ hrow
        clear h5 hbr hown hho hrow
        go_wp2
        go_ret
        exact ⟨rfl, rshrunk rfl HH.out HOK.out HBR.out HOWN.out HHO.out⟩
  · have hs : shrS s i = s := by unfold shrS; rw [if_neg h0]
    rw [hs]
    have h0b : ((termR s i).2 == (0 : Int)) = false := beq_eq_false_iff_ne.2 h0
    have h0c : ((termR s i).2 != (0 : Int)) = true := by unfold bne; rw [h0b]; rfl
    have HH := Lib.hid h
    generalize termR s i = r at *
    obtain ⟨r1, r2⟩ := r
    unfold errV at HT
    dsimp only at HT h0 h0b h0c ⊢
    clear h hs
    go_enter Tryz.func29, Tryz.ntmps29
    go_wp2_with (go_at_call 15; refine HT.out.mono ?_; rintro e w1 ⟨rfl, hb⟩; have HB1 := Lib.hid hb; clear hb)
    go_ret
    exact ⟨rfl, v, T, HH.out.below HB1.out, fun b hb => .inl hb, Kept.of_below HB1.out⟩
end Go.Proofs.YtdbaajgkcjpnoaaGreat.Rg
