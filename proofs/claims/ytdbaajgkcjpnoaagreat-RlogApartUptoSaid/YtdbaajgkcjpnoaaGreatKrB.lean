/- Package scupperref03's SameEntries, SameMsg, as contracts of calls. Written by gensame2.py. -/
import Derived.Test.YtdbaajgkcjpnoaaGreatKrA
import Derived.Test.YtdbaajgkcjpnoaaGreatKpA
import Derived.Deep.RegionHeld
namespace Go.Proofs.YtdbaajgkcjpnoaaGreat.Kd
open Go.RowKit By CoP Co Mo

def sameEs : List Data → List Data → Bool
  | [], [] => true
  | d :: t, e :: u => sameE d e && sameEs t u
  | _, _ => false
theorem sameEs_exit (ds es : List Data) (k : Nat) (h1 : k ≤ ds.length) (h2 : k ≤ es.length) (h : k = ds.length ∨ k = es.length) : sameEs (ds.drop k) (es.drop k) = decide (ds.length = es.length) := by
  rcases h with rfl | rfl
  · rw [List.drop_of_length_le (Nat.le_refl _)]
    cases hq : es.drop ds.length with
    | nil =>
      have := congrArg List.length hq
      rw [List.length_drop, List.length_nil] at this
      rw [decide_eq_true (by omega)]
      rfl
    | cons x t =>
      have := congrArg List.length hq
      rw [List.length_drop, List.length_cons] at this
      rw [decide_eq_false (by omega)]
      rfl
  · rw [List.drop_of_length_le (Nat.le_refl es.length)]
    cases hq : ds.drop es.length with
    | nil =>
      have := congrArg List.length hq
      rw [List.length_drop, List.length_nil] at this
      rw [decide_eq_true (by omega)]
      rfl
    | cons x t =>
      have := congrArg List.length hq
      rw [List.length_drop, List.length_cons] at this
      rw [decide_eq_false (by omega)]
      rfl
theorem sameEs_step (ds es : List Data) (k : Nat) (h1 : k < ds.length) (h2 : k < es.length) : sameEs (ds.drop k) (es.drop k) = (sameE ds[k] es[k] && sameEs (ds.drop (k + 1)) (es.drop (k + 1))) := by
  rw [List.drop_eq_getElem_cons h1, List.drop_eq_getElem_cons h2]
  rfl
/-- Two configurations, as data: the same? -/
def sameC : Data → Data → Bool
  | .agg [.agg vs, .agg ls], .agg [.agg us, .agg ks] => decide (vs.map datI = us.map datI) && decide (ls.map datI = ks.map datI)
  | _, _ => false
theorem sameC_conf (vs ls us ks : List Int) : sameC (confD vs ls) (confD us ks) = (decide (vs = us) && decide (ls = ks)) := by
  simp only [sameC, confD, map_datI]
/-- Two messages, as data: the same? -/
def sameM : Data → Data → Bool
  | .agg [.lit (.int _ a1), .lit (.int _ a2), .lit (.int _ a3), .lit (.int _ a4), .lit (.int _ a5), .lit (.int _ a6), .lit (.int _ a7), .lit (.int _ a8), .lit (.bool a9), .agg es, cf, .lit (.int _ a12), .lit (.string s)],
    .agg [.lit (.int _ b1), .lit (.int _ b2), .lit (.int _ b3), .lit (.int _ b4), .lit (.int _ b5), .lit (.int _ b6), .lit (.int _ b7), .lit (.int _ b8), .lit (.bool b9), .agg fs, cg, .lit (.int _ b12), .lit (.string t)] =>
    decide (a1 = b1) && (decide (a2 = b2) && (decide (a3 = b3) && (decide (a4 = b4) && (decide (a5 = b5) && (decide (a6 = b6) && (decide (a7 = b7) && (decide (a8 = b8) && (decide (a9 = b9) && (decide (a12 = b12) && (sameEs es fs && (sameC cf cg && decide (s = t))))))))))))
  | _, _ => false
set_option maxRecDepth 100000 in
set_option maxHeartbeats 4000000 in
theorem sameEntries_any (A A2 : Option Addr) (n c m c2 : Nat) (ds es : List Data) (w : World) (h : entsK.rep w (Old w) [.slice A n c] (.agg ds)) (h2 : entsK.rep w (Old w) [.slice A2 m c2] (.agg es)) :
    Calls Tryz.prog 31 #[.slice A n c, .slice A2 m c2] w (Says (sameEs ds es) w) := by
  obtain ⟨Aq, cq, dq, q1, q2, _, hn47, q3⟩ := h
  obtain rfl := Data.agg.inj q2
  simp only [List.cons.injEq, Value.slice.injEq, and_true] at q1
  obtain ⟨rfl, hn, rfl⟩ := q1
  obtain ⟨Ap, cp, dp, p1, p2, _, hm47, p3⟩ := h2
  obtain rfl := Data.agg.inj p2
  simp only [List.cons.injEq, Value.slice.injEq, and_true] at p1
  obtain ⟨rfl, hm, rfl⟩ := p1
  have hn47' : n ≤ 140737488355328 := by omega
  have hm47' : m ≤ 140737488355328 := by omega
  have HN := Lib.hid hn
  have HM := Lib.hid hm
  have HR := Lib.hid q3
  have HR2 := Lib.hid p3
  clear q2 p2 q3 p3 hn hm hn47 hm47
  go_enter Tryz.func31, Tryz.ntmps31
  go_wp2
  go_loopw [5] (fun i wr => ∃ (k : Nat), k ≤ n ∧ k ≤ m ∧ i = .int .i64 k ∧ Below w.heap.size w wr ∧ sameEs ds es = sameEs (ds.drop k) (es.drop k)) (fun i _ => n - (intOf i).toNat)
  case atStart => exact ⟨0, Nat.zero_le _, Nat.zero_le _, rfl, Below.refl _ _, rfl⟩
  case round =>
    obtain ⟨k, hk, hk2, rfl, hbw, heq⟩ := hrel
    have HEQ := Lib.hid heq
    have HBW := Lib.hid hbw
    clear heq hbw
    by_cases h1 : k < n
    · have i1 : (k : Int) < (n : Int) := by omega
      have j1 : decide (k < n) = true := decide_eq_true h1
      by_cases h2 : k < m
      · have i2 : (k : Int) < (m : Int) := by omega
        have j2 : decide (k < m) = true := decide_eq_true h2
        have hka : k < ds.length := by have := HN.out; omega
        have hkb : k < es.length := by have := HM.out; omega
        obtain ⟨g, o, rfl, hg, hcells⟩ := HR.out (by omega)
        obtain ⟨xs, hxs, hrd⟩ := hcells k ds[k] (List.getElem?_eq_getElem hka)
        obtain ⟨g2, o2, rfl, hg2, hcells2⟩ := HR2.out (by omega)
        obtain ⟨ys, hys, hrd2⟩ := hcells2 k es[k] (List.getElem?_eq_getElem hkb)
        have hst := sameEs_step ds es k hka hkb
        generalize ds[k] = d at hxs hst
        generalize es[k] = e0 at hys hst
        have hx := entryK_ok.below hxs HBW.out
        have hy := entryK_ok.below hys HBW.out
        have hcall : ∀ w', Below wr.heap.size wr w' → Calls Tryz.prog 46 #[.agg xs.toArray, .agg ys.toArray] w' (Says (sameE d e0) w') := fun w' hb => same_ent w' (entryK_ok.below hx hb) (entryK_ok.below hy hb)
        generalize sameE d e0 = b at hcall hst
        obtain ⟨ix, tm, kd, dl, Ad, cd, da, rfl, -⟩ := entry_shape hxs
        obtain ⟨ix2, tm2, kd2, dl2, Ad2, cd2, da2, rfl, -⟩ := entry_shape hys
        have hc1 : ∀ (q : Nat) (v : Value), [Value.int .u64 (ix : Int), .int .u64 (tm : Int), .int .i64 kd, .int .i64 dl, .slice Ad da.length cd][q]? = some v → ∀ w', Below wr.heap.size wr w' → w'.cell? ⟨g, o + k * 5 + q, none⟩ = some v := fun q v h w' hb => ((By.ext HBW.out hb).cell (p := ⟨g, o + k * 5 + q, none⟩) (block_lt_of_cell (hrd q v h))).trans (hrd q v h)
        have hc2 : ∀ (q : Nat) (v : Value), [Value.int .u64 (ix2 : Int), .int .u64 (tm2 : Int), .int .i64 kd2, .int .i64 dl2, .slice Ad2 da2.length cd2][q]? = some v → ∀ w', Below wr.heap.size wr w' → w'.cell? ⟨g2, o2 + k * 5 + q, none⟩ = some v := fun q v h w' hb => ((By.ext HBW.out hb).cell (p := ⟨g2, o2 + k * 5 + q, none⟩) (block_lt_of_cell (hrd2 q v h))).trans (hrd2 q v h)
        have x0 : ∀ w', Below wr.heap.size wr w' → w'.cell? ⟨g, o + k * 5, none⟩ = some (.int .u64 (ix : Int)) := hc1 0 _ rfl
        have x1 : ∀ w', Below wr.heap.size wr w' → w'.cell? ⟨g, o + k * 5 + 1, none⟩ = some (.int .u64 (tm : Int)) := hc1 1 _ rfl
        have x2 : ∀ w', Below wr.heap.size wr w' → w'.cell? ⟨g, o + k * 5 + 2, none⟩ = some (.int .i64 kd) := hc1 2 _ rfl
        have x3 : ∀ w', Below wr.heap.size wr w' → w'.cell? ⟨g, o + k * 5 + 3, none⟩ = some (.int .i64 dl) := hc1 3 _ rfl
        have x4 : ∀ w', Below wr.heap.size wr w' → w'.cell? ⟨g, o + k * 5 + 4, none⟩ = some (.slice Ad da.length cd) := hc1 4 _ rfl
        have y0 : ∀ w', Below wr.heap.size wr w' → w'.cell? ⟨g2, o2 + k * 5, none⟩ = some (.int .u64 (ix2 : Int)) := hc2 0 _ rfl
        have y1 : ∀ w', Below wr.heap.size wr w' → w'.cell? ⟨g2, o2 + k * 5 + 1, none⟩ = some (.int .u64 (tm2 : Int)) := hc2 1 _ rfl
        have y2 : ∀ w', Below wr.heap.size wr w' → w'.cell? ⟨g2, o2 + k * 5 + 2, none⟩ = some (.int .i64 kd2) := hc2 2 _ rfl
        have y3 : ∀ w', Below wr.heap.size wr w' → w'.cell? ⟨g2, o2 + k * 5 + 3, none⟩ = some (.int .i64 dl2) := hc2 3 _ rfl
        have y4 : ∀ w', Below wr.heap.size wr w' → w'.cell? ⟨g2, o2 + k * 5 + 4, none⟩ = some (.slice Ad2 da2.length cd2) := hc2 4 _ rfl
        have HC := Lib.hid hcall
        clear hcall hx hy hxs hys hcells hcells2 hrd hrd2 hc1 hc2 hka hkb
        generalize da.length = nd at *
        generalize da2.length = nd2 at *
        cases b with
        | true =>
          have HEQ2 := Lib.hid (HEQ.out.trans (hst.trans (Bool.true_and _)))
          clear hst HEQ
          go_wp2_with fail
          go_region_held (fun w' => Below wr.heap.size wr w')
            (first
              | assumption
              | exact (Below.refl _ _).drew
              | exact ext (by assumption) hb)
            ((go_at_call 46; refine (HC.out _ (by assumption)).mono ?_; rintro e w' ⟨rfl, hb⟩))
          have HB2 := Lib.hid (ext HBW.out (by assumption))
          clear x0 x1 x2 x3 x4 y0 y1 y2 y3 y4
          go_wp2
          go_roundw
          case rel => exact ⟨k + 1, by omega, by omega, by go_num, HB2.out, HEQ2.out⟩
          case measure => simp [intOf]; omega
        | false =>
          have HEQ2 := Lib.hid (HEQ.out.trans (hst.trans (Bool.false_and _)))
          clear hst HEQ
          go_wp2_with fail
          go_region_held (fun w' => Below wr.heap.size wr w')
            (first
              | assumption
              | exact (Below.refl _ _).drew
              | exact ext (by assumption) hb)
            ((go_at_call 46; refine (HC.out _ (by assumption)).mono ?_; rintro e w' ⟨rfl, hb⟩))
          have HB2 := Lib.hid (ext HBW.out (by assumption))
          clear x0 x1 x2 x3 x4 y0 y1 y2 y3 y4
          go_wp2
          go_ret
          rw [HEQ2.out]
          exact ⟨rfl, HB2.out⟩
      · have i2 : ¬ (k : Int) < (m : Int) := by omega
        have j2 : decide (k < m) = false := decide_eq_false h2
        obtain rfl : k = m := by omega
        have hd := HEQ.out.trans (sameEs_exit ds es k (by have := HN.out; omega) (by have := HM.out; omega) (.inr HM.out))
        rw [← HN.out, ← HM.out] at hd
        have HD := Lib.hid hd
        clear hd
        have e1 : ((n : Int) == (k : Int)) = decide (n = k) := by rw [show ((n : Int) == (k : Int)) = decide ((n : Int) = (k : Int)) from rfl]; exact decide_eq_decide.2 (by omega)
        have e2 : (n == k) = decide (n = k) := rfl
        go_wp2
        go_ret
        rw [HD.out]
        exact ⟨by first | rfl | (rw [← e1]) | (simp), HBW.out⟩
    · have i1 : ¬ (k : Int) < (n : Int) := by omega
      have j1 : decide (k < n) = false := decide_eq_false h1
      obtain rfl : k = n := by omega
      have hd := HEQ.out.trans (sameEs_exit ds es k (by have := HN.out; omega) (by have := HM.out; omega) (.inl HN.out))
      rw [← HN.out, ← HM.out] at hd
      have HD := Lib.hid hd
      clear hd
      have e1 : ((k : Int) == (m : Int)) = decide (k = m) := by rw [show ((k : Int) == (m : Int)) = decide ((k : Int) = (m : Int)) from rfl]; exact decide_eq_decide.2 (by omega)
      have e2 : (k == m) = decide (k = m) := rfl
      go_wp2
      go_ret
      rw [HD.out]
      exact ⟨by first | rfl | (rw [← e1]) | (simp), HBW.out⟩
theorem sameEs_refl : ∀ {es : List Data} (_ : ∀ d ∈ es, sameE d d = true), sameEs es es = true := by
  intro es
  induction es with
  | nil => intro _; rfl
  | cons d t ih =>
    intro h
    show (sameE d d && sameEs t t) = true
    rw [h d List.mem_cons_self, ih (fun x hx => h x (List.mem_cons_of_mem _ hx))]
    rfl
theorem ents_each {w : World} {S : Nat → Prop} {v : Value} {es : List Data} (h : entsK.rep w S [v] (.agg es)) : ∀ d ∈ es, ∃ (ix tm : Nat) (kd dl : Int) (da : List UInt8), d = entryD ix tm kd dl da := by
  obtain ⟨A, c, ds, _, e, _, _, hl⟩ := h
  obtain rfl := Data.agg.inj e
  intro d hd
  obtain ⟨j, hj, rfl⟩ := List.mem_iff_getElem.1 hd
  obtain ⟨g, o, _, _, hc⟩ := hl (by omega)
  obtain ⟨us, hr, _⟩ := hc j es[j] (List.getElem?_eq_getElem hj)
  obtain ⟨ix, tm, kd, dl, A, c, da, _, e2, _⟩ := entry_shape hr
  exact ⟨ix, tm, kd, dl, da, e2⟩
/-- A message is the same as itself; what is the same is one. -/
theorem sameM_refl {w : World} {xs : List Value} {d : Data} (h : msgK.rep w (Old w) xs d) : sameM d d = true := by
  obtain ⟨kd, fr, tt, tm, ix, lt, cm, rd, ok, Ae, ce, es, A, c, vs, A2, c2, ls, fo, A3, c3, da, _, rfl, _, _, ⟨_, he⟩, _⟩ := msg_shape h
  have h1 : sameEs es es = true := sameEs_refl (fun d hd => by
    obtain ⟨ix, tm, kd, dl, da, rfl⟩ := ents_each he d hd
    exact sameE_refl ix tm kd dl da)
  have h2 : sameC (confD vs ls) (confD vs ls) = true := by rw [sameC_conf]; simp
  simp only [sameM, msgD, h1, h2, decide_true, Bool.and_true]
theorem sameEs_eq : ∀ {es fs : List Data} (_ : ∀ d ∈ es, ∃ (ix tm : Nat) (kd dl : Int) (da : List UInt8), d = entryD ix tm kd dl da) (_ : ∀ d ∈ fs, ∃ (ix tm : Nat) (kd dl : Int) (da : List UInt8), d = entryD ix tm kd dl da), sameEs es fs = true → es = fs := by
  intro es
  induction es with
  | nil =>
    intro fs _ _ h
    cases fs with
    | nil => rfl
    | cons x t => cases h
  | cons d t ih =>
    intro fs h1 h2 h
    cases fs with
    | nil => cases h
    | cons x u =>
      have h' : (sameE d x && sameEs t u) = true := h
      rw [Bool.and_eq_true] at h'
      obtain ⟨ix, tm, kd, dl, da, rfl⟩ := h1 d List.mem_cons_self
      obtain ⟨ix2, tm2, kd2, dl2, da2, rfl⟩ := h2 x List.mem_cons_self
      rw [sameE_eq h'.1, ih (fun y hy => h1 y (List.mem_cons_of_mem _ hy)) (fun y hy => h2 y (List.mem_cons_of_mem _ hy)) h'.2]
theorem sameM_eq {w w2 : World} {xs ys : List Value} {d e : Data} (h : msgK.rep w (Old w) xs d) (k : msgK.rep w2 (Old w2) ys e) (hs : sameM d e = true) : d = e := by
  obtain ⟨kd, fr, tt, tm, ix, lt, cm, rd, ok, Ae, ce, es, A, c, vs, A2, c2, ls, fo, A3, c3, da, _, rfl, _, _, ⟨_, he⟩, _⟩ := msg_shape h
  obtain ⟨kd2, fr2, tt2, tm2, ix2, lt2, cm2, rd2, ok2, Ae2, ce2, es2, B, b, us, B2, b2, ks, fo2, B3, b3, da2, _, rfl, _, _, ⟨_, he2⟩, _⟩ := msg_shape k
  simp only [sameM, msgD, sameC_conf, Bool.and_eq_true, decide_eq_true_eq] at hs
  obtain ⟨h1, h2, h3, h4, h5, h6, h7, h8, h9, h10, h11, ⟨h12, h13⟩, h14⟩ := hs
  have h15 := sameEs_eq (ents_each he) (ents_each he2) h11
  simp only [msgD, h1, h2, h3, h4, h5, h6, h7, h8, h9, h10, h12, h13, h14, h15]
end Go.Proofs.YtdbaajgkcjpnoaaGreat.Kd
