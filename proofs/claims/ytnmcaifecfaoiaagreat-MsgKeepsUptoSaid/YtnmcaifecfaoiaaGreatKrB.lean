/- Package scupperref03's SameEntries, SameMsg, as contracts of calls. Written by gensame2.py. -/
import Derived.Test.YtnmcaifecfaoiaaGreatKrA
import Derived.Test.YtnmcaifecfaoiaaGreatKpA
import Derived.Deep.RegionHeld
namespace Go.Proofs.YtnmcaifecfaoiaaGreat.Kd
open Go.RowKit By CoP Co Mo

def sameEs : List Data → List Data → Bool
  | [], [] => true
  | d :: t, e :: u => sameE d e && sameEs t u
  | _, _ => false
theorem sameEs_exit (ds es : List Data) (k : Nat) (h1 : k ≤ ds.length) (h2 : k ≤ es.length) (h : k = ds.length ∨ k = es.length) : sameEs (ds.drop k) (es.drop k) = decide (ds.length = es.length) := by
  rcases h with rfl | rfl
  · rw [List.drop_of_length_le (Nat.le_refl _)]
    cases hq : es.drop ds.length with
    | nil =>
      have := congrArg List.length hq
      rw [List.length_drop, List.length_nil] at this
      rw [decide_eq_true (by omega)]
      rfl
    | cons x t =>
      have := congrArg List.length hq
      rw [List.length_drop, List.length_cons] at this
      rw [decide_eq_false (by omega)]
      rfl
  · rw [List.drop_of_length_le (Nat.le_refl es.length)]
    cases hq : ds.drop es.length with
    | nil =>
      have := congrArg List.length hq
      rw [List.length_drop, List.length_nil] at this
      rw [decide_eq_true (by omega)]
      rfl
    | cons x t =>
      have := congrArg List.length hq
      rw [List.length_drop, List.length_cons] at this
      rw [decide_eq_false (by omega)]
      rfl
theorem sameEs_step (ds es : List Data) (k : Nat) (h1 : k < ds.length) (h2 : k < es.length) : sameEs (ds.drop k) (es.drop k) = (sameE ds[k] es[k] && sameEs (ds.drop (k + 1)) (es.drop (k + 1))) := by
  rw [List.drop_eq_getElem_cons h1, List.drop_eq_getElem_cons h2]
  rfl
/-- Two configurations, as data: the same? -/
def sameC : Data → Data → Bool
  | .agg [.agg vs, .agg ls], .agg [.agg us, .agg ks] => decide (vs.map datI = us.map datI) && decide (ls.map datI = ks.map datI)
  | _, _ => false
theorem sameC_conf (vs ls us ks : List Int) : sameC (confD vs ls) (confD us ks) = (decide (vs = us) && decide (ls = ks)) := by
  simp only [sameC, confD, map_datI]
/-- Two messages, as data: the same? -/
def sameM : Data → Data → Bool
  | .agg [.lit (.int _ a1), .lit (.int _ a2), .lit (.int _ a3), .lit (.int _ a4), .lit (.int _ a5), .lit (.int _ a6), .lit (.int _ a7), .lit (.int _ a8), .lit (.bool a9), .agg es, cf, .lit (.int _ a12), .lit (.string s)],
    .agg [.lit (.int _ b1), .lit (.int _ b2), .lit (.int _ b3), .lit (.int _ b4), .lit (.int _ b5), .lit (.int _ b6), .lit (.int _ b7), .lit (.int _ b8), .lit (.bool b9), .agg fs, cg, .lit (.int _ b12), .lit (.string t)] =>
    decide (a1 = b1) && (decide (a2 = b2) && (decide (a3 = b3) && (decide (a4 = b4) && (decide (a5 = b5) && (decide (a6 = b6) && (decide (a7 = b7) && (decide (a8 = b8) && (decide (a9 = b9) && (decide (a12 = b12) && (sameEs es fs && (sameC cf cg && decide (s = t))))))))))))
  | _, _ => false
set_option maxRecDepth 100000 in
set_option maxHeartbeats 4000000 in
theorem sameEntries_any (A A2 : Option Addr) (n c m c2 : Nat) (ds es : List Data) (w : World) (h : entsK.rep w (Old w) [.slice A n c] (.agg ds)) (h2 : entsK.rep w (Old w) [.slice A2 m c2] (.agg es)) :
    Calls Tryz.prog 14 #[.slice A n c, .slice A2 m c2] w (Says (sameEs ds es) w) := by
  obtain ⟨Aq, cq, dq, q1, q2, _, hn47, q3⟩ := h
  obtain rfl := Data.agg.inj q2
  simp only [List.cons.injEq, Value.slice.injEq, and_true] at q1
  obtain ⟨rfl, hn, rfl⟩ := q1
  obtain ⟨Ap, cp, dp, p1, p2, _, hm47, p3⟩ := h2
  obtain rfl := Data.agg.inj p2
  simp only [List.cons.injEq, Value.slice.injEq, and_true] at p1
  obtain ⟨rfl, hm, rfl⟩ := p1
  have hn47' : n ≤ 140737488355328 := by omega
  have hm47' : m ≤ 140737488355328 := by omega
  have HN := Lib.hid hn
  have HM := Lib.hid hm
  have HR := Lib.hid q3
  have HR2 := Lib.hid p3
  clear q2 p2 q3 p3 hn hm hn47 hm47
  go_enter Tryz.func14, Tryz.ntmps14
  go_wp2
  go_loopw [5] (fun i wr => ∃ (k : Nat), k ≤ n ∧ k ≤ m ∧ i = .int .i64 k ∧ Below w.heap.size w wr ∧ sameEs ds es = sameEs (ds.drop k) (es.drop k)) (fun i _ => n - (intOf i).toNat)
  case atStart => exact ⟨0, Nat.zero_le _, Nat.zero_le _, rfl, Below.refl _ _, rfl⟩
  case round =>
    obtain ⟨k, hk, hk2, rfl, hbw, heq⟩ := hrel
    have HEQ := Lib.hid heq
    have HBW := Lib.hid hbw
    clear heq hbw
    by_cases h1 : k < n
    · have i1 : (k : Int) < (n : Int) := by omega
      have j1 : decide (k < n) = true := decide_eq_true h1
      by_cases h2 : k < m
      · have i2 : (k : Int) < (m : Int) := by omega
        have j2 : decide (k < m) = true := decide_eq_true h2
        have hka : k < ds.length := by have := HN.out; omega
        have hkb : k < es.length := by have := HM.out; omega
        obtain ⟨g, o, rfl, hg, hcells⟩ := HR.out (by omega)
        obtain ⟨xs, hxs, hrd⟩ := hcells k ds[k] (List.getElem?_eq_getElem hka)
        obtain ⟨g2, o2, rfl, hg2, hcells2⟩ := HR2.out (by omega)
        obtain ⟨ys, hys, hrd2⟩ := hcells2 k es[k] (List.getElem?_eq_getElem hkb)
        have hst := sameEs_step ds es k hka hkb
        generalize ds[k] = d at hxs hst
        generalize es[k] = e0 at hys hst
        have hx := entryK_ok.below hxs HBW.out
        have hy := entryK_ok.below hys HBW.out
        have hcall : ∀ w', Below wr.heap.size wr w' → Calls Tryz.prog 48 #[.agg xs.toArray, .agg ys.toArray] w' (Says (sameE d e0) w') := fun w' hb => same_ent w' (entryK_ok.below hx hb) (entryK_ok.below hy hb)
        generalize sameE d e0 = b at hcall hst
        obtain ⟨ix, tm, kd, dl, Ad, cd, da, rfl, -⟩ := entry_shape hxs
        obtain ⟨ix2, tm2, kd2, dl2, Ad2, cd2, da2, rfl, -⟩ := entry_shape hys
        have hc1 : ∀ (q : Nat) (v : Value), [Value.int .u64 (ix : Int), .int .u64 (tm : Int), .int .i64 kd, .int .i64 dl, .slice Ad da.length cd][q]? = some v → ∀ w', Below wr.heap.size wr w' → w'.cell? ⟨g, o + k * 5 + q, none⟩ = some v := fun q v h w' hb => ((By.ext HBW.out hb).cell (p := ⟨g, o + k * 5 + q, none⟩) (block_lt_of_cell (hrd q v h))).trans (hrd q v h)
        have hc2 : ∀ (q : Nat) (v : Value), [Value.int .u64 (ix2 : Int), .int .u64 (tm2 : Int), .int .i64 kd2, .int .i64 dl2, .slice Ad2 da2.length cd2][q]? = some v → ∀ w', Below wr.heap.size wr w' → w'.cell? ⟨g2, o2 + k * 5 + q, none⟩ = some v := fun q v h w' hb => ((By.ext HBW.out hb).cell (p := ⟨g2, o2 + k * 5 + q, none⟩) (block_lt_of_cell (hrd2 q v h))).trans (hrd2 q v h)
        have x0 : ∀ w', Below wr.heap.size wr w' → w'.cell? ⟨g, o + k * 5, none⟩ = some (.int .u64 (ix : Int)) := hc1 0 _ rfl
        have x1 : ∀ w', Below wr.heap.size wr w' → w'.cell? ⟨g, o + k * 5 + 1, none⟩ = some (.int .u64 (tm : Int)) := hc1 1 _ rfl
        have x2 : ∀ w', Below wr.heap.size wr w' → w'.cell? ⟨g, o + k * 5 + 2, none⟩ = some (.int .i64 kd) := hc1 2 _ rfl
        have x3 : ∀ w', Below wr.heap.size wr w' → w'.cell? ⟨g, o + k * 5 + 3, none⟩ = some (.int .i64 dl) := hc1 3 _ rfl
        have x4 : ∀ w', Below wr.heap.size wr w' → w'.cell? ⟨g, o + k * 5 + 4, none⟩ = some (.slice Ad da.length cd) := hc1 4 _ rfl
        have y0 : ∀ w', Below wr.heap.size wr w' → w'.cell? ⟨g2, o2 + k * 5, none⟩ = some (.int .u64 (ix2 : Int)) := hc2 0 _ rfl
        have y1 : ∀ w', Below wr.heap.size wr w' → w'.cell? ⟨g2, o2 + k * 5 + 1, none⟩ = some (.int .u64 (tm2 : Int)) := hc2 1 _ rfl
        have y2 : ∀ w', Below wr.heap.size wr w' → w'.cell? ⟨g2, o2 + k * 5 + 2, none⟩ = some (.int .i64 kd2) := hc2 2 _ rfl
        have y3 : ∀ w', Below wr.heap.size wr w' → w'.cell? ⟨g2, o2 + k * 5 + 3, none⟩ = some (.int .i64 dl2) := hc2 3 _ rfl
        have y4 : ∀ w', Below wr.heap.size wr w' → w'.cell? ⟨g2, o2 + k * 5 + 4, none⟩ = some (.slice Ad2 da2.length cd2) := hc2 4 _ rfl
        have HC := Lib.hid hcall
        clear hcall hx hy hxs hys hcells hcells2 hrd hrd2 hc1 hc2 hka hkb
        generalize da.length = nd at *
        generalize da2.length = nd2 at *
        cases b with
        | true =>
          have HEQ2 := Lib.hid (HEQ.out.trans (hst.trans (Bool.true_and _)))
          clear hst HEQ
          go_wp2_with fail
          go_region_held (fun w' => Below wr.heap.size wr w')
            (first
              | assumption
              | exact (Below.refl _ _).drew
              | exact ext (by assumption) hb)
            ((go_at_call 48; refine (HC.out _ (by assumption)).mono ?_; rintro e w' ⟨rfl, hb⟩))
          have HB2 := Lib.hid (ext HBW.out (by assumption))
          clear x0 x1 x2 x3 x4 y0 y1 y2 y3 y4
          go_wp2
          go_roundw
          case rel => exact ⟨k + 1, by omega, by omega, by go_num, HB2.out, HEQ2.out⟩
          case measure => simp [intOf]; omega
        | false =>
          have HEQ2 := Lib.hid (HEQ.out.trans (hst.trans (Bool.false_and _)))
          clear hst HEQ
          go_wp2_with fail
          go_region_held (fun w' => Below wr.heap.size wr w')
            (first
              | assumption
              | exact (Below.refl _ _).drew
              | exact ext (by assumption) hb)
            ((go_at_call 48; refine (HC.out _ (by assumption)).mono ?_; rintro e w' ⟨rfl, hb⟩))
          have HB2 := Lib.hid (ext HBW.out (by assumption))
          clear x0 x1 x2 x3 x4 y0 y1 y2 y3 y4
          go_wp2
          go_ret
          rw [HEQ2.out]
          exact ⟨rfl, HB2.out⟩
      · have i2 : ¬ (k : Int) < (m : Int) := by omega
        have j2 : decide (k < m) = false := decide_eq_false h2
        obtain rfl : k = m := by omega
        have hd := HEQ.out.trans (sameEs_exit ds es k (by have := HN.out; omega) (by have := HM.out; omega) (.inr HM.out))
        rw [← HN.out, ← HM.out] at hd
        have HD := Lib.hid hd
        clear hd
        have e1 : ((n : Int) == (k : Int)) = decide (n = k) := by rw [show ((n : Int) == (k : Int)) = decide ((n : Int) = (k : Int)) from rfl]; exact decide_eq_decide.2 (by omega)
        have e2 : (n == k) = decide (n = k) := rfl
        go_wp2
        go_ret
        rw [HD.out]
        exact ⟨by first | rfl | (rw [← e1]) | (simp), HBW.out⟩
    · have i1 : ¬ (k : Int) < (n : Int) := by omega
      have j1 : decide (k < n) = false := decide_eq_false h1
      obtain rfl : k = n := by omega
      have hd := HEQ.out.trans (sameEs_exit ds es k (by have := HN.out; omega) (by have := HM.out; omega) (.inl HN.out))
      rw [← HN.out, ← HM.out] at hd
      have HD := Lib.hid hd
      clear hd
      have e1 : ((k : Int) == (m : Int)) = decide (k = m) := by rw [show ((k : Int) == (m : Int)) = decide ((k : Int) = (m : Int)) from rfl]; exact decide_eq_decide.2 (by omega)
      have e2 : (k == m) = decide (k = m) := rfl
      go_wp2
      go_ret
      rw [HD.out]
      exact ⟨by first | rfl | (rw [← e1]) | (simp), HBW.out⟩
set_option maxRecDepth 100000 in
set_option maxHeartbeats 8000000 in
theorem sameMsg_walk (w : World) (kd fr tt : Int) (tm ix lt cm rd : Nat) (ok : Bool) (E V L : Value) (fo : Int) (D : Option Addr) (dn dc : Nat) (da : List UInt8) (kd2 fr2 tt2 : Int) (tm2 ix2 lt2 cm2 rd2 : Nat) (ok2 : Bool) (E2 V2 L2 : Value) (fo2 : Int) (D2 : Option Addr) (dn2 dc2 : Nat) (da2 : List UInt8)
    (hdn : dn = da.length) (hdn2 : dn2 = da2.length) (hd : Lies w w.heap.size D da) (hd2 : Lies w w.heap.size D2 da2) (bE bC : Bool) (hE : ∀ w', Below w.heap.size w w' → Calls Tryz.prog 14 #[E, E2] w' (Says bE w')) (hC : ∀ w', Below w.heap.size w w' → Calls Tryz.prog 15 #[.agg #[V, L], .agg #[V2, L2]] w' (Says bC w')) :
    Calls Tryz.prog 7 #[.agg #[.int .i64 kd, .int .i64 fr, .int .i64 tt, .int .u64 (tm : Int), .int .u64 (ix : Int), .int .u64 (lt : Int), .int .u64 (cm : Int), .int .u64 (rd : Int), .bool ok, E, V, L, .int .i64 fo, .slice D dn dc], .agg #[.int .i64 kd2, .int .i64 fr2, .int .i64 tt2, .int .u64 (tm2 : Int), .int .u64 (ix2 : Int), .int .u64 (lt2 : Int), .int .u64 (cm2 : Int), .int .u64 (rd2 : Int), .bool ok2, E2, V2, L2, .int .i64 fo2, .slice D2 dn2 dc2]] w (Says (decide (kd = kd2) && (decide (fr = fr2) && (decide (tt = tt2) && (decide ((tm : Int) = (tm2 : Int)) && (decide ((ix : Int) = (ix2 : Int)) && (decide ((lt : Int) = (lt2 : Int)) && (decide ((cm : Int) = (cm2 : Int)) && (decide ((rd : Int) = (rd2 : Int)) && (decide (ok = ok2) && (decide (fo = fo2) && (bE && (bC && decide (da = da2))))))))))))) w) := by
  have hb0 : Below w.heap.size w ((w.alloc (.cells #[.int .i64 kd, .int .i64 fr, .int .i64 tt, .int .u64 (tm : Int), .int .u64 (ix : Int), .int .u64 (lt : Int), .int .u64 (cm : Int), .int .u64 (rd : Int), .bool ok, E, V, L, .int .i64 fo, .slice D dn dc] 29)).alloc (.cells #[.int .i64 kd2, .int .i64 fr2, .int .i64 tt2, .int .u64 (tm2 : Int), .int .u64 (ix2 : Int), .int .u64 (lt2 : Int), .int .u64 (cm2 : Int), .int .u64 (rd2 : Int), .bool ok2, E2, V2, L2, .int .i64 fo2, .slice D2 dn2 dc2] 29)) := ((Below.refl _ _).alloc (Nat.le_refl _) _).alloc (by simp) _
  have hr1 : ((w.alloc (.cells #[.int .i64 kd, .int .i64 fr, .int .i64 tt, .int .u64 (tm : Int), .int .u64 (ix : Int), .int .u64 (lt : Int), .int .u64 (cm : Int), .int .u64 (rd : Int), .bool ok, E, V, L, .int .i64 fo, .slice D dn dc] 29)).alloc (.cells #[.int .i64 kd2, .int .i64 fr2, .int .i64 tt2, .int .u64 (tm2 : Int), .int .u64 (ix2 : Int), .int .u64 (lt2 : Int), .int .u64 (cm2 : Int), .int .u64 (rd2 : Int), .bool ok2, E2, V2, L2, .int .i64 fo2, .slice D2 dn2 dc2] 29)).heap[w.heap.size]? = some (.cells #[.int .i64 kd, .int .i64 fr, .int .i64 tt, .int .u64 (tm : Int), .int .u64 (ix : Int), .int .u64 (lt : Int), .int .u64 (cm : Int), .int .u64 (rd : Int), .bool ok, E, V, L, .int .i64 fo, .slice D dn dc] 29 (0, 0)) := heap_alloc2_old w _ _
  have hr2 : ((w.alloc (.cells #[.int .i64 kd, .int .i64 fr, .int .i64 tt, .int .u64 (tm : Int), .int .u64 (ix : Int), .int .u64 (lt : Int), .int .u64 (cm : Int), .int .u64 (rd : Int), .bool ok, E, V, L, .int .i64 fo, .slice D dn dc] 29)).alloc (.cells #[.int .i64 kd2, .int .i64 fr2, .int .i64 tt2, .int .u64 (tm2 : Int), .int .u64 (ix2 : Int), .int .u64 (lt2 : Int), .int .u64 (cm2 : Int), .int .u64 (rd2 : Int), .bool ok2, E2, V2, L2, .int .i64 fo2, .slice D2 dn2 dc2] 29)).heap[w.heap.size + 1]? = some (.cells #[.int .i64 kd2, .int .i64 fr2, .int .i64 tt2, .int .u64 (tm2 : Int), .int .u64 (ix2 : Int), .int .u64 (lt2 : Int), .int .u64 (cm2 : Int), .int .u64 (rd2 : Int), .bool ok2, E2, V2, L2, .int .i64 fo2, .slice D2 dn2 dc2] 29 (0, 0)) := heap_alloc2_new w _ _
  have HE := Lib.hid hE
  have HC := Lib.hid hC
  have HB0 := Lib.hid hb0
  have HD := Lib.hid (hd.below hb0)
  have HD2 := Lib.hid (hd2.below hb0)
  have HN := Lib.hid hdn
  have HN2 := Lib.hid hdn2
  have HR1 := Lib.hid hr1
  have HR2 := Lib.hid hr2
  clear hE hC hb0 hd hd2 hdn hdn2 hr1 hr2
  by_cases u0 : kd = kd2
  case neg =>
    have e0 : (kd == kd2) = false := by rw [beq_eq_false_iff_ne]; exact u0
    have f0 : (kd != kd2) = true := by rw [bne_iff_ne]; exact u0
    have d0 : decide (kd = kd2) = false := decide_eq_false u0
    rw [d0, Bool.false_and]
    clear u0 d0
    go_enter Tryz.func7, Tryz.ntmps7
    go_wp2
    go_ret
    exact ⟨rfl, HB0.out⟩
  have e0 : (kd == kd2) = true := by rw [beq_iff_eq]; exact u0
  have f0 : (kd != kd2) = false := by rw [bne, e0]; rfl
  have d0 : decide (kd = kd2) = true := decide_eq_true u0
  rw [d0, Bool.true_and]
  clear u0 d0
  by_cases u1 : fr = fr2
  case neg =>
    have e1 : (fr == fr2) = false := by rw [beq_eq_false_iff_ne]; exact u1
    have f1 : (fr != fr2) = true := by rw [bne_iff_ne]; exact u1
    have d1 : decide (fr = fr2) = false := decide_eq_false u1
    rw [d1, Bool.false_and]
    clear u1 d1
    go_enter Tryz.func7, Tryz.ntmps7
    go_wp2
    go_ret
    exact ⟨rfl, HB0.out⟩
  have e1 : (fr == fr2) = true := by rw [beq_iff_eq]; exact u1
  have f1 : (fr != fr2) = false := by rw [bne, e1]; rfl
  have d1 : decide (fr = fr2) = true := decide_eq_true u1
  rw [d1, Bool.true_and]
  clear u1 d1
  by_cases u2 : tt = tt2
  case neg =>
    have e2 : (tt == tt2) = false := by rw [beq_eq_false_iff_ne]; exact u2
    have f2 : (tt != tt2) = true := by rw [bne_iff_ne]; exact u2
    have d2 : decide (tt = tt2) = false := decide_eq_false u2
    rw [d2, Bool.false_and]
    clear u2 d2
    go_enter Tryz.func7, Tryz.ntmps7
    go_wp2
    go_ret
    exact ⟨rfl, HB0.out⟩
  have e2 : (tt == tt2) = true := by rw [beq_iff_eq]; exact u2
  have f2 : (tt != tt2) = false := by rw [bne, e2]; rfl
  have d2 : decide (tt = tt2) = true := decide_eq_true u2
  rw [d2, Bool.true_and]
  clear u2 d2
  by_cases u3 : (tm : Int) = (tm2 : Int)
  case neg =>
    have e3 : ((tm : Int) == (tm2 : Int)) = false := by rw [beq_eq_false_iff_ne]; exact u3
    have f3 : ((tm : Int) != (tm2 : Int)) = true := by rw [bne_iff_ne]; exact u3
    have g3 : (tm == tm2) = false := by rw [beq_eq_false_iff_ne]; omega
    have h3 : (tm != tm2) = true := by rw [bne_iff_ne]; omega
    have d3 : decide ((tm : Int) = (tm2 : Int)) = false := decide_eq_false u3
    rw [d3, Bool.false_and]
    clear u3 d3
    go_enter Tryz.func7, Tryz.ntmps7
    go_wp2
    go_ret
    exact ⟨rfl, HB0.out⟩
  have e3 : ((tm : Int) == (tm2 : Int)) = true := by rw [beq_iff_eq]; exact u3
  have f3 : ((tm : Int) != (tm2 : Int)) = false := by rw [bne, e3]; rfl
  have g3 : (tm == tm2) = true := by rw [beq_iff_eq]; omega
  have h3 : (tm != tm2) = false := by rw [bne, g3]; rfl
  have d3 : decide ((tm : Int) = (tm2 : Int)) = true := decide_eq_true u3
  rw [d3, Bool.true_and]
  clear u3 d3
  by_cases u4 : (ix : Int) = (ix2 : Int)
  case neg =>
    have e4 : ((ix : Int) == (ix2 : Int)) = false := by rw [beq_eq_false_iff_ne]; exact u4
    have f4 : ((ix : Int) != (ix2 : Int)) = true := by rw [bne_iff_ne]; exact u4
    have g4 : (ix == ix2) = false := by rw [beq_eq_false_iff_ne]; omega
    have h4 : (ix != ix2) = true := by rw [bne_iff_ne]; omega
    have d4 : decide ((ix : Int) = (ix2 : Int)) = false := decide_eq_false u4
    rw [d4, Bool.false_and]
    clear u4 d4
    go_enter Tryz.func7, Tryz.ntmps7
    go_wp2
    go_ret
    exact ⟨rfl, HB0.out⟩
  have e4 : ((ix : Int) == (ix2 : Int)) = true := by rw [beq_iff_eq]; exact u4
  have f4 : ((ix : Int) != (ix2 : Int)) = false := by rw [bne, e4]; rfl
  have g4 : (ix == ix2) = true := by rw [beq_iff_eq]; omega
  have h4 : (ix != ix2) = false := by rw [bne, g4]; rfl
  have d4 : decide ((ix : Int) = (ix2 : Int)) = true := decide_eq_true u4
  rw [d4, Bool.true_and]
  clear u4 d4
  by_cases u5 : (lt : Int) = (lt2 : Int)
  case neg =>
    have e5 : ((lt : Int) == (lt2 : Int)) = false := by rw [beq_eq_false_iff_ne]; exact u5
    have f5 : ((lt : Int) != (lt2 : Int)) = true := by rw [bne_iff_ne]; exact u5
    have g5 : (lt == lt2) = false := by rw [beq_eq_false_iff_ne]; omega
    have h5 : (lt != lt2) = true := by rw [bne_iff_ne]; omega
    have d5 : decide ((lt : Int) = (lt2 : Int)) = false := decide_eq_false u5
    rw [d5, Bool.false_and]
    clear u5 d5
    go_enter Tryz.func7, Tryz.ntmps7
    go_wp2
    go_ret
    exact ⟨rfl, HB0.out⟩
  have e5 : ((lt : Int) == (lt2 : Int)) = true := by rw [beq_iff_eq]; exact u5
  have f5 : ((lt : Int) != (lt2 : Int)) = false := by rw [bne, e5]; rfl
  have g5 : (lt == lt2) = true := by rw [beq_iff_eq]; omega
  have h5 : (lt != lt2) = false := by rw [bne, g5]; rfl
  have d5 : decide ((lt : Int) = (lt2 : Int)) = true := decide_eq_true u5
  rw [d5, Bool.true_and]
  clear u5 d5
  by_cases u6 : (cm : Int) = (cm2 : Int)
  case neg =>
    have e6 : ((cm : Int) == (cm2 : Int)) = false := by rw [beq_eq_false_iff_ne]; exact u6
    have f6 : ((cm : Int) != (cm2 : Int)) = true := by rw [bne_iff_ne]; exact u6
    have g6 : (cm == cm2) = false := by rw [beq_eq_false_iff_ne]; omega
    have h6 : (cm != cm2) = true := by rw [bne_iff_ne]; omega
    have d6 : decide ((cm : Int) = (cm2 : Int)) = false := decide_eq_false u6
    rw [d6, Bool.false_and]
    clear u6 d6
    go_enter Tryz.func7, Tryz.ntmps7
    go_wp2
    go_ret
    exact ⟨rfl, HB0.out⟩
  have e6 : ((cm : Int) == (cm2 : Int)) = true := by rw [beq_iff_eq]; exact u6
  have f6 : ((cm : Int) != (cm2 : Int)) = false := by rw [bne, e6]; rfl
  have g6 : (cm == cm2) = true := by rw [beq_iff_eq]; omega
  have h6 : (cm != cm2) = false := by rw [bne, g6]; rfl
  have d6 : decide ((cm : Int) = (cm2 : Int)) = true := decide_eq_true u6
  rw [d6, Bool.true_and]
  clear u6 d6
  by_cases u7 : (rd : Int) = (rd2 : Int)
  case neg =>
    have e7 : ((rd : Int) == (rd2 : Int)) = false := by rw [beq_eq_false_iff_ne]; exact u7
    have f7 : ((rd : Int) != (rd2 : Int)) = true := by rw [bne_iff_ne]; exact u7
    have g7 : (rd == rd2) = false := by rw [beq_eq_false_iff_ne]; omega
    have h7 : (rd != rd2) = true := by rw [bne_iff_ne]; omega
    have d7 : decide ((rd : Int) = (rd2 : Int)) = false := decide_eq_false u7
    rw [d7, Bool.false_and]
    clear u7 d7
    go_enter Tryz.func7, Tryz.ntmps7
    go_wp2
    go_ret
    exact ⟨rfl, HB0.out⟩
  have e7 : ((rd : Int) == (rd2 : Int)) = true := by rw [beq_iff_eq]; exact u7
  have f7 : ((rd : Int) != (rd2 : Int)) = false := by rw [bne, e7]; rfl
  have g7 : (rd == rd2) = true := by rw [beq_iff_eq]; omega
  have h7 : (rd != rd2) = false := by rw [bne, g7]; rfl
  have d7 : decide ((rd : Int) = (rd2 : Int)) = true := decide_eq_true u7
  rw [d7, Bool.true_and]
  clear u7 d7
  by_cases u8 : ok = ok2
  case neg =>
    have e8 : (ok == ok2) = false := by rw [beq_eq_false_iff_ne]; exact u8
    have f8 : (ok != ok2) = true := by rw [bne_iff_ne]; exact u8
    have d8 : decide (ok = ok2) = false := decide_eq_false u8
    rw [d8, Bool.false_and]
    clear u8 d8
    go_enter Tryz.func7, Tryz.ntmps7
    go_wp2
    go_ret
    exact ⟨rfl, HB0.out⟩
  have e8 : (ok == ok2) = true := by rw [beq_iff_eq]; exact u8
  have f8 : (ok != ok2) = false := by rw [bne, e8]; rfl
  have d8 : decide (ok = ok2) = true := decide_eq_true u8
  rw [d8, Bool.true_and]
  clear u8 d8
  by_cases u9 : fo = fo2
  case neg =>
    have e9 : (fo == fo2) = false := by rw [beq_eq_false_iff_ne]; exact u9
    have f9 : (fo != fo2) = true := by rw [bne_iff_ne]; exact u9
    have d9 : decide (fo = fo2) = false := decide_eq_false u9
    rw [d9, Bool.false_and]
    clear u9 d9
    go_enter Tryz.func7, Tryz.ntmps7
    go_wp2
    go_ret
    exact ⟨rfl, HB0.out⟩
  have e9 : (fo == fo2) = true := by rw [beq_iff_eq]; exact u9
  have f9 : (fo != fo2) = false := by rw [bne, e9]; rfl
  have d9 : decide (fo = fo2) = true := decide_eq_true u9
  rw [d9, Bool.true_and]
  clear u9 d9
  have t3 := text_eq da da2
  generalize decide (da = da2) = b5 at t3 ⊢
  have HT3 := Lib.hid t3
  clear t3
  go_enter Tryz.func7, Tryz.ntmps7
  go_wp2_with fail
  refine (HE.out _ HB0.out).mono ?_
  rintro e w1 ⟨rfl, hb1⟩
  have hr1 := (hb1.block _ (row_lt HR1.out)).trans HR1.out
  have hr2 := (hb1.block _ (row_lt HR2.out)).trans HR2.out
  have HB1 := Lib.hid (By.ext HB0.out hb1)
  have HD := Lib.hid ((HD.out.below (hb1.mono HB0.out.size)))
  have HD2 := Lib.hid ((HD2.out.below (hb1.mono HB0.out.size)))
  have c1 : w1.cell? ⟨w.heap.size, 10, none⟩ = some V := by rw [cell_of_row w1 _ 10 _ _ _ hr1]; rfl
  have c2 : w1.cell? ⟨w.heap.size, 10 + 1, none⟩ = some L := by rw [cell_of_row w1 _ 11 _ _ _ hr1]; rfl
  have c3 : w1.cell? ⟨w.heap.size + 1, 10, none⟩ = some V2 := by rw [cell_of_row w1 _ 10 _ _ _ hr2]; rfl
  have c4 : w1.cell? ⟨w.heap.size + 1, 10 + 1, none⟩ = some L2 := by rw [cell_of_row w1 _ 11 _ _ _ hr2]; rfl
  have HR1 := Lib.hid hr1
  have HR2 := Lib.hid hr2
  clear hb1 hr1 hr2
  cases bE with
  | false =>
    go_wp2
    go_ret
    exact ⟨rfl, HB1.out⟩
  | true =>
    go_wp2_with fail
    refine (HC.out _ HB1.out).mono ?_
    rintro e w2 ⟨rfl, hb2⟩
    have hr1 := (hb2.block _ (row_lt HR1.out)).trans HR1.out
    have hr2 := (hb2.block _ (row_lt HR2.out)).trans HR2.out
    have HB2 := Lib.hid (By.ext HB1.out hb2)
    have e1 : w2.cell? ⟨w.heap.size, 13, none⟩ = some (.slice D dn dc) := by rw [cell_of_row w2 _ 13 _ _ _ hr1]; rfl
    have e2 : w2.cell? ⟨w.heap.size + 1, 13, none⟩ = some (.slice D2 dn2 dc2) := by rw [cell_of_row w2 _ 13 _ _ _ hr2]; rfl
    have t1 := run_text w2 dc HN.out (HD.out.below (hb2.mono HB1.out.size))
    have t2 := run_text w2 dc2 HN2.out (HD2.out.below (hb2.mono HB1.out.size))
    have t3 := HT3.out
    clear hb2 hr1 hr2 c1 c2 c3 c4 HT3
    cases bC with
    | false =>
      go_wp2
      go_ret
      exact ⟨rfl, HB2.out⟩
    | true =>
      go_wp2
      go_ret
      exact ⟨rfl, HB2.out⟩
theorem same_msg {xs ys : List Value} {d e : Data} (w : World) (h : msgK.rep w (Old w) xs d) (k : msgK.rep w (Old w) ys e) : Calls Tryz.prog 7 #[.agg xs.toArray, .agg ys.toArray] w (Says (sameM d e) w) := by
  obtain ⟨kd, fr, tt, tm, ix, lt, cm, rd, ok, Ae, ce, es, A, c, vs, A2, c2, ls, fo, A3, c3, da, rfl, rfl, _, _, ⟨_, he⟩, ⟨_, _, _, _, _, _, hcf⟩, _, _, hd⟩ := msg_shape h
  obtain ⟨kd2, fr2, tt2, tm2, ix2, lt2, cm2, rd2, ok2, Ae2, ce2, es2, B, b, us, B2, b2, ks, fo2, B3, b3, da2, rfl, rfl, _, _, ⟨_, he2⟩, ⟨_, _, _, _, _, _, hcf2⟩, _, _, hd2⟩ := msg_shape k
  have e : sameM (msgD kd fr tt tm ix lt cm rd ok es vs ls fo da) (msgD kd2 fr2 tt2 tm2 ix2 lt2 cm2 rd2 ok2 es2 us ks fo2 da2) = (decide (kd = kd2) && (decide (fr = fr2) && (decide (tt = tt2) && (decide ((tm : Int) = (tm2 : Int)) && (decide ((ix : Int) = (ix2 : Int)) && (decide ((lt : Int) = (lt2 : Int)) && (decide ((cm : Int) = (cm2 : Int)) && (decide ((rd : Int) = (rd2 : Int)) && (decide (ok = ok2) && (decide (fo = fo2) && (sameEs es es2 && ((decide (vs = us) && decide (ls = ks)) && decide (da = da2))))))))))))) := by
    rw [← sameC_conf]
    rfl
  rw [e]
  exact sameMsg_walk w kd fr tt tm ix lt cm rd ok _ _ _ fo A3 _ c3 da kd2 fr2 tt2 tm2 ix2 lt2 cm2 rd2 ok2 _ _ _ fo2 B3 _ b3 da2 rfl rfl hd hd2 _ _
    (fun w' hb => sameEntries_any _ _ _ _ _ _ _ _ w' (entsK_ok.below he hb) (entsK_ok.below he2 hb)) (fun w' hb => same_conf w' (confK_ok.below hcf hb) (confK_ok.below hcf2 hb))
theorem sameEs_refl : ∀ {es : List Data} (_ : ∀ d ∈ es, sameE d d = true), sameEs es es = true := by
  intro es
  induction es with
  | nil => intro _; rfl
  | cons d t ih =>
    intro h
    show (sameE d d && sameEs t t) = true
    rw [h d List.mem_cons_self, ih (fun x hx => h x (List.mem_cons_of_mem _ hx))]
    rfl
theorem ents_each {w : World} {S : Nat → Prop} {v : Value} {es : List Data} (h : entsK.rep w S [v] (.agg es)) : ∀ d ∈ es, ∃ (ix tm : Nat) (kd dl : Int) (da : List UInt8), d = entryD ix tm kd dl da := by
  obtain ⟨A, c, ds, _, e, _, _, hl⟩ := h
  obtain rfl := Data.agg.inj e
  intro d hd
  obtain ⟨j, hj, rfl⟩ := List.mem_iff_getElem.1 hd
  obtain ⟨g, o, _, _, hc⟩ := hl (by omega)
  obtain ⟨us, hr, _⟩ := hc j es[j] (List.getElem?_eq_getElem hj)
  obtain ⟨ix, tm, kd, dl, A, c, da, _, e2, _⟩ := entry_shape hr
  exact ⟨ix, tm, kd, dl, da, e2⟩
/-- A message is the same as itself; what is the same is one. -/
theorem sameM_refl {w : World} {xs : List Value} {d : Data} (h : msgK.rep w (Old w) xs d) : sameM d d = true := by
  obtain ⟨kd, fr, tt, tm, ix, lt, cm, rd, ok, Ae, ce, es, A, c, vs, A2, c2, ls, fo, A3, c3, da, _, rfl, _, _, ⟨_, he⟩, _⟩ := msg_shape h
  have h1 : sameEs es es = true := sameEs_refl (fun d hd => by
    obtain ⟨ix, tm, kd, dl, da, rfl⟩ := ents_each he d hd
    exact sameE_refl ix tm kd dl da)
  have h2 : sameC (confD vs ls) (confD vs ls) = true := by rw [sameC_conf]; simp
  simp only [sameM, msgD, h1, h2, decide_true, Bool.and_true]
theorem sameEs_eq : ∀ {es fs : List Data} (_ : ∀ d ∈ es, ∃ (ix tm : Nat) (kd dl : Int) (da : List UInt8), d = entryD ix tm kd dl da) (_ : ∀ d ∈ fs, ∃ (ix tm : Nat) (kd dl : Int) (da : List UInt8), d = entryD ix tm kd dl da), sameEs es fs = true → es = fs := by
  intro es
  induction es with
  | nil =>
    intro fs _ _ h
    cases fs with
    | nil => rfl
    | cons x t => cases h
  | cons d t ih =>
    intro fs h1 h2 h
    cases fs with
    | nil => cases h
    | cons x u =>
      have h' : (sameE d x && sameEs t u) = true := h
      rw [Bool.and_eq_true] at h'
      obtain ⟨ix, tm, kd, dl, da, rfl⟩ := h1 d List.mem_cons_self
      obtain ⟨ix2, tm2, kd2, dl2, da2, rfl⟩ := h2 x List.mem_cons_self
      rw [sameE_eq h'.1, ih (fun y hy => h1 y (List.mem_cons_of_mem _ hy)) (fun y hy => h2 y (List.mem_cons_of_mem _ hy)) h'.2]
theorem sameM_eq {w w2 : World} {xs ys : List Value} {d e : Data} (h : msgK.rep w (Old w) xs d) (k : msgK.rep w2 (Old w2) ys e) (hs : sameM d e = true) : d = e := by
  obtain ⟨kd, fr, tt, tm, ix, lt, cm, rd, ok, Ae, ce, es, A, c, vs, A2, c2, ls, fo, A3, c3, da, _, rfl, _, _, ⟨_, he⟩, _⟩ := msg_shape h
  obtain ⟨kd2, fr2, tt2, tm2, ix2, lt2, cm2, rd2, ok2, Ae2, ce2, es2, B, b, us, B2, b2, ks, fo2, B3, b3, da2, _, rfl, _, _, ⟨_, he2⟩, _⟩ := msg_shape k
  simp only [sameM, msgD, sameC_conf, Bool.and_eq_true, decide_eq_true_eq] at hs
  obtain ⟨h1, h2, h3, h4, h5, h6, h7, h8, h9, h10, h11, ⟨h12, h13⟩, h14⟩ := hs
  have h15 := sameEs_eq (ents_each he) (ents_each he2) h11
  simp only [msgD, h1, h2, h3, h4, h5, h6, h7, h8, h9, h10, h12, h13, h14, h15]
end Go.Proofs.YtnmcaifecfaoiaaGreat.Kd
