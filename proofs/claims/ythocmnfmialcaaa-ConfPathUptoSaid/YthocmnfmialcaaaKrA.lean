/- Package scupperref03's SameInts, SameConf, SameEntry, as contracts of calls. Written by gensame.py. -/
import Derived.Test.YthocmnfmialcaaaGO
import Derived.Deep.QuietTactic
import Derived.BigQuiet
namespace Go.Proofs.Ythocmnfmialcaaa.Kd
open Go.RowKit By CoP Co Mo

theorem confD_inj {vs ls us ks : List Int} (h : confD vs ls = confD us ks) : vs = us ∧ ls = ks := by
  have hl : ∀ {a b : List Int}, a.map litZ = b.map litZ → a = b := fun {a b} e => by
    have := congrArg (List.map datI) e
    rwa [map_datI, map_datI] at this
  simp only [confD, Data.agg.injEq, List.cons.injEq, and_true] at h
  exact ⟨hl h.1, hl h.2⟩
theorem text_eq (a b : List UInt8) : ((str a).toList == (str b).toList) = decide (a = b) := by
  by_cases h : a = b
  · rw [decide_eq_true h, h]; exact beq_self_eq_true _
  · rw [decide_eq_false h, beq_eq_false_iff_ne]
    intro e
    refine h ?_
    rw [ByteArray.toList_eq, ByteArray.toList_eq] at e
    simpa [str] using e
set_option maxHeartbeats 1000000 in
theorem sameInts_any (A A2 : Option Addr) (n c m c2 B : Nat) (a b : List Int) (hn : n = a.length) (hm : m = b.length) (hn47 : n ≤ 140737488355328) (hm47 : m ≤ 140737488355328) (w : World) (hr : LiesI w B A a) (hr2 : LiesI w B A2 b) :
    Calls Try.prog 36 #[.slice A n c, .slice A2 m c2] w (RetQ (.bool (decide (a = b))) w) := by
  have HN := Lib.hid hn
  have HM := Lib.hid hm
  have HR := Lib.hid hr
  have HR2 := Lib.hid hr2
  clear hn hm hr hr2
  go_enter Try.func36, Try.ntmps36
  go_wp2
  go_loopw [5] (fun i wr => ∃ (k q : Nat), k ≤ n ∧ k ≤ m ∧ i = .int .i64 k ∧ wr = w.drewN q ∧ a.take k = b.take k) (fun i _ => n - (intOf i).toNat)
  case atStart => exact ⟨0, 0, Nat.zero_le _, Nat.zero_le _, rfl, rfl, rfl⟩
  case round =>
    obtain ⟨k, q, hk, hk2, rfl, rfl, heq⟩ := hrel
    have HEQ := Lib.hid heq
    clear heq
    by_cases h1 : k < n
    · have i1 : (k : Int) < (n : Int) := by omega
      have j1 : decide (k < n) = true := decide_eq_true h1
      by_cases h2 : k < m
      · have i2 : (k : Int) < (m : Int) := by omega
        have j2 : decide (k < m) = true := decide_eq_true h2
        have hka : k < a.length := by have := HN.out; omega
        have hkb : k < b.length := by have := HM.out; omega
        obtain ⟨g, o, rfl, hg, hc, hx0, hx1⟩ := HR.out.at_ hka
        obtain ⟨g2, o2, rfl, hg2, hc2, hy0, hy1⟩ := HR2.out.at_ hkb
        have HT1 := Lib.hid (List.take_succ_eq_append_getElem hka)
        have HT2 := Lib.hid (List.take_succ_eq_append_getElem hkb)
        have HX := Lib.hid (List.getElem?_eq_getElem hka)
        have HY := Lib.hid (List.getElem?_eq_getElem hkb)
        generalize a[k] = x at hc hx0 hx1 HT1 HX
        generalize b[k] = y at hc2 hy0 hy1 HT2 HY
        clear hka hkb
        by_cases he : x = y
        · subst he
          have HEQ2 := Lib.hid (show a.take (k + 1) = b.take (k + 1) by rw [HT1.out, HT2.out, HEQ.out])
          go_wp2
          go_quiet (fail)
          go_wp2
          go_roundw
          case rel => exact ⟨k + 1, _, by omega, by omega, by go_num, rfl, HEQ2.out⟩
          case measure => simp [intOf]; omega
        · have e1 : (x == y) = false := by rw [beq_eq_false_iff_ne]; exact he
          have e2 : (x != y) = true := by rw [bne_iff_ne]; exact he
          have HD := Lib.hid (show decide (a = b) = false from decide_eq_false (fun e => he (by
            have h3 := HX.out
            rw [e, HY.out] at h3
            exact (Option.some.inj h3).symm)))
          clear he
          go_wp2
          go_quiet (fail)
          go_wp2
          go_ret
          rw [HD.out]
          exact ⟨rfl, _, drewN2 _ _ _⟩
      · have i2 : ¬ (k : Int) < (m : Int) := by omega
        have j2 : decide (k < m) = false := decide_eq_false h2
        obtain rfl : k = m := by omega
        have hd : decide (a = b) = decide (n = k) := by
          refine decide_eq_decide.2 ⟨fun e => by rw [HN.out, HM.out, e], fun e => ?_⟩
          have h1 := HEQ.out
          have h2 := HN.out
          have h3 := HM.out
          rw [List.take_of_length_le (by omega), List.take_of_length_le (by omega)] at h1
          exact h1
        have HD := Lib.hid hd
        clear hd HEQ
        by_cases hnm : n = k
        · have t1 : ((n : Int) == (k : Int)) = true := by rw [beq_iff_eq]; omega
          have HDM := Lib.hid (decide_eq_true hnm)
          have t2 : (n == k) = true := by rw [beq_iff_eq]; exact hnm
          clear hnm
          go_wp2
          go_ret
          rw [HD.out, HDM.out]
          exact ⟨rfl, q, rfl⟩
        · have t1 : ((n : Int) == (k : Int)) = false := by rw [beq_eq_false_iff_ne]; omega
          have HDM := Lib.hid (decide_eq_false hnm)
          have t2 : (n == k) = false := by rw [beq_eq_false_iff_ne]; exact hnm
          clear hnm
          go_wp2
          go_ret
          rw [HD.out, HDM.out]
          exact ⟨rfl, q, rfl⟩
    · have i1 : ¬ (k : Int) < (n : Int) := by omega
      have j1 : decide (k < n) = false := decide_eq_false h1
      obtain rfl : k = n := by omega
      have hd : decide (a = b) = decide (k = m) := by
        refine decide_eq_decide.2 ⟨fun e => by rw [HN.out, HM.out, e], fun e => ?_⟩
        have h1 := HEQ.out
        have h2 := HN.out
        have h3 := HM.out
        rw [List.take_of_length_le (by omega), List.take_of_length_le (by omega)] at h1
        exact h1
      have HD := Lib.hid hd
      clear hd HEQ
      by_cases hnm : k = m
      · have t1 : ((k : Int) == (m : Int)) = true := by rw [beq_iff_eq]; omega
        have HDM := Lib.hid (decide_eq_true hnm)
        have t2 : (k == m) = true := by rw [beq_iff_eq]; exact hnm
        clear hnm
        go_wp2
        go_ret
        rw [HD.out, HDM.out]
        exact ⟨rfl, q, rfl⟩
      · have t1 : ((k : Int) == (m : Int)) = false := by rw [beq_eq_false_iff_ne]; omega
        have HDM := Lib.hid (decide_eq_false hnm)
        have t2 : (k == m) = false := by rw [beq_eq_false_iff_ne]; exact hnm
        clear hnm
        go_wp2
        go_ret
        rw [HD.out, HDM.out]
        exact ⟨rfl, q, rfl⟩

set_option maxHeartbeats 1000000 in
theorem sameConf_any (A A2 A3 A4 : Option Addr) (n c m c2 n3 c3 n4 c4 B : Nat) (vs ls us ks : List Int) (hn : n = vs.length) (hm : m = ls.length) (hn3 : n3 = us.length) (hn4 : n4 = ks.length) (hn47 : n ≤ 140737488355328) (hm47 : m ≤ 140737488355328) (h347 : n3 ≤ 140737488355328) (h447 : n4 ≤ 140737488355328)
    (w : World) (hB : B ≤ w.heap.size) (hr : LiesI w B A vs) (hr2 : LiesI w B A2 ls) (hr3 : LiesI w B A3 us) (hr4 : LiesI w B A4 ks) :
    Calls Try.prog 21 #[.agg #[.slice A n c, .slice A2 m c2], .agg #[.slice A3 n3 c3, .slice A4 n4 c4]] w (Says (decide (vs = us) && decide (ls = ks)) w) := by
  have hb0 : Below w.heap.size w ((w.alloc (.cells #[.slice A n c, .slice A2 m c2] 24)).alloc (.cells #[.slice A3 n3 c3, .slice A4 n4 c4] 24)) := ((Below.refl _ _).alloc (Nat.le_refl _) _).alloc (by simp) _
  have hc1 : ∀ w', Below w.heap.size w w' → Calls Try.prog 36 #[.slice A n c, .slice A3 n3 c3] w' (RetQ (.bool (decide (vs = us))) w') := fun w' h => sameInts_any A A3 n c n3 c3 B vs us hn hn3 hn47 h347 w' (hr.below (h.mono hB)) (hr3.below (h.mono hB))
  have hc2 : ∀ w', Below w.heap.size w w' → Calls Try.prog 36 #[.slice A2 m c2, .slice A4 n4 c4] w' (RetQ (.bool (decide (ls = ks))) w') := fun w' h => sameInts_any A2 A4 m c2 n4 c4 B ls ks hm hn4 hm47 h447 w' (hr2.below (h.mono hB)) (hr4.below (h.mono hB))
  generalize decide (vs = us) = b1 at hc1 ⊢
  generalize decide (ls = ks) = b2 at hc2 ⊢
  have HC1 := Lib.hid hc1
  have HC2 := Lib.hid hc2
  have HB0 := Lib.hid hb0
  clear hc1 hc2 hb0 hr hr2 hr3 hr4 hn hm hn3 hn4
  cases b1 with
  | false =>
    go_enter Try.func21, Try.ntmps21
    go_wp2_with fail
    refine (HC1.out _ HB0.out).mono ?_
    rintro e w1 ⟨rfl, q, rfl⟩
    go_wp2
    go_ret
    exact ⟨rfl, below_drewN HB0.out _⟩
  | true =>
    go_enter Try.func21, Try.ntmps21
    go_wp2_with fail
    refine (HC1.out _ HB0.out).mono ?_
    rintro e w1 ⟨rfl, q, rfl⟩
    go_wp2_with fail
    refine (HC2.out _ (below_drewN HB0.out q)).mono ?_
    rintro e w2 ⟨rfl, q2, rfl⟩
    go_wp2
    go_ret
    exact ⟨rfl, below_drewN HB0.out _⟩
/-- Two entries, as data: the same? -/
def sameE : Data → Data → Bool
  | .agg [.lit (.int _ a), .lit (.int _ b), .lit (.int _ c), .lit (.int _ e), .lit (.string s)], .agg [.lit (.int _ a2), .lit (.int _ b2), .lit (.int _ c2), .lit (.int _ e2), .lit (.string s2)] => decide (a = a2) && (decide (b = b2) && (decide (c = c2) && (decide (e = e2) && decide (s = s2))))
  | _, _ => false
theorem sameE_refl (ix tm : Nat) (kd dl : Int) (da : List UInt8) : sameE (entryD ix tm kd dl da) (entryD ix tm kd dl da) = true := by
  simp [sameE, entryD]
theorem sameE_eq {ix tm : Nat} {kd dl : Int} {da : List UInt8} {ix2 tm2 : Nat} {kd2 dl2 : Int} {da2 : List UInt8} (h : sameE (entryD ix tm kd dl da) (entryD ix2 tm2 kd2 dl2 da2) = true) : entryD ix tm kd dl da = entryD ix2 tm2 kd2 dl2 da2 := by
  simp only [sameE, entryD, Bool.and_eq_true, decide_eq_true_eq] at h
  obtain ⟨h1, h2, h3, h4, h5⟩ := h
  simp only [entryD, h1, h2, h3, h4, h5]
theorem same_conf {xs ys : List Value} {vs ls us ks : List Int} (w : World) (h : confK.rep w (Old w) xs (confD vs ls)) (k : confK.rep w (Old w) ys (confD us ks)) : Calls Try.prog 21 #[.agg xs.toArray, .agg ys.toArray] w (Says (decide (vs = us) && decide (ls = ks)) w) := by
  obtain ⟨A, c, l, A2, c2, l2, rfl, e1, _, h2, h3, _, h5, h6⟩ := confK_shape h
  obtain ⟨A3, c3, l3, A4, c4, l4, rfl, e2, _, k2, k3, _, k5, k6⟩ := confK_shape k
  obtain ⟨rfl, rfl⟩ := confD_inj e1
  obtain ⟨rfl, rfl⟩ := confD_inj e2
  exact sameConf_any A A2 A3 A4 _ c _ c2 _ c3 _ c4 w.heap.size vs ls us ks rfl rfl rfl rfl h2 h5 k2 k5 w (Nat.le_refl _) h3 h6 k3 k6
end Go.Proofs.Ythocmnfmialcaaa.Kd
