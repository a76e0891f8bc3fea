/- Package scupperref03's SameInts, SameConf, SameEntry, as contracts of calls. Written by gensame.py. -/
import Derived.Test.YtdbaajgkcjpnoaaGreatGO
import Derived.Deep.QuietTactic
import Derived.BigQuiet
namespace Go.Proofs.YtdbaajgkcjpnoaaGreat.Kd
open Go.RowKit By CoP Co Mo

theorem confD_inj {vs ls us ks : List Int} (h : confD vs ls = confD us ks) : vs = us ∧ ls = ks := by
  have hl : ∀ {a b : List Int}, a.map litZ = b.map litZ → a = b := fun {a b} e => by
    have := congrArg (List.map datI) e
    rwa [map_datI, map_datI] at this
  simp only [confD, Data.agg.injEq, List.cons.injEq, and_true] at h
  exact ⟨hl h.1, hl h.2⟩
theorem text_eq (a b : List UInt8) : ((str a).toList == (str b).toList) = decide (a = b) := by
  by_cases h : a = b
  · rw [decide_eq_true h, h]; exact beq_self_eq_true _
  · rw [decide_eq_false h, beq_eq_false_iff_ne]
    intro e
    refine h ?_
    rw [ByteArray.toList_eq, ByteArray.toList_eq] at e
    simpa [str] using e
/-- Two entries, as data: the same? -/
def sameE : Data → Data → Bool
  | .agg [.lit (.int _ a), .lit (.int _ b), .lit (.int _ c), .lit (.int _ e), .lit (.string s)], .agg [.lit (.int _ a2), .lit (.int _ b2), .lit (.int _ c2), .lit (.int _ e2), .lit (.string s2)] => decide (a = a2) && (decide (b = b2) && (decide (c = c2) && (decide (e = e2) && decide (s = s2))))
  | _, _ => false
theorem sameE_refl (ix tm : Nat) (kd dl : Int) (da : List UInt8) : sameE (entryD ix tm kd dl da) (entryD ix tm kd dl da) = true := by
  simp [sameE, entryD]
theorem sameE_eq {ix tm : Nat} {kd dl : Int} {da : List UInt8} {ix2 tm2 : Nat} {kd2 dl2 : Int} {da2 : List UInt8} (h : sameE (entryD ix tm kd dl da) (entryD ix2 tm2 kd2 dl2 da2) = true) : entryD ix tm kd dl da = entryD ix2 tm2 kd2 dl2 da2 := by
  simp only [sameE, entryD, Bool.and_eq_true, decide_eq_true_eq] at h
  obtain ⟨h1, h2, h3, h4, h5⟩ := h
  simp only [entryD, h1, h2, h3, h4, h5]
set_option maxHeartbeats 2000000 in
theorem sameEntry_any (w : World) (ix tm : Nat) (kd dl : Int) (A : Option Addr) (n c : Nat) (da : List UInt8) (ix2 tm2 : Nat) (kd2 dl2 : Int) (A2 : Option Addr) (m c2 : Nat) (da2 : List UInt8) (hn : n = da.length) (hm : m = da2.length) (hr : Lies w w.heap.size A da) (hr2 : Lies w w.heap.size A2 da2) :
    Calls Tryz.prog 46 #[.agg #[.int .u64 (ix : Int), .int .u64 (tm : Int), .int .i64 kd, .int .i64 dl, .slice A n c], .agg #[.int .u64 (ix2 : Int), .int .u64 (tm2 : Int), .int .i64 kd2, .int .i64 dl2, .slice A2 m c2]] w (Says (decide ((ix : Int) = ix2) && (decide ((tm : Int) = tm2) && (decide (kd = kd2) && (decide (dl = dl2) && decide (da = da2))))) w) := by
  have hb0 : Below w.heap.size w ((w.alloc (.cells #[.int .u64 (ix : Int), .int .u64 (tm : Int), .int .i64 kd, .int .i64 dl, .slice A n c] 39)).alloc (.cells #[.int .u64 (ix2 : Int), .int .u64 (tm2 : Int), .int .i64 kd2, .int .i64 dl2, .slice A2 m c2] 39)) := ((Below.refl _ _).alloc (Nat.le_refl _) _).alloc (by simp) _
  have t1 : (convert 37 9 (.slice A n c)).run Tryz.prog ((w.alloc (.cells #[.int .u64 (ix : Int), .int .u64 (tm : Int), .int .i64 kd, .int .i64 dl, .slice A n c] 39)).alloc (.cells #[.int .u64 (ix2 : Int), .int .u64 (tm2 : Int), .int .i64 kd2, .int .i64 dl2, .slice A2 m c2] 39)) = .ok (.string (str da)) ((w.alloc (.cells #[.int .u64 (ix : Int), .int .u64 (tm : Int), .int .i64 kd, .int .i64 dl, .slice A n c] 39)).alloc (.cells #[.int .u64 (ix2 : Int), .int .u64 (tm2 : Int), .int .i64 kd2, .int .i64 dl2, .slice A2 m c2] 39)) := run_text _ c hn (hr.below hb0)
  have t2 : (convert 37 9 (.slice A2 m c2)).run Tryz.prog ((w.alloc (.cells #[.int .u64 (ix : Int), .int .u64 (tm : Int), .int .i64 kd, .int .i64 dl, .slice A n c] 39)).alloc (.cells #[.int .u64 (ix2 : Int), .int .u64 (tm2 : Int), .int .i64 kd2, .int .i64 dl2, .slice A2 m c2] 39)) = .ok (.string (str da2)) ((w.alloc (.cells #[.int .u64 (ix : Int), .int .u64 (tm : Int), .int .i64 kd, .int .i64 dl, .slice A n c] 39)).alloc (.cells #[.int .u64 (ix2 : Int), .int .u64 (tm2 : Int), .int .i64 kd2, .int .i64 dl2, .slice A2 m c2] 39)) := run_text _ c2 hm (hr2.below hb0)
  have t3 := text_eq da da2
  generalize decide (da = da2) = b5 at t3 ⊢
  have HB0 := Lib.hid hb0
  clear hb0 hr hr2 hn hm
  by_cases u0 : (ix : Int) = (ix2 : Int)
  case neg =>
    have e0 : ((ix : Int) == (ix2 : Int)) = false := by rw [beq_eq_false_iff_ne]; exact u0
    have g0 : (ix == ix2) = false := by rw [beq_eq_false_iff_ne]; omega
    have d0 : decide ((ix : Int) = (ix2 : Int)) = false := decide_eq_false u0
    rw [d0, Bool.false_and]
    clear u0 d0
    go_enter Tryz.func46, Tryz.ntmps46
    go_wp2
    go_ret
    exact ⟨rfl, HB0.out⟩
  have e0 : ((ix : Int) == (ix2 : Int)) = true := by rw [beq_iff_eq]; exact u0
  have g0 : (ix == ix2) = true := by rw [beq_iff_eq]; omega
  have d0 : decide ((ix : Int) = (ix2 : Int)) = true := decide_eq_true u0
  rw [d0, Bool.true_and]
  clear u0 d0
  by_cases u1 : (tm : Int) = (tm2 : Int)
  case neg =>
    have e1 : ((tm : Int) == (tm2 : Int)) = false := by rw [beq_eq_false_iff_ne]; exact u1
    have g1 : (tm == tm2) = false := by rw [beq_eq_false_iff_ne]; omega
    have d1 : decide ((tm : Int) = (tm2 : Int)) = false := decide_eq_false u1
    rw [d1, Bool.false_and]
    clear u1 d1
    go_enter Tryz.func46, Tryz.ntmps46
    go_wp2
    go_ret
    exact ⟨rfl, HB0.out⟩
  have e1 : ((tm : Int) == (tm2 : Int)) = true := by rw [beq_iff_eq]; exact u1
  have g1 : (tm == tm2) = true := by rw [beq_iff_eq]; omega
  have d1 : decide ((tm : Int) = (tm2 : Int)) = true := decide_eq_true u1
  rw [d1, Bool.true_and]
  clear u1 d1
  by_cases u2 : kd = kd2
  case neg =>
    have e2 : (kd == kd2) = false := by rw [beq_eq_false_iff_ne]; exact u2
    have d2 : decide (kd = kd2) = false := decide_eq_false u2
    rw [d2, Bool.false_and]
    clear u2 d2
    go_enter Tryz.func46, Tryz.ntmps46
    go_wp2
    go_ret
    exact ⟨rfl, HB0.out⟩
  have e2 : (kd == kd2) = true := by rw [beq_iff_eq]; exact u2
  have d2 : decide (kd = kd2) = true := decide_eq_true u2
  rw [d2, Bool.true_and]
  clear u2 d2
  by_cases u3 : dl = dl2
  case neg =>
    have e3 : (dl == dl2) = false := by rw [beq_eq_false_iff_ne]; exact u3
    have d3 : decide (dl = dl2) = false := decide_eq_false u3
    rw [d3, Bool.false_and]
    clear u3 d3
    go_enter Tryz.func46, Tryz.ntmps46
    go_wp2
    go_ret
    exact ⟨rfl, HB0.out⟩
  have e3 : (dl == dl2) = true := by rw [beq_iff_eq]; exact u3
  have d3 : decide (dl = dl2) = true := decide_eq_true u3
  rw [d3, Bool.true_and]
  clear u3 d3
  go_enter Tryz.func46, Tryz.ntmps46
  go_wp2
  go_ret
  exact ⟨rfl, HB0.out⟩
theorem same_ent {xs ys : List Value} {d e : Data} (w : World) (h : entryK.rep w (Old w) xs d) (k : entryK.rep w (Old w) ys e) : Calls Tryz.prog 46 #[.agg xs.toArray, .agg ys.toArray] w (Says (sameE d e) w) := by
  obtain ⟨ix, tm, kd, dl, A, c, da, rfl, rfl, _, _, _, _, _, _, h5⟩ := entry_shape h
  obtain ⟨ix2, tm2, kd2, dl2, A2, c2, da2, rfl, rfl, _, _, _, _, _, _, k5⟩ := entry_shape k
  exact sameEntry_any w ix tm kd dl A _ c da ix2 tm2 kd2 dl2 A2 _ c2 da2 rfl rfl h5.lies k5.lies
end Go.Proofs.YtdbaajgkcjpnoaaGreat.Kd
