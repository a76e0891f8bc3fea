/- Package scupperref03's EntryOK, ShotOK, HardOK, as contracts of calls. Written by genok.py. | Package scupperref03 at entries, configurations, snapshots, hard states: it says what is sound of that kind, and gives that kind's bytes. -/
import Derived.Test.YtdbaajgkcjpnoaaGreatGO
import Derived.Laws.Tables
import Derived.Deep.RegionLaw
/-! Package scupperref03's EntryOK, ShotOK, HardOK, as contracts of calls. Written by genok.py. -/
namespace Go.Proofs.YtdbaajgkcjpnoaaGreat.Kd
open Go.RowKit By CoP Co Mo

theorem below_box3 (w : World) (o : Obj) : Below w.heap.size w (w.alloc o) := (Below.refl _ _).alloc (Nat.le_refl _) _
set_option maxHeartbeats 4000000 in
theorem entryOK_no (w : World) (ix tm kd dl : Int) (A : Option Addr) (n c : Nat) (h : ix < 1 ∨ 4611686018427387904 < ix ∨ tm < 1 ∨ 4611686018427387904 < tm ∨ dl < 0 ∨ 1099511627776 < dl ∨ 4096 < (n : Int)) :
    Calls Tryz.prog 45 #[.agg #[.int .u64 ix, .int .u64 tm, .int .i64 kd, .int .i64 dl, .slice A n c]] w (Says false w) := by
  by_cases u1 : ix < 1
  · have du1 : decide (ix < 1) = true := decide_eq_true u1
    go_enter Tryz.func45, Tryz.ntmps45
    go_wp2
    go_ret
    exact ⟨rfl, below_box3 _ _⟩
  · have du1 : decide (ix < 1) = false := decide_eq_false u1
    by_cases u2 : 4611686018427387904 < ix
    · have du2 : decide (4611686018427387904 < ix) = true := decide_eq_true u2
      go_enter Tryz.func45, Tryz.ntmps45
      go_wp2
      go_ret
      exact ⟨rfl, below_box3 _ _⟩
    · have du2 : decide (4611686018427387904 < ix) = false := decide_eq_false u2
      by_cases u3 : tm < 1
      · have du3 : decide (tm < 1) = true := decide_eq_true u3
        go_enter Tryz.func45, Tryz.ntmps45
        go_wp2
        go_ret
        exact ⟨rfl, below_box3 _ _⟩
      · have du3 : decide (tm < 1) = false := decide_eq_false u3
        by_cases u4 : 4611686018427387904 < tm
        · have du4 : decide (4611686018427387904 < tm) = true := decide_eq_true u4
          go_enter Tryz.func45, Tryz.ntmps45
          go_wp2
          go_ret
          exact ⟨rfl, below_box3 _ _⟩
        · have du4 : decide (4611686018427387904 < tm) = false := decide_eq_false u4
          by_cases u5 : dl < 0
          · have du5 : decide (dl < 0) = true := decide_eq_true u5
            go_enter Tryz.func45, Tryz.ntmps45
            go_wp2
            go_ret
            exact ⟨rfl, below_box3 _ _⟩
          · have du5 : decide (dl < 0) = false := decide_eq_false u5
            by_cases u6 : 1099511627776 < dl
            · have du6 : decide (1099511627776 < dl) = true := decide_eq_true u6
              go_enter Tryz.func45, Tryz.ntmps45
              go_wp2
              go_ret
              exact ⟨rfl, below_box3 _ _⟩
            · have du6 : decide (1099511627776 < dl) = false := decide_eq_false u6
              by_cases u7 : 4096 < (n : Int)
              · have du7 : decide (4096 < (n : Int)) = true := decide_eq_true u7
                have eu7 : 4096 < n := by omega
                have fu7 : decide (4096 < n) = true := decide_eq_true eu7
                go_enter Tryz.func45, Tryz.ntmps45
                go_wp2
                go_ret
                exact ⟨rfl, below_box3 _ _⟩
              · have du7 : decide (4096 < (n : Int)) = false := decide_eq_false u7
                have eu7 : ¬ 4096 < n := by omega
                have fu7 : decide (4096 < n) = false := decide_eq_false eu7
                exfalso
                omega
set_option maxHeartbeats 4000000 in
theorem entryOK_1 (w : World) (ix tm dl : Int) (A : Option Addr) (da : List UInt8) (n c : Nat) (hn : n = da.length) (u1 : ¬ ix < 1) (u2 : ¬ 4611686018427387904 < ix) (u3 : ¬ tm < 1) (u4 : ¬ 4611686018427387904 < tm) (u5 : ¬ dl < 0) (u6 : ¬ 1099511627776 < dl) (u7 : ¬ 4096 < (n : Int)) :
    Calls Tryz.prog 45 #[.agg #[.int .u64 ix, .int .u64 tm, .int .i64 1, .int .i64 dl, .slice A n c]] w (Says da.isEmpty w) := by
  have du1 : decide (ix < 1) = false := decide_eq_false u1
  have du2 : decide (4611686018427387904 < ix) = false := decide_eq_false u2
  have du3 : decide (tm < 1) = false := decide_eq_false u3
  have du4 : decide (4611686018427387904 < tm) = false := decide_eq_false u4
  have du5 : decide (dl < 0) = false := decide_eq_false u5
  have du6 : decide (1099511627776 < dl) = false := decide_eq_false u6
  have du7 : decide (4096 < (n : Int)) = false := decide_eq_false u7
  have eu7 : ¬ 4096 < n := by omega
  have fu7 : decide (4096 < n) = false := decide_eq_false eu7
  have hem : ((n : Int) == 0) = da.isEmpty := by rw [hn]; cases da <;> rfl
  have hem2 : (n == 0) = da.isEmpty := by rw [hn]; cases da <;> rfl
  have hem3 : decide (n = 0) = da.isEmpty := by rw [hn]; cases da <;> rfl
  clear hn
  go_enter Tryz.func45, Tryz.ntmps45
  go_wp2
  go_ret
  refine ⟨?_, below_box3 _ _⟩
  first | rfl | (rw [← hem]) | (rw [← hem]; simp) | (rw [← hem3]) | simp [hem3]
set_option maxHeartbeats 4000000 in
theorem entryOK_2 (w : World) (ix tm kd dl : Int) (A : Option Addr) (n c : Nat) (u1 : ¬ ix < 1) (u2 : ¬ 4611686018427387904 < ix) (u3 : ¬ tm < 1) (u4 : ¬ 4611686018427387904 < tm) (u5 : ¬ dl < 0) (u6 : ¬ 1099511627776 < dl) (u7 : ¬ 4096 < (n : Int)) (k1 : ¬ kd = 1) (k3 : ¬ kd = 3) :
    Calls Tryz.prog 45 #[.agg #[.int .u64 ix, .int .u64 tm, .int .i64 kd, .int .i64 dl, .slice A n c]] w (Says (decide (kd = 2)) w) := by
  have du1 : decide (ix < 1) = false := decide_eq_false u1
  have du2 : decide (4611686018427387904 < ix) = false := decide_eq_false u2
  have du3 : decide (tm < 1) = false := decide_eq_false u3
  have du4 : decide (4611686018427387904 < tm) = false := decide_eq_false u4
  have du5 : decide (dl < 0) = false := decide_eq_false u5
  have du6 : decide (1099511627776 < dl) = false := decide_eq_false u6
  have du7 : decide (4096 < (n : Int)) = false := decide_eq_false u7
  have eu7 : ¬ 4096 < n := by omega
  have fu7 : decide (4096 < n) = false := decide_eq_false eu7
  have k1b : (kd == 1) = false := by rw [beq_eq_false_iff_ne]; exact k1
  have k3b : (kd == 3) = false := by rw [beq_eq_false_iff_ne]; exact k3
  have k2b : (kd == 2) = decide (kd = 2) := rfl
  go_enter Tryz.func45, Tryz.ntmps45
  go_wp2
  go_ret
  refine ⟨?_, below_box3 _ _⟩
  first | rfl | (rw [← k2b])
set_option maxHeartbeats 4000000 in
theorem entryOK_3 (w : World) (ix tm dl : Int) (A : Option Addr) (da : List UInt8) (n c : Nat) (hn : n = da.length) (hc : n ≤ c) (hm : n ≤ 140737488355328) (hl : Lies w w.heap.size A da) (u1 : ¬ ix < 1) (u2 : ¬ 4611686018427387904 < ix) (u3 : ¬ tm < 1) (u4 : ¬ 4611686018427387904 < tm) (u5 : ¬ dl < 0) (u6 : ¬ 1099511627776 < dl) (u7 : ¬ 4096 < (n : Int)) :
    Calls Tryz.prog 45 #[.agg #[.int .u64 ix, .int .u64 tm, .int .i64 3, .int .i64 dl, .slice A n c]] w (Says (confReads da) w) := by
  have du1 : decide (ix < 1) = false := decide_eq_false u1
  have du2 : decide (4611686018427387904 < ix) = false := decide_eq_false u2
  have du3 : decide (tm < 1) = false := decide_eq_false u3
  have du4 : decide (4611686018427387904 < tm) = false := decide_eq_false u4
  have du5 : decide (dl < 0) = false := decide_eq_false u5
  have du6 : decide (1099511627776 < dl) = false := decide_eq_false u6
  have du7 : decide (4096 < (n : Int)) = false := decide_eq_false u7
  have eu7 : ¬ 4096 < n := by omega
  have fu7 : decide (4096 < n) = false := decide_eq_false eu7
  have hb0 := below_box3 w (.cells #[.int .u64 ix, .int .u64 tm, .int .i64 3, .int .i64 dl, .slice A n c] 39)
  have HB0 := Lib.hid hb0
  have HLD := Lib.hid ((hl.below hb0).more hb0.size)
  have HN := Lib.hid hn
  clear hb0 hl hn
  go_enter Tryz.func45, Tryz.ntmps45
  go_wp2_with fail
  refine (toConf_any _ _ _ _ _ HN.out hc hm HLD.out).mono ?_
  rintro e w1 ⟨v0, v1, rfl, ho0, ho1, hb1⟩
  obtain ⟨A0, q0, rfl, _, _⟩ := ho0.form
  obtain ⟨A1, q1, rfl, _, _⟩ := ho1.form
  have hcr : (pWhole (pConf (some da)).2 && confB (asI (pConf (some da)).1.1) (asI (pConf (some da)).1.2)) = confReads da := rfl
  rw [hcr]
  generalize (pConf (some da)).1.1.length = n0
  generalize (pConf (some da)).1.2.length = n1
  have hb := ext HB0.out hb1
  have HBA := Lib.hid (below_setRow (ext hb ((Below.refl w1.heap.size w1).alloc (Nat.le_refl _) (.cells #[.slice none 0 0, .slice none 0 0] 87))) (g := w1.heap.size) hb.size #[.slice A0 n0 q0, .slice A1 n1 q1])
  have HBB := Lib.hid (ext hb ((Below.refl w1.heap.size w1).alloc (Nat.le_refl _) (.cells #[.slice A0 n0 q0, .slice A1 n1 q1] 87)))
  clear hb hb1 ho0 ho1 hcr
  go_wp2_with (with_reducible refine wpList_store_row rfl 87 (.tmp 3) (.tmp 53) rfl w1.heap.size #[.slice A0 n0 q0, .slice A1 n1 q1] rfl rfl 87 #[.slice none 0 0, .slice none 0 0] (heap_alloc_new w1 _) (by kernel_rfl) rfl rfl ?_)
  go_ret
  first | exact ⟨rfl, HBA.out⟩ | exact ⟨rfl, HBB.out⟩
theorem entryOK_any (w : World) (ix tm : Nat) (kd dl : Int) (A : Option Addr) (da : List UInt8) (n c : Nat) (hn : n = da.length) (hc : n ≤ c) (hm : n ≤ 140737488355328) (hl : Lies w w.heap.size A da) :
    Calls Tryz.prog 45 #[.agg #[.int .u64 (ix : Int), .int .u64 (tm : Int), .int .i64 kd, .int .i64 dl, .slice A n c]] w (Says (entryB ix tm kd dl da) w) := by
  by_cases h : (ix : Int) < 1 ∨ 4611686018427387904 < (ix : Int) ∨ (tm : Int) < 1 ∨ 4611686018427387904 < (tm : Int) ∨ dl < 0 ∨ 1099511627776 < dl ∨ 4096 < (n : Int)
  · have e : entryB ix tm kd dl da = false := by
      unfold entryB
      have : (decide (1 ≤ ix) && decide (ix ≤ 4611686018427387904) && decide (1 ≤ tm) && decide (tm ≤ 4611686018427387904) && decide (0 ≤ dl) && decide (dl ≤ 1099511627776) && decide (da.length ≤ 4096)) = false := by
        rw [← Bool.not_eq_true]
        simp only [Bool.and_eq_true, decide_eq_true_eq]
        omega
      rw [this, Bool.false_and]
    rw [e]
    exact entryOK_no w ix tm kd dl A n c h
  · simp only [not_or] at h
    obtain ⟨u1, u2, u3, u4, u5, u6, u7⟩ := h
    have e : entryB ix tm kd dl da = (if kd = 1 then da.isEmpty else if kd = 3 then confReads da else decide (kd = 2)) := by
      unfold entryB
      have : (decide (1 ≤ ix) && decide (ix ≤ 4611686018427387904) && decide (1 ≤ tm) && decide (tm ≤ 4611686018427387904) && decide (0 ≤ dl) && decide (dl ≤ 1099511627776) && decide (da.length ≤ 4096)) = true := by
        simp only [Bool.and_eq_true, decide_eq_true_eq]
        omega
      rw [this, Bool.true_and]
    rw [e]
    by_cases h1 : kd = 1
    · subst h1
      rw [if_pos rfl]
      exact entryOK_1 w ix tm dl A da n c hn u1 u2 u3 u4 u5 u6 u7
    · rw [if_neg h1]
      by_cases h3 : kd = 3
      · subst h3
        rw [if_pos rfl]
        exact entryOK_3 w ix tm dl A da n c hn hc hm hl u1 u2 u3 u4 u5 u6 u7
      · rw [if_neg h3]
        exact entryOK_2 w ix tm kd dl A n c u1 u2 u3 u4 u5 u6 u7 h1 h3
end Go.Proofs.YtdbaajgkcjpnoaaGreat.Kd

/-! Package scupperref03 at entries, configurations, snapshots, hard states: it says what is sound of that kind, and gives that kind's bytes. -/
namespace Go.Proofs.YtdbaajgkcjpnoaaGreat.Kd
open Go.RowKit By CoP Co Mo

theorem ent_ok {xs : List Value} {d : Data} (w : World) (h : entryK.rep w (Old w) xs d) : Calls Tryz.prog 45 #[.agg xs.toArray] w (Says (entryK.sound d) w) := by
  obtain ⟨ix, tm, kd, dl, A, c, da, rfl, rfl, _, _, _, _, h3, h4, h5⟩ := entry_shape h
  rw [entry_sound]
  exact entryOK_any w ix tm kd dl A da _ c rfl h3 h4 h5.lies
theorem conf_ok {xs : List Value} {d : Data} (w : World) (h : confK.rep w (Old w) xs d) : Calls Tryz.prog 53 #[.agg xs.toArray] w (Says (confK.sound d) w) := by
  obtain ⟨A, c, l, A2, c2, l2, rfl, rfl, h1, h2, h3, h4, h5, h6⟩ := confK_shape h
  rw [conf_sound]
  exact confOK_any w.heap.size w A _ c l rfl h3 A2 _ c2 l2 rfl h6 (Nat.le_refl _) h2 h5
end Go.Proofs.YtdbaajgkcjpnoaaGreat.Kd
