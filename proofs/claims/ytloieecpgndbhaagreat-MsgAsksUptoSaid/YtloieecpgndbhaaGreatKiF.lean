/- Package scupperref03's AskOK where a command is asked, and ToldOK, as contracts of calls. -/
import Derived.Test.YtloieecpgndbhaaGreatKiD
import Derived.Test.YtloieecpgndbhaaGreatKhE
namespace Go.Proofs.YtloieecpgndbhaaGreat.Kd
open Go.RowKit By CoP Co Mo

set_option maxHeartbeats 1000000 in
theorem askOK_call (w : World) (ly : Bool) (aq se sq : Nat) (op : Int) (ke : List UInt8) (am sp : Int) (le : Nat) (ak : List UInt8) :
    Calls Tryz.prog 40 #[.agg #[.bool false, .bool ly, .int .u64 (aq : Int), .int .u64 (se : Int), .int .u64 (sq : Int), .int .i64 op, .string (str ke), .int .i64 am, .int .i64 sp, .int .u64 (le : Int), .string (str ak)]] w (Says ((decide (1 ≤ op) && decide (op ≤ 5) && decide ((ke.length : Int) ≤ 64)) && ak.isEmpty && !ly) w) := by
  obtain ⟨sb, hsb⟩ : ∃ sb, (decide (1 ≤ op) && decide (op ≤ 5) && decide ((ke.length : Int) ≤ 64)) = sb := ⟨_, rfl⟩
  rw [hsb]
  have HSB := Lib.hid hsb
  have HROW := Lib.hid (show (w.alloc (.cells #[.bool false, .bool ly, .int .u64 (aq : Int), .int .u64 (se : Int), .int .u64 (sq : Int), .int .i64 op, .string (str ke), .int .i64 am, .int .i64 sp, .int .u64 (le : Int), .string (str ak)] 65)).heap[w.heap.size]? = some (.cells #[.bool false, .bool ly, .int .u64 (aq : Int), .int .u64 (se : Int), .int .u64 (sq : Int), .int .i64 op, .string (str ke), .int .i64 am, .int .i64 sp, .int .u64 (le : Int), .string (str ak)] 65 (0, 0)) from heap_alloc_new w (.cells #[.bool false, .bool ly, .int .u64 (aq : Int), .int .u64 (se : Int), .int .u64 (sq : Int), .int .i64 op, .string (str ke), .int .i64 am, .int .i64 sp, .int .u64 (le : Int), .string (str ak)] 65))
  have HB0 := Lib.hid (below_box w (.cells #[.bool false, .bool ly, .int .u64 (aq : Int), .int .u64 (se : Int), .int .u64 (sq : Int), .int .i64 op, .string (str ke), .int .i64 am, .int .i64 sp, .int .u64 (le : Int), .string (str ak)] 65))
  clear hsb
  cases sb with
  | false =>
    show Calls _ _ _ _ (Says false w)
    go_enter Tryz.func40, Tryz.ntmps40
    go_wp2_with fail
    refine (commandOK_any _ se sq op ke am sp le).mono ?_
    rintro e w1 ⟨he, hb⟩
    rw [HSB.out] at he
    subst he
    have HB := Lib.hid (ext HB0.out hb)
    have hrow1 := (hb.block w.heap.size (row_lt HROW.out)).trans HROW.out
    have c10 : w1.cell? ⟨w.heap.size, 10, none⟩ = some (.string (str ak)) := by rw [cell_of_row w1 _ 10 _ _ _ hrow1]; rfl
    have c1 : w1.cell? ⟨w.heap.size, 1, none⟩ = some (.bool ly) := by rw [cell_of_row w1 _ 1 _ _ _ hrow1]; rfl
    clear hrow1 hb
    go_wp2
    all_goals
      go_ret
      exact ⟨rfl, HB.out⟩
  | true =>
    obtain ⟨bb, hbb⟩ : ∃ bb, ak.isEmpty = bb := ⟨_, rfl⟩
    show Calls _ _ _ _ (Says (ak.isEmpty && !ly) w)
    rw [hbb]
    have hne : decide ((str ak).toList = []) = bb := by
      rw [← hbb, decide_eq_decide.2 (str_nil ak)]
      cases ak <;> rfl
    cases bb with
    | false =>
      have hne2 : ¬ (str ak).toList = [] := by simpa using hne
      clear hbb hne
      show Calls _ _ _ _ (Says false w)
      go_enter Tryz.func40, Tryz.ntmps40
      go_wp2_with fail
      refine (commandOK_any _ se sq op ke am sp le).mono ?_
      rintro e w1 ⟨he, hb⟩
      rw [HSB.out] at he
      subst he
      have HB := Lib.hid (ext HB0.out hb)
      have hrow1 := (hb.block w.heap.size (row_lt HROW.out)).trans HROW.out
      have c10 : w1.cell? ⟨w.heap.size, 10, none⟩ = some (.string (str ak)) := by rw [cell_of_row w1 _ 10 _ _ _ hrow1]; rfl
      have c1 : w1.cell? ⟨w.heap.size, 1, none⟩ = some (.bool ly) := by rw [cell_of_row w1 _ 1 _ _ _ hrow1]; rfl
      clear hrow1 hb
      go_wp2
      all_goals
        go_ret
        exact ⟨rfl, HB.out⟩
    | true =>
      have hne2 : (str ak).toList = [] := by simpa using hne
      clear hbb hne
      show Calls _ _ _ _ (Says (!ly) w)
      go_enter Tryz.func40, Tryz.ntmps40
      go_wp2_with fail
      refine (commandOK_any _ se sq op ke am sp le).mono ?_
      rintro e w1 ⟨he, hb⟩
      rw [HSB.out] at he
      subst he
      have HB := Lib.hid (ext HB0.out hb)
      have hrow1 := (hb.block w.heap.size (row_lt HROW.out)).trans HROW.out
      have c10 : w1.cell? ⟨w.heap.size, 10, none⟩ = some (.string (str ak)) := by rw [cell_of_row w1 _ 10 _ _ _ hrow1]; rfl
      have c1 : w1.cell? ⟨w.heap.size, 1, none⟩ = some (.bool ly) := by rw [cell_of_row w1 _ 1 _ _ _ hrow1]; rfl
      clear hrow1 hb
      go_wp2
      all_goals
        go_ret
        exact ⟨rfl, HB.out⟩
set_option maxHeartbeats 1000000 in
theorem toldOK_any (w : World) (tq : Nat) (rt : Bool) (ld : Int) (se sq : Nat) (er : Int) (lz : Nat) (am un cp ln : Int) :
    Calls Tryz.prog 42 #[.agg #[.int .u64 (tq : Int), .bool rt, .int .i64 ld, .int .u64 (se : Int), .int .u64 (sq : Int), .int .i64 er, .int .u64 (lz : Int), .int .i64 am, .int .i64 un, .int .i64 cp, .int .i64 ln]] w (Says ((decide (0 ≤ ld) && decide (ld ≤ 16)) && (decide (0 ≤ er) && decide (er ≤ 20))) w) := by
  have HB0 := Lib.hid (below_box w (.cells #[.int .u64 (tq : Int), .bool rt, .int .i64 ld, .int .u64 (se : Int), .int .u64 (sq : Int), .int .i64 er, .int .u64 (lz : Int), .int .i64 am, .int .i64 un, .int .i64 cp, .int .i64 ln] 67))
  by_cases h1 : 0 ≤ ld
  · by_cases h2 : ld ≤ 16
    · rw [decide_eq_true h1, decide_eq_true h2, Bool.and_self, Bool.true_and]
      go_enter Tryz.func42, Tryz.ntmps42
      go_wp2_with fail
      refine (replyOK_any _ se sq er lz am un).mono ?_
      rintro e w1 ⟨rfl, hb⟩
      have HB := Lib.hid (ext HB0.out hb)
      clear hb
      go_wp2
      go_ret
      exact ⟨rfl, HB.out⟩
    · rw [decide_eq_true h1, decide_eq_false h2, Bool.and_false, Bool.false_and]
      have h2' : 16 < ld := by omega
      go_enter Tryz.func42, Tryz.ntmps42
      go_wp2_with fail
      go_ret
      exact ⟨rfl, HB0.out⟩
  · rw [decide_eq_false h1, Bool.false_and, Bool.false_and]
    have h1' : ld < 0 := by omega
    go_enter Tryz.func42, Tryz.ntmps42
    go_wp2_with fail
    go_ret
    exact ⟨rfl, HB0.out⟩
end Go.Proofs.YtloieecpgndbhaaGreat.Kd
