/- Package snap's Cut, and the reference's, as contracts of calls. -/
import Derived.Test.YtjafgkehkigclaaSnB
namespace Go.Proofs.Ytjafgkehkigclaa.Sn
open Go.RowKit By

theorem nilTest (w : World) (a : Option Addr) (n c n' c' : Nat) : (binOp .eql 23 (.slice a n c) (.slice none n' c')).run Try.prog w = .ok (.bool a.isNone) w :=
  Lib.run_eql_slice_nil w _ _ a n c n' c' Try.underlying23
set_option maxHeartbeats 400000 in
theorem clone_any (A : Option Addr) (n c B : Nat) (l : List UInt8) (hn : n = l.length) (w : World) (hr : Lies w B A l) (hB : B ≤ w.heap.size) (hs : l.length ≤ 140737488355328) :
    Calls Try.prog 16 #[.slice A n c] w (Gives l w) := by
  have q22 := nilTest
  have HN := Lib.hid hn
  clear hn
  have hn0 : A = none → l = [] := fun e => by
    rcases Nat.eq_zero_or_pos l.length with h0 | h0
    · exact List.length_eq_zero_iff.1 h0
    · obtain ⟨g, o, e2, _⟩ := hr h0
      rw [e] at e2; cases e2
  rcases A with _ | ad
  · have hl := hn0 rfl
    clear hn0
    subst hl
    go_enter Try.func16, Try.ntmps16
    go_wp2
    go_ret
    exact ⟨_, rfl, Own.nil _ _, Below.refl _ _⟩
  · clear hn0
    go_enter Try.func16, Try.ntmps16
    go_wp2_with (at_builtin; refine wpList_app rfl (.tmp 5) (.tmp 6) rfl rfl (Own.made w w.heap.size #[] 0 (Nat.le_refl _) (by decide) rfl) rfl HN.out (hr.alloc hB _) (by simp; omega) (by simp) ?_; intro v' w1 hown hb1 hg1)
    go_ret
    exact ⟨_, rfl, by simpa using hown, ((Below.refl _ _).alloc (Nat.le_refl _) _).trans hb1⟩
def zeroP : P7 := ⟨0, 0, 0, false, []⟩
/-- What stands at a place, or why not. -/
def CutPost (p : P7) (er : Int) (w : World) (e : Ending) (w' : World) : Prop := ∃ A c, e = .returned (.tuple #[.agg (pC p A c), .int .i64 er]) ∧ Own w.heap.size w' (.slice A p.d.length c) p.d ∧ Below w.heap.size w w'
theorem ret_cut {w4 : World} {r : Nat} {a0 a1 a2 a3 a4 er : Value} {tm : Array Value} (h8 : tm[8]?.getD undef = .pointer (some ⟨r, 0, none⟩)) (h9 : tm[9]?.getD undef = er) (hrow : w4.heap[r]? = some (.cells #[a0, a1, a2, a3, a4] tP (0, 0))) :
    (results Try.f8 tm).run Try.prog w4 = .ok (.tuple #[.agg #[a0, a1, a2, a3, a4], er]) w4 := by
  have hres : Try.f8.results = #[.cell 8 tP, .tmp 9] := by kernel_rfl
  have hlv : (loadVar tP ⟨r, 0, none⟩).run Try.prog w4 = .ok (.agg #[a0, a1, a2, a3, a4]) w4 := run_loadVar_row w4 _ _ _ _ _ _ hrow Try.underlying25 rfl (by kernel_rfl)
  unfold results
  rw [hres]
  simp [asAddr, hlv, h8, h9]
theorem set5 {w : World} {g : Nat} {b0 b1 b2 b3 b4 : Value} (hr : w.heap[g]? = some (.cells #[b0, b1, b2, b3, b4] tP (0, 0))) (a0 a1 a2 a3 a4 : Value) :
    (((((w.setCell ⟨g, 0, none⟩ a0).setCell ⟨g, 1, none⟩ a1).setCell ⟨g, 2, none⟩ a2).setCell ⟨g, 3, none⟩ a3).setCell ⟨g, 4, none⟩ a4).heap[g]? = some (.cells #[a0, a1, a2, a3, a4] tP (0, 0)) :=
  Go.heap_setCell_same _ _ 4 _ _ a4 (Go.heap_setCell_same _ _ 3 _ _ a3 (Go.heap_setCell_same _ _ 2 _ _ a2 (Go.heap_setCell_same _ _ 1 _ _ a1 (Go.heap_setCell_same w _ 0 _ _ a0 hr))))
theorem kept5 {w : World} (g : Nat) (a0 a1 a2 a3 a4 : Value) : Kept (fun b => b = g) w (((((w.setCell ⟨g, 0, none⟩ a0).setCell ⟨g, 1, none⟩ a1).setCell ⟨g, 2, none⟩ a2).setCell ⟨g, 3, none⟩ a3).setCell ⟨g, 4, none⟩ a4) :=
  ((((Kept.refl (fun b => b = g) w).setCell (p := ⟨g, 0, none⟩) (fun _ => rfl) a0).setCell (p := ⟨g, 1, none⟩) (fun _ => rfl) a1).setCell (p := ⟨g, 2, none⟩) (fun _ => rfl) a2).setCell (p := ⟨g, 3, none⟩) (fun _ => rfl) a3 |>.setCell (p := ⟨g, 4, none⟩) (fun _ => rfl) a4
set_option maxHeartbeats 1600000 in
theorem cut_out (i t : Nat) (A : Option Addr) (n c : Nat) (k : Int) (w : World) (hk : k < 0 ∨ (n : Int) < k) : Calls Try.prog 8 #[.int .u64 (i : Nat), .int .u64 (t : Nat), .slice A n c, .int .i64 k] w (CutPost zeroP 1 w) := by
  obtain ⟨w1, hw1⟩ : ∃ w1, w1 = w.alloc (.cells #[.int .u64 0, .int .u64 0, .int .i64 0, .bool false, .slice none 0 0] tP) := ⟨_, rfl⟩
  have hb1 : Below w.heap.size w w1 := by rw [hw1]; exact (Below.refl _ _).alloc (Nat.le_refl _) _
  have hr1 : w1.heap[w.heap.size]? = some (.cells #[.int .u64 0, .int .u64 0, .int .i64 0, .bool false, .slice none 0 0] tP (0, 0)) := by rw [hw1]; exact heap_alloc_new w _
  have f3 : ∀ i, w1.frozen? ⟨w.heap.size, i, none⟩ = false := fun i => frozen_of_row w1 _ i _ _ hr1
  have c0 : w1.cell? ⟨w.heap.size, 0, none⟩ = some (.int .u64 0) := (cell_of_row w1 _ 0 _ _ _ hr1).trans rfl
  have c1 : w1.cell? ⟨w.heap.size, 1, none⟩ = some (.int .u64 0) := (cell_of_row w1 _ 1 _ _ _ hr1).trans rfl
  have c2 : w1.cell? ⟨w.heap.size, 2, none⟩ = some (.int .i64 0) := (cell_of_row w1 _ 2 _ _ _ hr1).trans rfl
  have c3 : w1.cell? ⟨w.heap.size, 3, none⟩ = some (.bool false) := (cell_of_row w1 _ 3 _ _ _ hr1).trans rfl
  have c4 : w1.cell? ⟨w.heap.size, 4, none⟩ = some (.slice none 0 0) := (cell_of_row w1 _ 4 _ _ _ hr1).trans rfl
  have HR := Lib.hid hr1
  have HB := Lib.hid hb1
  have HW1 := Lib.hid hw1
  clear hr1 hw1 hb1
  rcases Int.lt_or_le k 0 with h0 | h0
  · clear hk
    go_enter Try.func8, Try.ntmps8
    go_wp2_with fail
    rw [← HW1.out]
    go_wp2
    exact bodyPost_ret (ret_cut rfl rfl HR.out) rfl ⟨none, 0, rfl, Own.nil _ _, HB.out⟩
  · have h1 : (n : Int) < k := by omega
    have h2 : ¬ (k < 0) := by omega
    clear hk
    go_enter Try.func8, Try.ntmps8
    go_wp2_with fail
    rw [← HW1.out]
    go_wp2
    exact bodyPost_ret (ret_cut rfl rfl HR.out) rfl ⟨none, 0, rfl, Own.nil _ _, HB.out⟩
theorem own_more {base base' : Nat} {w : World} {v : Value} {l : Bs} (h : Own base w v l) (hb : base' ≤ base) : Own base' w v l := By.Own.more h hb
theorem cut_end {i t : Nat} {k : Int} {last : Bool} {x : Bs} {w w1 w2 : World} {Av : Option Addr} {cv : Nat} (HO : Own w1.heap.size w2 (.slice Av x.length cv) x) (HB2 : Below w.heap.size w w2) (HSZ : w.heap.size < w1.heap.size) :
    CutPost ⟨i, t, k, last, x⟩ 0 w (.returned (.tuple #[.agg #[.int .u64 (i : Nat), .int .u64 (t : Nat), .int .i64 k, .bool last, .slice Av x.length cv], .int .i64 0])) (((((w2.setCell ⟨w.heap.size, 0, none⟩ (.int .u64 (i : Nat))).setCell ⟨w.heap.size, 1, none⟩ (.int .u64 (t : Nat))).setCell ⟨w.heap.size, 2, none⟩ (.int .i64 k)).setCell ⟨w.heap.size, 3, none⟩ (.bool last)).setCell ⟨w.heap.size, 4, none⟩ (.slice Av x.length cv)) := by
  have hk5 := kept5 (w := w2) w.heap.size (.int .u64 (i : Nat)) (.int .u64 (t : Nat)) (.int .i64 k) (.bool last) (.slice Av x.length cv)
  refine ⟨Av, cv, rfl, own_more (ownsRow_keep HO fun b hb => hk5.block b (ownsRow_lt HO hb).2 (fun e => ?_)) (Nat.le_of_lt HSZ), HB2.trans (hk5.below HB2.size (fun b hb => by rw [hb]; exact Nat.le_refl _))⟩
  have h1 := (ownsRow_lt HO hb).1
  have e : b = w.heap.size := e
  omega
def cutP (l : Bs) (i t k : Nat) : P7 := ⟨i, t, (k : Int), decide (l.length ≤ k + 256), (l.drop k).take 256⟩
set_option maxHeartbeats 1600000 in
theorem cut_in (i t : Nat) (A : Option Addr) (n c k : Nat) (l : Bs) (w : World) (hn : n = l.length) (hc : n ≤ c) (hk : k ≤ n) (hm : n ≤ 140737488355328) (hA : Lies w w.heap.size A l) : Calls Try.prog 8 #[.int .u64 (i : Nat), .int .u64 (t : Nat), .slice A n c, .int .i64 (k : Int)] w (CutPost (cutP l i t k) 0 w) := by
  obtain ⟨w1, hw1⟩ : ∃ w1, w1 = w.alloc (.cells #[.int .u64 0, .int .u64 0, .int .i64 0, .bool false, .slice none 0 0] tP) := ⟨_, rfl⟩
  have hb1 : Below w.heap.size w w1 := by rw [hw1]; exact (Below.refl _ _).alloc (Nat.le_refl _) _
  have hr1 : w1.heap[w.heap.size]? = some (.cells #[.int .u64 0, .int .u64 0, .int .i64 0, .bool false, .slice none 0 0] tP (0, 0)) := by rw [hw1]; exact heap_alloc_new w _
  obtain ⟨m, hm1⟩ : ∃ m, n = k + m := ⟨n - k, by omega⟩
  obtain ⟨c', hc1⟩ : ∃ c', c = k + c' := ⟨c - k, by omega⟩
  obtain ⟨q, hq⟩ : ∃ q, q = min m 256 := ⟨_, rfl⟩
  have hql : q = ((l.drop k).take 256).length := by rw [List.length_take, List.length_drop]; omega
  have hs1 : ∀ w', (Instr.slice 23 (.slice A n c) (some (.int .i64 (k : Int))) none none).run Try.prog w' = .ok (.slice (cutA A c k) m c') w' := fun w' => by
    have h := run_from w' A n c k hk
    rw [show n - k = m by omega, show c - k = c' by omega] at h
    exact h
  have HS2 := Lib.hid (fun w' => run_to w' (cutA A c k) m c' q (by omega))
  have hlc : Lies w1 w.heap.size (cutA A c k) ((l.drop k).take 256) := by
    have h := Lies.cut (hA.below hb1) (show l.length ≤ c by omega) k (k + q) (by omega) (by omega)
    rw [List.drop_take, show k + q - k = q by omega] at h
    have e : (l.drop k).take 256 = (l.drop k).take q := by
      rcases Nat.le_total m 256 with h1 | h1
      · rw [List.take_of_length_le (by rw [List.length_drop]; omega), List.take_of_length_le (by rw [List.length_drop]; omega)]
      · rw [show q = 256 by omega]
    rw [e]
    exact h
  have HCL := Lib.hid (clone_any (cutA A c k) q c' w.heap.size ((l.drop k).take 256) hql w1 hlc hb1.size (by omega))
  have HLast := Lib.hid (show decide (l.length ≤ k + 256) = decide (q = m) by
    rw [decide_eq_decide]; omega)
  have HR1 := Lib.hid hr1
  have HB1 := Lib.hid hb1
  have HW1 := Lib.hid hw1
  have hk0 : ¬ ((k : Int) < 0) := by omega
  have hkn : ¬ ((n : Int) < (k : Int)) := by omega
  have hp : cutP l i t k = ⟨i, t, (k : Int), decide (q = m), (l.drop k).take 256⟩ := by unfold cutP; rw [HLast.out]
  rw [hp]
  generalize (l.drop k).take 256 = x at *
  have HQL := Lib.hid hql
  have hs2 := HS2.out
  clear hA hm1 hc1 hlc hr1 hb1 hw1 hk hc hn hm hp hql
  by_cases h256 : m ≤ 256
  · have hqm : q = m := by omega
    subst hqm
    have h2 : (q : Int) ≤ 256 := by omega
    rw [show decide (q = q) = true from decide_eq_true rfl]
    clear h256 hq
    go_enter Try.func8, Try.ntmps8
    go_wp2_with fail
    rw [← HW1.out]
    refine HCL.out.mono ?_
    rintro e w2 ⟨v, rfl, ho, hb2⟩
    obtain ⟨Av, cv, hv, -⟩ := ho.form
    subst hv
    have HO := Lib.hid ho
    have hr2 := (hb2.block _ (row_lt HR1.out)).trans HR1.out
    have f3 : ∀ i, w2.frozen? ⟨w.heap.size, i, none⟩ = false := fun i => frozen_of_row w2 _ i _ _ hr2
    have c0 : w2.cell? ⟨w.heap.size, 0, none⟩ = some (.int .u64 0) := (cell_of_row w2 _ 0 _ _ _ hr2).trans rfl
    have c1 : w2.cell? ⟨w.heap.size, 1, none⟩ = some (.int .u64 0) := (cell_of_row w2 _ 1 _ _ _ hr2).trans rfl
    have c2 : w2.cell? ⟨w.heap.size, 2, none⟩ = some (.int .i64 0) := (cell_of_row w2 _ 2 _ _ _ hr2).trans rfl
    have c3 : w2.cell? ⟨w.heap.size, 3, none⟩ = some (.bool false) := (cell_of_row w2 _ 3 _ _ _ hr2).trans rfl
    have c4 : w2.cell? ⟨w.heap.size, 4, none⟩ = some (.slice none 0 0) := (cell_of_row w2 _ 4 _ _ _ hr2).trans rfl
    have HR2 := Lib.hid hr2
    have HB2 := Lib.hid (HB1.out.trans (hb2.mono HB1.out.size))
    have HSZ := Lib.hid (show w.heap.size < w1.heap.size from row_lt HR1.out)
    clear ho hb2 hr2 HCL
    go_wp2
    exact bodyPost_ret (ret_cut rfl rfl (set5 HR2.out _ _ _ _ _)) rfl (cut_end HO.out HB2.out HSZ.out)
  · have hq2 : q = 256 := by omega
    have h2 : (256 : Int) < (m : Int) := by omega
    have hqm : ((256 : Int) == (m : Int)) = false := beq_eq_false_iff_ne.2 (by omega)
    rw [show decide (q = m) = false from decide_eq_false (by omega)]
    subst hq2
    have hs2 : ∀ w', (Instr.slice 23 (.slice (cutA A c k) m c') none (some (.int .i64 256)) none).run Try.prog w' = .ok (.slice (cutA A c k) 256 c') w' := HS2.out
    clear h256 hq
    go_enter Try.func8, Try.ntmps8
    go_wp2_with fail
    rw [← HW1.out]
    refine HCL.out.mono ?_
    rintro e w2 ⟨v, rfl, ho, hb2⟩
    obtain ⟨Av, cv, hv, -⟩ := ho.form
    subst hv
    have HO := Lib.hid ho
    have hr2 := (hb2.block _ (row_lt HR1.out)).trans HR1.out
    have f3 : ∀ i, w2.frozen? ⟨w.heap.size, i, none⟩ = false := fun i => frozen_of_row w2 _ i _ _ hr2
    have c0 : w2.cell? ⟨w.heap.size, 0, none⟩ = some (.int .u64 0) := (cell_of_row w2 _ 0 _ _ _ hr2).trans rfl
    have c1 : w2.cell? ⟨w.heap.size, 1, none⟩ = some (.int .u64 0) := (cell_of_row w2 _ 1 _ _ _ hr2).trans rfl
    have c2 : w2.cell? ⟨w.heap.size, 2, none⟩ = some (.int .i64 0) := (cell_of_row w2 _ 2 _ _ _ hr2).trans rfl
    have c3 : w2.cell? ⟨w.heap.size, 3, none⟩ = some (.bool false) := (cell_of_row w2 _ 3 _ _ _ hr2).trans rfl
    have c4 : w2.cell? ⟨w.heap.size, 4, none⟩ = some (.slice none 0 0) := (cell_of_row w2 _ 4 _ _ _ hr2).trans rfl
    have HR2 := Lib.hid hr2
    have HB2 := Lib.hid (HB1.out.trans (hb2.mono HB1.out.size))
    have HSZ := Lib.hid (show w.heap.size < w1.heap.size from row_lt HR1.out)
    clear ho hb2 hr2 HCL
    go_wp2
    exact bodyPost_ret (ret_cut rfl rfl (set5 HR2.out _ _ _ _ _)) rfl (cut_end HO.out HB2.out HSZ.out)
end Go.Proofs.Ytjafgkehkigclaa.Sn
