/- The reference's Add, as a contract of a call. -/
import Derived.Test.YtjafgkehkigclaaSnF
namespace Go.Proofs.Ytjafgkehkigclaa.Sn
open Go.RowKit By

abbrev tRJ : TypeId := 39
/-- The reference's joiner in memory; what it has lies in a block from B on. -/
def RJAt (w : World) (r B : Nat) (j : J7) : Prop := r < B ∧ B ≤ w.heap.size ∧ ∃ v, w.heap[r]? = some (.cells #[.int .u64 (j.i : Nat), .int .u64 (j.t : Nat), v] tRJ (0, 0)) ∧ Own B w v j.d
theorem RJAt.lt {w : World} {r B : Nat} {j : J7} (h : RJAt w r B j) : r < w.heap.size := Nat.lt_of_lt_of_le h.1 h.2.1
theorem RJAt.kept {w w' : World} {M : Nat → Prop} {r B : Nat} {j : J7} (h : RJAt w r B j) (hk : Kept M w w') (hr : ¬ M r) (hB : ∀ b, B ≤ b → b < w.heap.size → ¬ M b) : RJAt w' r B j := by
  obtain ⟨h1, h2, v, h3, h4⟩ := h
  exact ⟨h1, Nat.le_trans h2 hk.size, v, (hk.block r (row_lt h3) hr).trans h3, ownsRow_keep h4 (fun b hb => hk.block b (ownsRow_lt h4 hb).2 (hB b (ownsRow_lt h4 hb).1 (ownsRow_lt h4 hb).2))⟩
theorem RJAt.below {w w' : World} {r B : Nat} {j : J7} (h : RJAt w r B j) (hb : Below w.heap.size w w') : RJAt w' r B j :=
  h.kept (M := fun _ => False) (Kept.of_below hb) (fun e => e) (fun _ _ _ e => e)
theorem rjcells {w : World} {g : Nat} {b0 b1 b2 : Value} (hr : w.heap[g]? = some (.cells #[b0, b1, b2] tRJ (0, 0))) : w.cell? ⟨g, 0, none⟩ = some b0 ∧ w.cell? ⟨g, 1, none⟩ = some b1 ∧ w.cell? ⟨g, 2, none⟩ = some b2 :=
  ⟨(cell_of_row w _ 0 _ _ _ hr).trans rfl, (cell_of_row w _ 1 _ _ _ hr).trans rfl, (cell_of_row w _ 2 _ _ _ hr).trans rfl⟩
def RAddPost (r B : Nat) (o : AddO) (w : World) (e : Ending) (w' : World) : Prop :=
  ∃ A c, e = .returned (.tuple #[.int .i64 (o.n : Nat), .slice A o.wh.length c, .bool o.dn, .int .i64 o.er]) ∧ Lies w' w'.heap.size A o.wh ∧ RJAt w' r B o.j ∧ Kept (fun b => b = r) w w'
abbrev rC (p : P7) (A : Option Addr) (c : Nat) : Array Value := #[.int .u64 (p.i : Nat), .int .u64 (p.t : Nat), .int .i64 p.o, .bool p.last, .slice A p.d.length c]
theorem radd_bad (r B : Nat) (j : J7) (p : P7) (A : Option Addr) (c : Nat) (w : World) (hj : RJAt w r B j) (hb : p.i = 0 ∨ p.o < 0 ∨ 256 < p.d.length) :
    Calls Try.prog 14 #[.pointer (some ⟨r, 0, none⟩), .agg (rC p A c)] w (RAddPost r B (addR j p) w) := by
  rw [show addR j p = ⟨j, 0, [], false, 1⟩ from if_pos hb]
  obtain ⟨w1, hw1⟩ : ∃ w1, w1 = w.alloc (.cells (rC p A c) tR) := ⟨_, rfl⟩
  have hb1 : Below w.heap.size w w1 := by rw [hw1]; exact (Below.refl _ _).alloc (Nat.le_refl _) _
  have hr1 : w1.heap[w.heap.size]? = some (.cells (rC p A c) tR (0, 0)) := by rw [hw1]; exact heap_alloc_new w _
  have HFIN := Lib.hid (show RAddPost r B ⟨j, 0, [], false, 1⟩ w (.returned (.tuple #[.int .i64 0, .slice none 0 0, .bool false, .int .i64 1])) w1 from ⟨none, 0, rfl, Lies.empty _ _ _, hj.below hb1, Kept.of_below hb1⟩)
  obtain ⟨c0, c1, c2, c3, c4⟩ := rcells hr1
  obtain ⟨i, t, o, last, x⟩ := p
  dsimp only [rC] at *
  have HW1 := Lib.hid hw1
  clear hw1 hb1 hj hr1
  by_cases hi : i = 0
  · have hi0 : ((i : Int) == 0) = true := beq_iff_eq.2 (by omega)
    clear hb hi
    go_enter Try.func14, Try.ntmps14
    go_upto_region 1 with fail
    rw [← HW1.out]
    go_wp2
    refine bodyPost_ret (results_tmp4 rfl _ _ _) rfl ?_
    exact HFIN.out
  · have hi0 : ((i : Int) == 0) = false := beq_eq_false_iff_ne.2 (by omega)
    by_cases ho : o < 0
    · clear hb hi
      go_enter Try.func14, Try.ntmps14
      go_upto_region 1 with fail
      rw [← HW1.out]
      go_wp2
      refine bodyPost_ret (results_tmp4 rfl _ _ _) rfl ?_
      exact HFIN.out
    · have hn : (256 : Int) < (x.length : Int) := by omega
      clear hb hi
      go_enter Try.func14, Try.ntmps14
      go_upto_region 1 with fail
      rw [← HW1.out]
      go_wp2
      refine bodyPost_ret (results_tmp4 rfl _ _ _) rfl ?_
      exact HFIN.out
set_option maxHeartbeats 3200000 in
theorem radd_gap (r B : Nat) (j : J7) (i t k : Nat) (last : Bool) (x : Bs) (A : Option Addr) (c : Nat) (w : World) (hj : RJAt w r B j) (hi : i ≠ 0) (hx : x.length ≤ 256) (hg : (hasD j i t).length < k) :
    Calls Try.prog 14 #[.pointer (some ⟨r, 0, none⟩), .agg (rC ⟨i, t, (k : Int), last, x⟩ A c)] w (RAddPost r B ⟨j, 0, [], false, 12⟩ w) := by
  obtain ⟨w1, hw1⟩ : ∃ w1, w1 = w.alloc (.cells (rC ⟨i, t, (k : Int), last, x⟩ A c) tR) := ⟨_, rfl⟩
  have hb1 : Below w.heap.size w w1 := by rw [hw1]; exact (Below.refl _ _).alloc (Nat.le_refl _) _
  have hr1 : w1.heap[w.heap.size]? = some (.cells (rC ⟨i, t, (k : Int), last, x⟩ A c) tR (0, 0)) := by rw [hw1]; exact heap_alloc_new w _
  have HFIN := Lib.hid (fun (q : Nat) => show RAddPost r B ⟨j, 0, [], false, 12⟩ w (.returned (.tuple #[.int .i64 0, .slice none 0 0, .bool false, .int .i64 12])) (w1.drewN q) from ⟨none, 0, rfl, Lies.empty _ _ _, hj.below (below_drewN hb1 q), Kept.of_below (below_drewN hb1 q)⟩)
  have HFIN2 := Lib.hid (fun (q q2 : Nat) => show RAddPost r B ⟨j, 0, [], false, 12⟩ w (.returned (.tuple #[.int .i64 0, .slice none 0 0, .bool false, .int .i64 12])) ((w1.drewN q).drewN q2) from ⟨none, 0, rfl, Lies.empty _ _ _, hj.below (below_drewN (below_drewN hb1 q) q2), Kept.of_below (below_drewN (below_drewN hb1 q) q2)⟩)
  obtain ⟨c0, c1, c2, c3, c4⟩ := rcells hr1
  obtain ⟨-, -, v, hrow, hv⟩ := hj.below hb1
  obtain ⟨j0, j1, j2⟩ := rjcells hrow
  obtain ⟨Av, cv, hve, -⟩ := hv.form
  subst hve
  dsimp only [rC] at *
  have HW1 := Lib.hid hw1
  have hi0 : ((i : Int) == 0) = false := beq_eq_false_iff_ne.2 (by omega)
  have hk0 : ¬ ((k : Int) < 0) := by omega
  have hx6 : ¬ ((256 : Int) < (x.length : Int)) := by omega
  have hkne : ((k : Int) != 0) = true := bne_iff_ne.2 (by omega)
  clear hw1 hb1 hj hr1 hrow hv hi hx
  by_cases h1 : j.i = i
  · have q1 : ((i : Int) != (j.i : Int)) = false := by rw [h1]; simp
    by_cases h2 : j.t = t
    · have q2 : ((t : Int) != (j.t : Int)) = false := by rw [h2]; simp
      rw [show hasD j i t = j.d from if_pos ⟨h1, h2⟩] at hg
      have hgi : (j.d.length : Int) < (k : Int) := by omega
      clear h1 h2 hg
      go_enter Try.func14, Try.ntmps14
      go_upto_region 1 with fail
      rw [← HW1.out]
      go_wp2
      go_quiet (fail)
      go_wp2
      go_quiet (fail)
      go_wp2
      refine bodyPost_ret (results_tmp4 rfl _ _ _) rfl ?_
      first | exact HFIN.out _ | exact HFIN2.out _ _
    · have q2 : ((t : Int) != (j.t : Int)) = true := bne_iff_ne.2 (by omega)
      clear h1 h2 hg
      go_enter Try.func14, Try.ntmps14
      go_upto_region 1 with fail
      rw [← HW1.out]
      go_wp2
      go_quiet (fail)
      go_wp2
      go_quiet (fail)
      go_wp2
      refine bodyPost_ret (results_tmp4 rfl _ _ _) rfl ?_
      first | exact HFIN.out _ | exact HFIN2.out _ _
  · have q1 : ((i : Int) != (j.i : Int)) = true := bne_iff_ne.2 (by omega)
    clear h1 hg
    go_enter Try.func14, Try.ntmps14
    go_upto_region 1 with fail
    rw [← HW1.out]
    go_wp2
    go_quiet (fail)
    go_wp2
    go_quiet (fail)
    go_wp2
    refine bodyPost_ret (results_tmp4 rfl _ _ _) rfl ?_
    first | exact HFIN.out _ | exact HFIN2.out _ _
end Go.Proofs.Ytjafgkehkigclaa.Sn
