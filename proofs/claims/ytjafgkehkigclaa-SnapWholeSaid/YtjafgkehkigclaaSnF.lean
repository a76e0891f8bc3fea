/- Package snap's Add, as a contract of a call. -/
import Derived.Test.YtjafgkehkigclaaSnE
namespace Go.Proofs.Ytjafgkehkigclaa.Sn
open Go.RowKit By

/-- What an Add comes to: what the joiner has then, what is next, the whole, is it done, the error. -/
structure AddO where
  j : J7
  n : Nat
  wh : Bs
  dn : Bool
  er : Int
def addR (j : J7) (p : P7) : AddO :=
  if p.i = 0 ∨ p.o < 0 ∨ 256 < p.d.length then ⟨j, 0, [], false, 1⟩
  else if ((hasD j p.i p.t).length : Int) < p.o then ⟨j, 0, [], false, 12⟩
  else if 32768 < (laidD (hasD j p.i p.t) p.o.toNat p.last p.d).length then ⟨⟨0, 0, []⟩, 0, [], false, 7⟩
  else if p.last then ⟨⟨0, 0, []⟩, (laidD (hasD j p.i p.t) p.o.toNat p.last p.d).length, laidD (hasD j p.i p.t) p.o.toNat p.last p.d, true, 0⟩
  else ⟨⟨p.i, p.t, laidD (hasD j p.i p.t) p.o.toNat p.last p.d⟩, (laidD (hasD j p.i p.t) p.o.toNat p.last p.d).length, [], false, 0⟩
def AddPost (g : Nat) (r : AddO) (w : World) (e : Ending) (w' : World) : Prop :=
  ∃ A c, e = .returned (.tuple #[.int .i64 (r.n : Nat), .slice A r.wh.length c, .bool r.dn, .int .i64 r.er]) ∧ Lies w' w'.heap.size A r.wh ∧ JAt w' g r.j ∧ Kept (fun b => b = g) w w'
theorem addR_len (j : J7) (p : P7) (h : j.d.length ≤ 32768) : (addR j p).j.d.length ≤ 32768 := by
  unfold addR
  split
  · exact h
  split
  · exact h
  split
  · exact Nat.zero_le _
  split
  · exact Nat.zero_le _
  · rename_i h1 h2
    exact Nat.le_of_not_lt h1
theorem hasD_len (j : J7) (i t : Nat) (h : j.d.length ≤ 32768) : (hasD j i t).length ≤ 32768 := by
  unfold hasD
  split
  · exact h
  · exact Nat.zero_le _
theorem add_nil (p : P7) (A : Option Addr) (c : Nat) (w : World) : Calls Try.prog 12 #[.pointer none, .agg (pC p A c)] w (RetB (.tuple #[.int .i64 0, .slice none 0 0, .bool false, .int .i64 1]) w) := by
  have q := ptrTest
  have HB := Lib.hid (show Below w.heap.size w (w.alloc (.cells (pC p A c) tP)) from (Below.refl _ _).alloc (Nat.le_refl _) _)
  go_enter Try.func12, Try.ntmps12
  go_wp2
  refine bodyPost_ret (results_tmp4 rfl _ _ _) rfl ?_
  exact ⟨rfl, HB.out⟩
theorem add_bad (g : Nat) (j : J7) (p : P7) (A : Option Addr) (c : Nat) (w : World) (hj : JAt w g j) (hb : p.i = 0 ∨ p.o < 0 ∨ 256 < p.d.length) :
    Calls Try.prog 12 #[.pointer (some ⟨g, 0, none⟩), .agg (pC p A c)] w (AddPost g (addR j p) w) := by
  have q := ptrTest
  rw [show addR j p = ⟨j, 0, [], false, 1⟩ from if_pos hb]
  obtain ⟨w1, hw1⟩ : ∃ w1, w1 = w.alloc (.cells (pC p A c) tP) := ⟨_, rfl⟩
  have hb1 : Below w.heap.size w w1 := by rw [hw1]; exact (Below.refl _ _).alloc (Nat.le_refl _) _
  have HFIN := Lib.hid (show AddPost g ⟨j, 0, [], false, 1⟩ w (.returned (.tuple #[.int .i64 0, .slice none 0 0, .bool false, .int .i64 1])) w1 from ⟨none, 0, rfl, Lies.empty _ _ _, hj.below hb1, Kept.of_below hb1⟩)
  obtain ⟨c0, c1, c2, c3, c4⟩ := box_cells hw1
  obtain ⟨i, t, o, last, x⟩ := p
  dsimp only [pC] at *
  have HW1 := Lib.hid hw1
  clear hw1 hb1 hj
  by_cases hi : i = 0
  · have hi0 : ((i : Int) == 0) = true := beq_iff_eq.2 (by omega)
    clear hb hi
    go_enter Try.func12, Try.ntmps12
    go_wp2_with fail
    rw [← HW1.out]
    go_wp2
    refine bodyPost_ret (results_tmp4 rfl _ _ _) rfl ?_
    exact HFIN.out
  · have hi0 : ((i : Int) == 0) = false := beq_eq_false_iff_ne.2 (by omega)
    by_cases ho : o < 0
    · clear hb hi
      go_enter Try.func12, Try.ntmps12
      go_wp2_with fail
      rw [← HW1.out]
      go_wp2
      refine bodyPost_ret (results_tmp4 rfl _ _ _) rfl ?_
      exact HFIN.out
    · have hn : (256 : Int) < (x.length : Int) := by omega
      clear hb hi
      go_enter Try.func12, Try.ntmps12
      go_wp2_with fail
      rw [← HW1.out]
      go_wp2
      refine bodyPost_ret (results_tmp4 rfl _ _ _) rfl ?_
      exact HFIN.out
theorem jset {w : World} {g : Nat} {j : J7} (h : JAt w g j) (j2 : J7) : JAt (((w.setCell ⟨g, 0, none⟩ (.int .u64 (j2.i : Nat))).setCell ⟨g, 1, none⟩ (.int .u64 (j2.t : Nat))).setCell ⟨g, 2, none⟩ (.string (str j2.d))) g j2 :=
  Go.heap_setCell_same _ _ 2 _ _ _ (Go.heap_setCell_same _ _ 1 _ _ _ (Go.heap_setCell_same w _ 0 _ _ _ h))
theorem jkept (w : World) (g : Nat) (a0 a1 a2 : Value) : Kept (fun b => b = g) w (((w.setCell ⟨g, 0, none⟩ a0).setCell ⟨g, 1, none⟩ a1).setCell ⟨g, 2, none⟩ a2) :=
  ((((Kept.refl (fun b => b = g) w).setCell (p := ⟨g, 0, none⟩) (fun _ => rfl) a0).setCell (p := ⟨g, 1, none⟩) (fun _ => rfl) a1).setCell (p := ⟨g, 2, none⟩) (fun _ => rfl) a2)
theorem conv_any (w : World) (l : List UInt8) : (convert 9 23 (.string (str l))).run Try.prog w = .ok (.slice (some ⟨w.heap.size, 0, none⟩) (str l).size (grownCap w (str l).size 0 5)) (Lib.bytesWorld w 5 (str l)) :=
  Lib.run_convert_string_bytes (P := Try.prog) w 9 23 5 (str l) Try.underlying9 Try.underlying23 Try.underlying5
theorem below_text (w : World) (l : List UInt8) : Below w.heap.size w (Lib.bytesWorld w 5 (str l)) :=
  ⟨rfl, rfl, rfl, by rw [Lib.bytesWorld_size]; omega, fun k hk => Lib.bytesWorld_at_old w _ _ k hk⟩
theorem lies_text (w : World) (l : List UInt8) : Lies (Lib.bytesWorld w 5 (str l)) (w.heap.size + 1) (some ⟨w.heap.size, 0, none⟩) l := fun _ =>
  ⟨w.heap.size, 0, rfl, Nat.lt_succ_self _, fun j x hx => by
    have hj := (List.getElem?_eq_some_iff.1 hx)
    obtain ⟨hj1, hj2⟩ := hj
    rw [Nat.zero_add, Lib.bytesWorld_cell w _ _ j (by rw [str_size]; exact hj1)]
    have e : (str l).data.toList = l := by simp [str]
    rw [e, bv]
    simp [List.getD, hx]⟩
set_option maxHeartbeats 3200000 in
theorem add_any (g : Nat) (j : J7) (p : P7) (A : Option Addr) (c : Nat) (w : World) (hj : JAt w g j) (hjo : j.d.length ≤ 32768) (hA : Lies w w.heap.size A p.d) :
    Calls Try.prog 12 #[.pointer (some ⟨g, 0, none⟩), .agg (pC p A c)] w (AddPost g (addR j p) w) := by
  by_cases hb : p.i = 0 ∨ p.o < 0 ∨ 256 < p.d.length
  · exact add_bad g j p A c w hj hb
  have q := ptrTest
  obtain ⟨r, hr⟩ : ∃ r, r = addR j p := ⟨_, rfl⟩
  rw [← hr]
  unfold addR at hr
  rw [if_neg hb] at hr
  obtain ⟨w1, hw1⟩ : ∃ w1, w1 = w.alloc (.cells (pC p A c) tP) := ⟨_, rfl⟩
  have hb1 : Below w.heap.size w w1 := by rw [hw1]; exact (Below.refl _ _).alloc (Nat.le_refl _) _
  have hr1 : w1.heap[w.heap.size]? = some (.cells (pC p A c) tP (0, 0)) := by rw [hw1]; exact heap_alloc_new w _
  obtain ⟨w2, hw2⟩ : ∃ w2, w2 = w1.alloc (.cells #[.int .u64 (p.i : Nat), .int .u64 (p.t : Nat)] tPl) := ⟨_, rfl⟩
  have hb2 : Below w.heap.size w w2 := by rw [hw2]; exact hb1.alloc hb1.size _
  have hz1 : w1.heap.size = w.heap.size + 1 := by rw [hw1, World.size_alloc]
  have hz2 : w2.heap.size = w.heap.size + 2 := by rw [hw2, World.size_alloc, hz1]
  have hr2 : w2.heap[w.heap.size]? = some (.cells (pC p A c) tP (0, 0)) := by rw [hw2]; exact (heap_alloc_old w1 _ (row_lt hr1)).trans hr1
  have hp2 : w2.heap[w1.heap.size]? = some (.cells #[.int .u64 (p.i : Nat), .int .u64 (p.t : Nat)] tPl (0, 0)) := by rw [hw2]; exact heap_alloc_new w1 _
  obtain ⟨i, t, o, last, x⟩ := p
  dsimp only [pC] at *
  have hi0 : ((i : Int) == 0) = false := beq_eq_false_iff_ne.2 (by omega)
  have ho : ¬ (o < 0) := by omega
  obtain ⟨k, rfl⟩ : ∃ k : Nat, o = k := ⟨o.toNat, by omega⟩
  rw [show (k : Int).toNat = k by omega] at hr
  obtain ⟨n, hn⟩ : ∃ n, n = x.length := ⟨_, rfl⟩
  rw [← hn] at hw1 hr1 hr2 ⊢
  have hn6 : ¬ ((256 : Int) < (n : Int)) := by omega
  have HHAS := Lib.hid (has_any g j i t w2 (hj.below hb2))
  obtain ⟨d, hd⟩ : ∃ d, d = hasD j i t := ⟨_, rfl⟩
  rw [← hd] at HHAS hr
  have hdl : d.length ≤ 32768 := by rw [hd]; exact hasD_len j i t hjo
  have HDL := Lib.hid hdl
  have HRES := Lib.hid hr
  have HR2 := Lib.hid hr2
  have HP2 := Lib.hid hp2
  have HB2 := Lib.hid hb2
  have HW1 := Lib.hid hw1
  have HW2 := Lib.hid hw2
  have HZ2 := Lib.hid hz2
  have HN := Lib.hid hn
  have HA := Lib.hid hA
  have HJ := Lib.hid hj
  obtain ⟨c0, c1, c2, c3, c4⟩ := pcells hr1
  clear hr1 hr2 hp2 hb1 hb2 hw1 hw2 hz1 hz2 hA hj hd hjo hb hn hr
  go_enter Try.func12, Try.ntmps12
  go_upto_region 1 with fail
  rw [← HW1.out]
  go_upto_region 4 with fail
  rw [← HW2.out]
  have p0 : w2.cell? ⟨w1.heap.size, 0, none⟩ = some (.int .u64 (i : Nat)) := (cell_of_row _ _ 0 _ _ _ HP2.out).trans rfl
  have p1 : w2.cell? ⟨w1.heap.size, 1, none⟩ = some (.int .u64 (t : Nat)) := (cell_of_row _ _ 1 _ _ _ HP2.out).trans rfl
  go_wp2_with fail
  refine HHAS.out.mono ?_
  rintro e w3 ⟨rfl, hb3⟩
  have HR3 := Lib.hid ((hb3.block _ (row_lt HR2.out)).trans HR2.out)
  have HP3 := Lib.hid ((hb3.block _ (row_lt HP2.out)).trans HP2.out)
  have HB3 := Lib.hid (By.ext HB2.out hb3)
  clear p0 p1 c0 c1 c2 c3 c4 hb3 HHAS
  obtain ⟨c0, c1, c2, c3, c4⟩ := pcells HR3.out
  have hsz : (str d).size = d.length := str_size d
  by_cases hgap : (d.length : Int) < (k : Int)
  · have HFIN := Lib.hid (show AddPost g r w (.returned (.tuple #[.int .i64 0, .slice none 0 0, .bool false, .int .i64 12])) w3 from by
      rw [HRES.out, if_pos hgap]; exact ⟨none, 0, rfl, Lies.empty _ _ _, HJ.out.below HB3.out, Kept.of_below HB3.out⟩)
    go_wp2
    refine bodyPost_ret (results_tmp4 rfl _ _ _) rfl ?_
    exact HFIN.out
  · have HRES2 := Lib.hid (HRES.out.trans (if_neg hgap))
    have HLD := Lib.hid (fun (A : Option Addr) (w : World) (hA : Lies w w.heap.size A x) => laid_any d ⟨i, t, (k : Int), last, x⟩ k n A c w rfl HN.out.symm (by omega) HDL.out (by omega) hA)
    have hlx : Lies w3 w3.heap.size A x := (HA.out.below HB3.out).more HB3.out.size
    have HL3 := Lib.hid (HLD.out A w3 hlx)
    rw [show pC ⟨i, t, (k : Int), last, x⟩ A c = #[.int .u64 (i : Nat), .int .u64 (t : Nat), .int .i64 (k : Int), .bool last, .slice A n c] by rw [HN.out]] at HL3
    obtain ⟨y, hy⟩ : ∃ y, y = laidD d k last x := ⟨_, rfl⟩
    have HL3' := Lib.hid (show Calls Try.prog 18 #[.string (str d), .agg #[.int .u64 (i : Nat), .int .u64 (t : Nat), .int .i64 (k : Int), .bool last, .slice A n c]] w3 (RetB (.string (str y)) w3) by rw [hy]; exact HL3.out)
    rw [← hy] at HRES2
    have hyl : y.length ≤ 65792 := by
      rw [hy]; unfold laidD
      split
      · omega
      · rw [List.length_append, List.length_take]; have := HN.out; omega
    clear hy HLD hlx HL3 HRES
    go_wp2_with fail
    refine HL3'.out.mono ?_
    rintro e w4 ⟨rfl, hb4⟩
    have HR4 := Lib.hid ((hb4.block _ (row_lt HR3.out)).trans HR3.out)
    have HP4 := Lib.hid ((hb4.block _ (row_lt HP3.out)).trans HP3.out)
    have HB4 := Lib.hid (By.ext HB3.out hb4)
    clear c0 c1 c2 c3 c4 hb4 HL3'
    obtain ⟨c0, c1, c2, c3, c4⟩ := pcells HR4.out
    have p0 : w4.cell? ⟨w1.heap.size, 0, none⟩ = some (.int .u64 (i : Nat)) := (cell_of_row _ _ 0 _ _ _ HP4.out).trans rfl
    have p1 : w4.cell? ⟨w1.heap.size, 1, none⟩ = some (.int .u64 (t : Nat)) := (cell_of_row _ _ 1 _ _ _ HP4.out).trans rfl
    have hysz : (str y).size = y.length := str_size y
    have HJ4 := Lib.hid (HJ.out.below HB4.out)
    obtain ⟨j0, j1, j2⟩ := HJ4.out.cells
    have fj : ∀ q, w4.frozen? ⟨g, q, none⟩ = false := fun q => frozen_of_row w4 _ q _ _ HJ4.out
    have HJS := Lib.hid (jset HJ4.out)
    have HJK := Lib.hid (jkept w4 g)
    by_cases hlg : 32768 < y.length
    · have hlgi : (32768 : Int) < (y.length : Int) := by omega
      have HRES3 := Lib.hid (HRES2.out.trans (if_pos hlg))
      clear hgap hlg hyl
      have HFIN := Lib.hid (show AddPost g r w (.returned (.tuple #[.int .i64 0, .slice none 0 0, .bool false, .int .i64 7])) (((w4.setCell ⟨g, 0, none⟩ (.int .u64 0)).setCell ⟨g, 1, none⟩ (.int .u64 0)).setCell ⟨g, 2, none⟩ (.string ⟨#[]⟩)) from by
        rw [HRES3.out]; exact ⟨none, 0, rfl, Lies.empty _ _ _, HJS.out ⟨0, 0, []⟩, (Kept.of_below HB4.out).trans (HJK.out _ _ _)⟩)
      go_wp2
      refine bodyPost_ret (results_tmp4 rfl _ _ _) rfl ?_
      exact HFIN.out
    · have hlgi : ¬ ((32768 : Int) < (y.length : Int)) := by omega
      have HRES3 := Lib.hid (HRES2.out.trans (if_neg hlg))
      clear hgap hlg hyl
      cases last
      · have HRES4 := Lib.hid (HRES3.out.trans (if_neg Bool.false_ne_true))
        have HFIN := Lib.hid (show AddPost g r w (.returned (.tuple #[.int .i64 (y.length : Nat), .slice none 0 0, .bool false, .int .i64 0])) (((w4.setCell ⟨g, 0, none⟩ (.int .u64 (i : Nat))).setCell ⟨g, 1, none⟩ (.int .u64 (t : Nat))).setCell ⟨g, 2, none⟩ (.string (str y))) from by
          rw [HRES4.out]; exact ⟨none, 0, rfl, Lies.empty _ _ _, HJS.out ⟨i, t, y⟩, (Kept.of_below HB4.out).trans (HJK.out _ _ _)⟩)
        go_wp2
        refine bodyPost_ret (results_tmp4 rfl _ _ _) rfl ?_
        exact HFIN.out
      · have HRES4 := Lib.hid (HRES3.out.trans (if_pos rfl))
        obtain ⟨w5, hw5⟩ : ∃ w5, w5 = (((w4.setCell ⟨g, 0, none⟩ (.int .u64 0)).setCell ⟨g, 1, none⟩ (.int .u64 0)).setCell ⟨g, 2, none⟩ (.string ⟨#[]⟩)) := ⟨_, rfl⟩
        have hk5 : Kept (fun b => b = g) w w5 := by rw [hw5]; exact (Kept.of_below HB4.out).trans (HJK.out _ _ _)
        have hj5 : JAt w5 g ⟨0, 0, []⟩ := by rw [hw5]; exact HJS.out ⟨0, 0, []⟩
        have hcv := conv_any w5 y
        rw [hysz] at hcv
        have HFIN := Lib.hid (show AddPost g r w (.returned (.tuple #[.int .i64 (y.length : Nat), .slice (some ⟨w5.heap.size, 0, none⟩) y.length (grownCap w5 y.length 0 5), .bool true, .int .i64 0])) (Lib.bytesWorld w5 5 (str y)) from by
          rw [HRES4.out]
          exact ⟨_, _, rfl, (lies_text w5 y).more (by rw [Lib.bytesWorld_size]; exact Nat.le_refl _), hj5.below (below_text w5 y), hk5.trans (Kept.of_below (below_text w5 y))⟩)
        have HW5 := Lib.hid hw5
        clear hk5 hj5 hw5
        go_upto_region 13 with fail
        rw [← HW5.out]
        go_wp2
        refine bodyPost_ret (results_tmp4 rfl _ _ _) rfl ?_
        exact HFIN.out
end Go.Proofs.Ytjafgkehkigclaa.Sn
