/- Package slot's toFile: what a file's bytes are, as a contract of a call. -/
import Derived.Test.YtjnmolpopjapnaaDoorSoC
import Derived.Test.YtjnmolpopjapnaaDoorCoU
import Derived.Test.YtjnmolpopjapnaaDoorDkZ
import Derived.Laws.Rows
namespace Go.Proofs.YtjnmolpopjapnaaDoor.So
open Go.RowKit Go.Maps By Mp Dk

abbrev tSFile : TypeId := 69
abbrev tSFiles : TypeId := 70
theorem nAlloc {B : Nat} {w w1 : World} (h : Below B w w1) (hB : B ≤ w.heap.size) (o : Obj) : Below B w (w1.alloc o) := h.alloc (Nat.le_trans hB h.size) o
theorem nSet {B : Nat} {w w1 : World} (h : Below B w w1) (p : Addr) (hp : B ≤ p.block) (v : Value) : Below B w (w1.setCell p v) := h.setCell hp v
theorem ret_file {w4 : World} {r : Nat} {a0 a1 a2 : Value} {tm : Array Value} (h2 : tm[2]?.getD undef = .pointer (some ⟨r, 0, none⟩)) (hrow : w4.heap[r]? = some (.cells #[a0, a1, a2] tSFile (0, 0))) :
    (results Tryd.f45 tm).run Tryd.prog w4 = .ok (.agg #[a0, a1, a2]) w4 := by
  have hres : Tryd.f45.results = #[.cell 2 tSFile] := by kernel_rfl
  have hlv : (loadVar tSFile ⟨r, 0, none⟩).run Tryd.prog w4 = .ok (.agg #[a0, a1, a2]) w4 := run_loadVar_row w4 _ _ _ _ _ _ hrow Tryd.underlying69 rfl (by kernel_rfl)
  unfold results
  rw [hres]
  simp [asAddr, hlv, h2]
/-- A file as three cells: is it there, is it whole, its value. -/
def Cel (base : Nat) (w : World) (f : Fl) (b c : Bool) (v : Value) : Prop := b = f.isSome ∧ c = isW f ∧ Own base w v ((f.getD none).getD [])
theorem Cel.below {base : Nat} {w w' : World} {f : Fl} {b c : Bool} {v : Value} (h : Cel base w f b c v) (hb : Below w.heap.size w w') : Cel base w' f b c v := ⟨h.1, h.2.1, h.2.2.kept hb (Nat.le_refl _)⟩
theorem Cel.none (base : Nat) (w : World) : Cel base w none false false (.slice none 0 0) := ⟨rfl, rfl, By.Own.nil _ _⟩
def FilePost (l : Bs) (w : World) (e : Ending) (w' : World) : Prop := ∃ c v, e = .returned (.agg #[.bool true, .bool c, v]) ∧ Cel w.heap.size w' (some (whole l)) true c v ∧ Below w.heap.size w w'
set_option maxRecDepth 100000 in
set_option maxHeartbeats 2000000 in
theorem toFile_any (A : Option Addr) (n c : Nat) (l : Bs) (w : World) (hn : n = l.length) (hc : n ≤ c) (hm : n ≤ 140737488355328) (hr : Lies w w.heap.size A l) : Calls Tryd.prog 45 #[.slice A n c] w (FilePost l w) := by
  obtain ⟨w1, hw1⟩ : ∃ w1, w1 = w.alloc (.cells #[.bool false, .bool false, .slice none 0 0] tSFile) := ⟨_, rfl⟩
  have hb1 : Below w.heap.size w w1 := by rw [hw1]; exact nAlloc (Below.refl _ _) (Nat.le_refl _) _
  have hr1 : w1.heap[w.heap.size]? = some (.cells #[.bool false, .bool false, .slice none 0 0] tSFile (0, 0)) := by rw [hw1]; exact heap_alloc_new w _
  have hun := Co.un_in A n c 0 w1.heap.size l hn hc (Nat.zero_le _) hm w1 ((hr.below hb1).more hb1.size) (Nat.le_refl _)
  rw [List.drop_zero] at hun
  have HU := Lib.hid hun
  have HB1 := Lib.hid hb1
  have HR1 := Lib.hid hr1
  have HW1 := Lib.hid hw1
  have HWH := Lib.hid (show whole l = if (CoP.unR l).2.2 = 0 ∧ (CoP.unR l).2.1 = n then some (CoP.unR l).1 else none by rw [hn]; rfl)
  have HM := Lib.hid hm
  clear hb1 hr1 hun hn hr hm
  obtain ⟨x, hx⟩ : ∃ x, x = CoP.unR l := ⟨_, rfl⟩
  rw [← hx] at HU HWH
  obtain ⟨xv, xn, xe⟩ := x
  dsimp only at HU HWH
  have HWH2 := Lib.hid (show whole l = if xe = 0 ∧ xn = n then some xv else none from HWH.out)
  clear HWH
  go_enter Tryd.func45, Tryd.ntmps45
  go_wp2_with fail
  rw [← HW1.out]
  clear HW1 hw1
  refine HU.out.mono ?_
  rintro e w2 ⟨v, rfl, ho, hb2⟩
  have HO := Lib.hid ho
  have hr2 := (hb2.block _ (row_lt HR1.out)).trans HR1.out
  have HR2 := Lib.hid hr2
  have HB2 := Lib.hid (HB1.out.trans (hb2.mono HB1.out.size))
  have HZ := Lib.hid HB1.out.size
  obtain ⟨Av, cv, hv, -⟩ := ho.form
  subst hv
  have f3 : ∀ i, w2.frozen? ⟨w.heap.size, i, none⟩ = false := fun i => frozen_of_row w2 _ i _ _ hr2
  have c0 : w2.cell? ⟨w.heap.size, 0, none⟩ = some (.bool false) := (cell_of_row w2 _ 0 _ _ _ hr2).trans rfl
  have c1 : w2.cell? ⟨w.heap.size, 1, none⟩ = some (.bool false) := (cell_of_row w2 _ 1 _ _ _ hr2).trans rfl
  have c2 : w2.cell? ⟨w.heap.size, 2, none⟩ = some (.slice none 0 0) := (cell_of_row w2 _ 2 _ _ _ hr2).trans rfl
  have HG := Lib.hid (fun (q0 q1 q2 : Value) => And.intro (Go.heap_setCell_same _ _ 2 _ _ q2 (Go.heap_setCell_same _ _ 1 _ _ q1 (Go.heap_setCell_same w2 _ 0 _ _ q0 HR2.out))) (nSet (nSet (nSet HB2.out ⟨w.heap.size, 0, none⟩ (Nat.le_refl _) q0) ⟨w.heap.size, 1, none⟩ (Nat.le_refl _) q1) ⟨w.heap.size, 2, none⟩ (Nat.le_refl _) q2))
  clear ho hb2 hr2 HU
  by_cases he : xe = 0
  · subst he
    by_cases hxn : xn = n
    · subst hxn
      have HFIN := Lib.hid (show FilePost l w (.returned (.agg #[.bool true, .bool true, .slice Av xv.length cv])) (((w2.setCell ⟨w.heap.size, 0, none⟩ (.bool true)).setCell ⟨w.heap.size, 1, none⟩ (.bool true)).setCell ⟨w.heap.size, 2, none⟩ (.slice Av xv.length cv)) from
        ⟨true, _, rfl, ⟨rfl, by rw [HWH2.out, if_pos ⟨rfl, rfl⟩]; rfl, by
          rw [HWH2.out, if_pos ⟨rfl, rfl⟩]
          show Own _ _ _ xv
          refine (ownsRow_keep (ownsRow_base HO.out HZ.out) (fun b hb => ?_))
          have hge := (ownsRow_lt HO.out hb).1
          have hne : b ≠ w.heap.size := by have := row_lt HR1.out; omega
          exact (heap_setCell_other _ ⟨w.heap.size, 2, none⟩ b _ hne).trans ((heap_setCell_other _ ⟨w.heap.size, 1, none⟩ b _ hne).trans (heap_setCell_other _ ⟨w.heap.size, 0, none⟩ b _ hne))⟩, (HG.out _ _ _).2⟩)
      rw [show Co.nextI 0 xn 0 = (xn : Int) by unfold Co.nextI; simp]
      go_wp2
      exact bodyPost_ret (ret_file rfl (HG.out _ _ _).1) rfl HFIN.out
    · have hni : ¬ ((xn : Int) = (n : Int)) := by omega
      have hxi : ((xn : Int) == (n : Int)) = false := beq_eq_false_iff_ne.2 hni
      have hxi2 : ((xn : Int) != (n : Int)) = true := bne_iff_ne.2 hni
      have HFIN := Lib.hid (show FilePost l w (.returned (.agg #[.bool true, .bool false, .slice none 0 0])) (((w2.setCell ⟨w.heap.size, 0, none⟩ (.bool true)).setCell ⟨w.heap.size, 1, none⟩ (.bool false)).setCell ⟨w.heap.size, 2, none⟩ (.slice none 0 0)) from
        ⟨false, _, rfl, ⟨rfl, by rw [HWH2.out, if_neg (fun h => hxn h.2)]; rfl, by rw [HWH2.out, if_neg (fun h => hxn h.2)]; exact By.Own.nil _ _⟩, (HG.out _ _ _).2⟩)
      rw [show Co.nextI 0 xn 0 = (xn : Int) by unfold Co.nextI; simp]
      clear hxn
      go_wp2
      exact bodyPost_ret (ret_file rfl (HG.out _ _ _).1) rfl HFIN.out
  · have hei : ((xe : Int) == 0) = false := by simpa using he
    have hei2 : ((xe : Int) != 0) = true := by simpa using he
    have HFIN := Lib.hid (show FilePost l w (.returned (.agg #[.bool true, .bool false, .slice none 0 0])) (((w2.setCell ⟨w.heap.size, 0, none⟩ (.bool true)).setCell ⟨w.heap.size, 1, none⟩ (.bool false)).setCell ⟨w.heap.size, 2, none⟩ (.slice none 0 0)) from
        ⟨false, _, rfl, ⟨rfl, by rw [HWH2.out, if_neg (fun h => he h.1)]; rfl, by rw [HWH2.out, if_neg (fun h => he h.1)]; exact By.Own.nil _ _⟩, (HG.out _ _ _).2⟩)
    clear he
    go_wp2
    exact bodyPost_ret (ret_file rfl (HG.out _ _ _).1) rfl HFIN.out
end Go.Proofs.YtjnmolpopjapnaaDoor.So
