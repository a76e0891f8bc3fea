/- Package snap's small functions: New, Have, has, laid, and bytes.Clone, as contracts of calls. -/
import Derived.Test.YtjafgkehkigclaaSnA
import Derived.Lib.SlBytesConst
namespace Go.Proofs.Ytjafgkehkigclaa.Sn
open Go.RowKit By

theorem str_size (l : Bs) : (str l).size = l.length := rfl
theorem str_app (a b : Bs) : str a ++ str b = str (a ++ b) := by
  unfold str
  apply ByteArray.ext
  simp
theorem str_toList (l : Bs) : (str l).toList = l := by rw [ByteArray.toList_eq]; simp [str]
theorem run_cat (w : World) (a b : Bs) (h : a.length + b.length ≤ 9223372036854775807) : (Op.stringOp .add (str a) (str b)).run Try.prog w = .ok (.string (str (a ++ b))) w := by
  rw [← str_app]
  have h2 : ¬ (((str a).size + (str b).size : Nat) : Int) > IntKind.i64.max := by
    rw [str_size, str_size]
    show ¬ ((a.length + b.length : Nat) : Int) > 9223372036854775807
    omega
  unfold Op.stringOp
  dsimp only
  rw [if_neg h2]
  rfl
theorem str_take (l : Bs) (k : Nat) : (str l).extract 0 k = str (l.take k) := by
  unfold str
  apply ByteArray.ext
  simp
theorem run_head (w : World) (l : Bs) (k : Nat) (hk : k ≤ l.length) : (Instr.slice 9 (.string (str l)) none (some (.int .i64 (k : Int))) none).run Try.prog w = .ok (.string (str (l.take k))) w := by
  rw [run_slice_string_h w 9 (str l) Try.underlying9 .i64 (k : Int) (by omega) (by rw [str_size]; omega), show ((k : Int)).toNat = k by omega, str_take]
theorem below_drewN {B : Nat} {a w : World} (h : Below B a w) (q : Nat) : Below B a (w.drewN q) := ⟨h.os, h.tape, h.output, h.size, h.block⟩
theorem results_tmp4 {fn : Func} {t u v x : Tmp} (h : fn.results = #[.tmp t, .tmp u, .tmp v, .tmp x]) (tmps : Array Value) (P : Program) (w : World) :
    (results fn tmps).run P w = .ok (.tuple #[tmps.getD t undef, tmps.getD u undef, tmps.getD v undef, tmps.getD x undef]) w := by
  simp [results, h]
theorem ptrTest (w : World) (a : Option Addr) : (binOp .eql 35 (.pointer a) (.pointer none)).run Try.prog w = .ok (.bool a.isNone) w := by
  cases a with
  | none => kernel_rfl
  | some a => kernel_rfl
theorem new_any (w : World) : Calls Try.prog 11 #[] w (fun e w' => e = .returned (.pointer (some ⟨w.heap.size, 0, none⟩)) ∧ JAt w' w.heap.size ⟨0, 0, []⟩ ∧ Below w.heap.size w w' ∧ w.heap.size < w'.heap.size) := by
  have HFIN := Lib.hid (show JAt (w.alloc (.cells #[.int .u64 0, .int .u64 0, .string ⟨#[]⟩] tJ)) w.heap.size ⟨0, 0, []⟩ ∧ Below w.heap.size w (w.alloc (.cells #[.int .u64 0, .int .u64 0, .string ⟨#[]⟩] tJ)) ∧ w.heap.size < (w.alloc (.cells #[.int .u64 0, .int .u64 0, .string ⟨#[]⟩] tJ)).heap.size from
    ⟨heap_alloc_new w _, (Below.refl _ _).alloc (Nat.le_refl _) _, by rw [World.size_alloc]; omega⟩)
  go_enter Try.func11, Try.ntmps11
  go_wp2
  go_ret
  exact ⟨rfl, HFIN.out⟩
theorem have_nil (w : World) : Calls Try.prog 15 #[.pointer none] w (RetB (.tuple #[.int .u64 0, .int .u64 0, .int .i64 0]) w) := by
  have q := ptrTest
  go_enter Try.func15, Try.ntmps15
  go_wp2
  go_ret3
  exact ⟨rfl, Below.refl _ _⟩
theorem have_any (g : Nat) (j : J7) (w : World) (h : JAt w g j) : Calls Try.prog 15 #[.pointer (some ⟨g, 0, none⟩)] w (RetB (.tuple #[.int .u64 (j.i : Nat), .int .u64 (j.t : Nat), .int .i64 (j.d.length : Nat)]) w) := by
  have q := ptrTest
  obtain ⟨h0, h1, h2⟩ := h.cells
  have hs := str_size j.d
  clear h
  go_enter Try.func15, Try.ntmps15
  go_wp2
  go_quiet (fail)
  go_wp2
  go_ret3
  exact ⟨rfl, below_drewN (Below.refl _ _) _⟩
theorem has_any (g : Nat) (j : J7) (i t : Nat) (w : World) (h : JAt w g j) : Calls Try.prog 17 #[.pointer (some ⟨g, 0, none⟩), .agg #[.int .u64 (i : Nat), .int .u64 (t : Nat)]] w (RetB (.string (str (hasD j i t))) w) := by
  have hb1 : Below w.heap.size w (w.alloc (.cells #[.int .u64 (i : Nat), .int .u64 (t : Nat)] tPl)) := (Below.refl _ _).alloc (Nat.le_refl _) _
  have hr1 := heap_alloc_new w (.cells #[.int .u64 (i : Nat), .int .u64 (t : Nat)] tPl)
  obtain ⟨w1, hw1⟩ : ∃ w1, w1 = w.alloc (.cells #[.int .u64 (i : Nat), .int .u64 (t : Nat)] tPl) := ⟨_, rfl⟩
  rw [← hw1] at hb1 hr1
  obtain ⟨h0, h1, h2⟩ := (h.below hb1).cells
  have c0 : w1.cell? ⟨w.heap.size, 0, none⟩ = some (.int .u64 (i : Nat)) := (cell_of_row w1 _ 0 _ _ _ hr1).trans rfl
  have c1 : w1.cell? ⟨w.heap.size, 1, none⟩ = some (.int .u64 (t : Nat)) := (cell_of_row w1 _ 1 _ _ _ hr1).trans rfl
  have HW1 := Lib.hid hw1
  have HB1 := Lib.hid hb1
  by_cases hc : j.i = i ∧ j.t = t
  · have hv : hasD j i t = j.d := if_pos hc
    have qp : ∀ w', (binOp .neq tPl (.agg #[.int .u64 (j.i : Nat), .int .u64 (j.t : Nat)]) (.agg #[.int .u64 (i : Nat), .int .u64 (t : Nat)])).run Try.prog w' = .ok (.bool false) w' := fun w' => by rw [placeTest, hc.1, hc.2]; simp
    rw [hv]
    clear hr1 hb1 hw1 h hc hv
    go_enter Try.func17, Try.ntmps17
    go_wp2_with fail
    rw [← HW1.out]
    go_quiet (fail)
    go_wp2
    go_ret
    exact ⟨rfl, below_drewN HB1.out _⟩
  · have hv : hasD j i t = [] := if_neg hc
    have qp : ∀ w', (binOp .neq tPl (.agg #[.int .u64 (j.i : Nat), .int .u64 (j.t : Nat)]) (.agg #[.int .u64 (i : Nat), .int .u64 (t : Nat)])).run Try.prog w' = .ok (.bool true) w' := fun w' => by
      rw [placeTest]
      by_cases h1 : j.i = i
      · have h2 : ¬ (j.t : Int) = (t : Int) := fun e => hc ⟨h1, by omega⟩
        simp [h1, h2]
      · have h2 : ¬ (j.i : Int) = (i : Int) := fun e => h1 (by omega)
        simp [h2]
    rw [hv]
    clear hr1 hb1 hw1 h hc hv
    go_enter Try.func17, Try.ntmps17
    go_wp2_with fail
    rw [← HW1.out]
    go_quiet (fail)
    go_wp2
    go_ret
    exact ⟨rfl, below_drewN HB1.out _⟩
/-- A piece that has been boxed. -/
theorem box_cells {w w1 : World} {p : P7} {A : Option Addr} {c : Nat} (h : w1 = w.alloc (.cells (pC p A c) tP)) : w1.cell? ⟨w.heap.size, 0, none⟩ = some (.int .u64 (p.i : Nat)) ∧ w1.cell? ⟨w.heap.size, 1, none⟩ = some (.int .u64 (p.t : Nat)) ∧ w1.cell? ⟨w.heap.size, 2, none⟩ = some (.int .i64 p.o) ∧ w1.cell? ⟨w.heap.size, 3, none⟩ = some (.bool p.last) ∧ w1.cell? ⟨w.heap.size, 4, none⟩ = some (.slice A p.d.length c) := by
  subst h
  have hr := heap_alloc_new w (.cells (pC p A c) tP)
  exact ⟨(cell_of_row _ _ 0 _ _ _ hr).trans rfl, (cell_of_row _ _ 1 _ _ _ hr).trans rfl, (cell_of_row _ _ 2 _ _ _ hr).trans rfl, (cell_of_row _ _ 3 _ _ _ hr).trans rfl, (cell_of_row _ _ 4 _ _ _ hr).trans rfl⟩
set_option maxHeartbeats 800000 in
theorem laid_any (d : Bs) (p : P7) (o n : Nat) (A : Option Addr) (c : Nat) (w : World) (ho : p.o = (o : Int)) (hn : p.d.length = n) (hod : o ≤ d.length) (hd : d.length ≤ 32768) (hn2 : n ≤ 256) (hA : Lies w w.heap.size A p.d) :
    Calls Try.prog 18 #[.string (str d), .agg (pC p A c)] w (RetB (.string (str (laidD d o p.last p.d))) w) := by
  obtain ⟨w1, hw1⟩ : ∃ w1, w1 = w.alloc (.cells (pC p A c) tP) := ⟨_, rfl⟩
  have hb1 : Below w.heap.size w w1 := by rw [hw1]; exact (Below.refl _ _).alloc (Nat.le_refl _) _
  have HT := Lib.hid (fun q => run_text (w1.drewN q) c hn.symm ((hA.below hb1).drewN q))
  obtain ⟨c0, c1, c2, c3, c4⟩ := box_cells hw1
  obtain ⟨i, t, o', last, x⟩ := p
  dsimp only [pC] at *
  subst ho
  rw [hn] at hw1 c4 ⊢
  have HW1 := Lib.hid hw1
  have HB1 := Lib.hid hb1
  obtain ⟨L, hL⟩ : ∃ L, L = d.length := ⟨_, rfl⟩
  have hs : (str d).size = L := hL ▸ str_size d
  have ho8 : (o : Int) ≤ 32768 := by omega
  have hn8 : (n : Int) ≤ 256 := by omega
  have HC := Lib.hid (fun w' => run_cat w' (d.take o) x (by rw [List.length_take]; omega))
  have HH := Lib.hid (fun w' => run_head w' d o hod)
  by_cases hle : o + n ≤ d.length
  · have hi : (o : Int) + (n : Int) ≤ (L : Int) := by omega
    cases hl : last
    · have hv : laidD d o false x = d := if_pos ⟨by omega, rfl⟩
      rw [hv]
      subst hl
      clear hn hv hle hw1 hb1 hA hod hd hL
      go_enter Try.func18, Try.ntmps18
      go_wp2_with fail
      rw [← HW1.out]
      go_wp2
      go_ret
      exact ⟨rfl, HB1.out⟩
    · have hv : laidD d o true x = d.take o ++ x := if_neg (fun h => by cases h.2)
      rw [hv]
      subst hl
      clear hn hv hle hw1 hb1 hA hod hd hL
      go_enter Try.func18, Try.ntmps18
      go_wp2_with fail
      rw [← HW1.out]
      have ht := HT.out
      have hh := HH.out
      have hc := HC.out
      go_wp2
      go_quiet (fail)
      go_wp2
      go_ret
      exact ⟨rfl, below_drewN HB1.out _⟩
  · have hi : ¬ ((o : Int) + (n : Int) ≤ (L : Int)) := by omega
    have hv : laidD d o last x = d.take o ++ x := if_neg (fun h => hle (by omega))
    rw [hv]
    clear hn hv hle hw1 hb1 hA hod hd hL
    go_enter Try.func18, Try.ntmps18
    go_wp2_with fail
    rw [← HW1.out]
    have ht := HT.out
    have hh := HH.out
    have hc := HC.out
    go_wp2
    go_quiet (fail)
    go_wp2
    go_ret
    exact ⟨rfl, below_drewN HB1.out _⟩
end Go.Proofs.Ytjafgkehkigclaa.Sn
