/- Package post's isCut, at, add as contracts of calls. -/
import Derived.Test.YtenaecpmmbigdaaPoB
import Derived.RegionTactic
import Derived.ChangeAlike
import Derived.StillTailTactics
namespace Go.Proofs.Ytenaecpmmbigdaa.Po
open Go.RowKit Go.Maps By Mp

abbrev tCutM : TypeId := 52
theorem unitZero (w : World) : (zeroValue 61).run Try.prog w = .ok unitV w := by kernel_rfl
theorem look_cut {w : World} {mb : Option Nat} {cuts : List (Int × Int)} (h : CutAt w mb cuts) (he : ∀ q ∈ cuts, End8 q.1 ∧ End8 q.2) {a b : Int} (ha : End8 a) (hb : End8 b) :
    (Instr.lookup tCutM (.map mb) (wayV a b) true).run Try.prog w = .ok (.tuple #[unitV, .bool (decide ((a, b) ∈ cuts))]) w := by
  have hg := getOf_at he ha hb
  cases mb with
  | none =>
    have h : cuts = [] := h
    subst h
    exact look_none wayLaw Try.underlying52 (unitZero w) (way_key ha hb) true
  | some m =>
    have h2 := MapIs.look h wayLaw Try.underlying52 (unitZero w) (way_key ha hb) true
    rw [hg] at h2
    have e : (getOf cuts (wayK a b)).getD unitV = unitV := by
      unfold getOf
      split <;> rfl
    rw [e] at h2
    exact h2
set_option maxHeartbeats 800000 in
theorem isCut_any (g : Nat) (p : P8) (S : Nat → Prop) (a b : Int) (w : World) (h : PostIs w g p S) (ha : End8 a) (hb : End8 b) :
    Calls Try.prog 27 #[.pointer (some ⟨g, 0, none⟩), wayV a b] w (RetB (.bool (decide ((a, b) ∈ p.cuts))) w) := by
  obtain ⟨v, mb, h⟩ := h
  obtain ⟨w1, hw1⟩ : ∃ w1, w1 = w.alloc (.cells #[.int .i64 a, .int .i64 b] tWay) := ⟨_, rfl⟩
  have hb1 : Below w.heap.size w w1 := by rw [hw1]; exact (Below.refl _ _).alloc (Nat.le_refl _) _
  have hr1 : w1.heap[w.heap.size]? = some (.cells #[.int .i64 a, .int .i64 b] tWay (0, 0)) := by rw [hw1]; exact heap_alloc_new w _
  have h1 := h.below hb1
  have hb2 : Below w1.heap.size w1 (w1.alloc (.cells #[] 61)).drew := ((Below.refl _ _).alloc (Nat.le_refl _) _).drew
  have h2 := h1.below hb2
  obtain ⟨c0, c1⟩ := wcells hr1
  obtain ⟨d0, d1⟩ := wcells ((hb2.block _ (row_lt hr1)).trans hr1)
  obtain ⟨p0, p1, p2⟩ := h1.cells
  obtain ⟨q0, q1, q2⟩ := h2.cells
  have hl : (Instr.lookup tCutM (.map mb) (.agg #[.int .i64 a, .int .i64 b]) true).run Try.prog w1.drew = .ok (.tuple #[.agg #[], .bool (decide ((a, b) ∈ p.cuts))]) w1.drew := look_cut (w := w1.drew) h1.map h1.ok.ends ha hb
  have hm : (Instr.lookup tCutM (.map mb) (.agg #[.int .i64 a, .int .i64 b]) true).run Try.prog (w1.alloc (.cells #[] 61)).drew = .ok (.tuple #[.agg #[], .bool (decide ((a, b) ∈ p.cuts))]) (w1.alloc (.cells #[] 61)).drew := look_cut h2.map h1.ok.ends ha hb
  have HFIN := Lib.hid (show Below w.heap.size w (w1.alloc (.cells #[] 61)) from hb1.alloc hb1.size _)
  have HW1 := Lib.hid hw1
  generalize decide ((a, b) ∈ p.cuts) = r at *
  clear h hr1 hb1 hw1 h1 ha hb hb2 h2
  go_enter Try.func27, Try.ntmps27
  go_upto_region 1 with fail
  rw [← HW1.out]
  go_wp2
  go_region
  all_goals
    go_wp2
    go_ret
    exact ⟨rfl, HFIN.out.drew⟩
def zeroL : L8 := ⟨0, 0, []⟩
abbrev letV (x : L8) : Value := .agg #[.int .i64 x.a, .int .i64 x.b, .string (str x.d)]
/-- Which letter stands at a place, or why none does. -/
def AtPost (x : L8) (er : Int) (w : World) (e : Ending) (w' : World) : Prop := e = .returned (.tuple #[letV x, .int .i64 er]) ∧ Below w.heap.size w w'
theorem ret_at {w4 : World} {r : Nat} {a0 a1 a2 er : Value} {tm : Array Value} (h8 : tm[4]?.getD undef = .pointer (some ⟨r, 0, none⟩)) (h9 : tm[5]?.getD undef = er) (hrow : w4.heap[r]? = some (.cells #[a0, a1, a2] tLet (0, 0))) :
    (results Try.f30 tm).run Try.prog w4 = .ok (.tuple #[.agg #[a0, a1, a2], er]) w4 := by
  have hres : Try.f30.results = #[.cell 4 tLet, .tmp 5] := by kernel_rfl
  have hlv : (loadVar tLet ⟨r, 0, none⟩).run Try.prog w4 = .ok (.agg #[a0, a1, a2]) w4 := run_loadVar_row w4 _ _ _ _ _ _ hrow Try.underlying59 rfl (by kernel_rfl)
  unfold results
  rw [hres]
  simp [asAddr, hlv, h8, h9]
theorem set3 {w : World} {g : Nat} {t : TypeId} {b0 b1 b2 : Value} (hr : w.heap[g]? = some (.cells #[b0, b1, b2] t (0, 0))) (a0 a1 a2 : Value) :
    (((w.setCell ⟨g, 0, none⟩ a0).setCell ⟨g, 1, none⟩ a1).setCell ⟨g, 2, none⟩ a2).heap[g]? = some (.cells #[a0, a1, a2] t (0, 0)) :=
  Go.heap_setCell_same _ _ 2 _ _ a2 (Go.heap_setCell_same _ _ 1 _ _ a1 (Go.heap_setCell_same w _ 0 _ _ a0 hr))
theorem kept3 (w : World) (g : Nat) (a0 a1 a2 : Value) : Kept (fun b => b = g) w (((w.setCell ⟨g, 0, none⟩ a0).setCell ⟨g, 1, none⟩ a1).setCell ⟨g, 2, none⟩ a2) :=
  ((((Kept.refl (fun b => b = g) w).setCell (p := ⟨g, 0, none⟩) (fun _ => rfl) a0).setCell (p := ⟨g, 1, none⟩) (fun _ => rfl) a1).setCell (p := ⟨g, 2, none⟩) (fun _ => rfl) a2)
theorem set3_below {w w1 : World} (hb1 : Below w.heap.size w w1) (a0 a1 a2 : Value) : Below w.heap.size w (((w1.setCell ⟨w.heap.size, 0, none⟩ a0).setCell ⟨w.heap.size, 1, none⟩ a1).setCell ⟨w.heap.size, 2, none⟩ a2) :=
  hb1.trans ((kept3 w1 w.heap.size a0 a1 a2).below hb1.size (fun b hb => by
    have hb : b = w.heap.size := hb
    rw [hb]; exact Nat.le_refl _))
theorem lcells {w : World} {g : Nat} {t : TypeId} {a b c : Value} (hr : w.heap[g]? = some (.cells #[a, b, c] t (0, 0))) : w.cell? ⟨g, 0, none⟩ = some a ∧ w.cell? ⟨g, 1, none⟩ = some b ∧ w.cell? ⟨g, 2, none⟩ = some c :=
  ⟨(cell_of_row w _ 0 _ _ _ hr).trans rfl, (cell_of_row w _ 1 _ _ _ hr).trans rfl, (cell_of_row w _ 2 _ _ _ hr).trans rfl⟩
/-- The cells of the k-th letter. -/
theorem PAt.letter {w : World} {g : Nat} {p : P8} {v : Value} {mb : Option Nat} {S : Nat → Prop} (h : PAt w g p v mb S) {k : Nat} {x : L8} (hx : p.l[k]? = some x) :
    ∃ b c, v = .slice (some ⟨b, 0, none⟩) p.l.length c ∧ w.cell? ⟨b, k * 3, none⟩ = some (.int .i64 x.a) ∧ w.cell? ⟨b, k * 3 + 1, none⟩ = some (.int .i64 x.b) ∧ w.cell? ⟨b, k * 3 + 2, none⟩ = some (.string (str x.d)) := by
  have hk := (List.getElem?_eq_some_iff.1 hx).1
  obtain ⟨b, c, hv, h1, h2⟩ := World.ownsRow.form h.own (by omega)
  obtain ⟨e1, e2, e3⟩ := lRow_at hx
  have hc := fun j u hu => World.ownsRow.cells h.own (g := b) (by rw [hv]; rfl) j u hu
  refine ⟨b, c, hv, ?_, ?_, ?_⟩
  · have := hc _ _ e1; rwa [plainAdd, Nat.zero_add] at this
  · have := hc _ _ e2; rwa [plainAdd, Nat.zero_add] at this
  · have := hc _ _ e3; rwa [plainAdd, Nat.zero_add] at this
set_option maxHeartbeats 800000 in
theorem at_nil (i : Int) (w : World) : Calls Try.prog 30 #[.pointer none, .int .i64 i] w (AtPost zeroL 1 w) := by
  obtain ⟨w1, hw1⟩ : ∃ w1, w1 = w.alloc (.cells #[.int .i64 0, .int .i64 0, .string ⟨#[]⟩] tLet) := ⟨_, rfl⟩
  have hb1 : Below w.heap.size w w1 := by rw [hw1]; exact (Below.refl _ _).alloc (Nat.le_refl _) _
  have hr1 : w1.heap[w.heap.size]? = some (.cells #[.int .i64 0, .int .i64 0, .string ⟨#[]⟩] tLet (0, 0)) := by rw [hw1]; exact heap_alloc_new w _
  obtain ⟨c0, c1, c2⟩ := lcells hr1
  have f1 : ∀ i, w1.frozen? ⟨w.heap.size, i, none⟩ = false := fun i => frozen_of_row w1 _ i _ _ hr1
  have q := ptrTest
  have HR := Lib.hid (set3 hr1)
  have HB := Lib.hid (set3_below hb1)
  have HW1 := Lib.hid hw1
  clear hr1 hw1 hb1
  go_enter Try.func30, Try.ntmps30
  go_upto_region 1 with fail
  rw [← HW1.out]
  go_wp2
  exact bodyPost_ret (ret_at rfl rfl (HR.out _ _ _)) rfl ⟨rfl, HB.out _ _ _⟩
set_option maxHeartbeats 800000 in
theorem at_none (g : Nat) (p : P8) (S : Nat → Prop) (i : Int) (w : World) (h : PostIs w g p S) (hi : i < 0 ∨ (p.l.length : Int) ≤ i) : Calls Try.prog 30 #[.pointer (some ⟨g, 0, none⟩), .int .i64 i] w (AtPost zeroL 8 w) := by
  obtain ⟨v, mb, h⟩ := h
  obtain ⟨w1, hw1⟩ : ∃ w1, w1 = w.alloc (.cells #[.int .i64 0, .int .i64 0, .string ⟨#[]⟩] tLet) := ⟨_, rfl⟩
  have hb1 : Below w.heap.size w w1 := by rw [hw1]; exact (Below.refl _ _).alloc (Nat.le_refl _) _
  have hr1 : w1.heap[w.heap.size]? = some (.cells #[.int .i64 0, .int .i64 0, .string ⟨#[]⟩] tLet (0, 0)) := by rw [hw1]; exact heap_alloc_new w _
  obtain ⟨c0, c1, c2⟩ := lcells hr1
  obtain ⟨A, c, rfl⟩ := ownsRow_form h.own
  obtain ⟨p0, -, -⟩ := (h.below hb1).cells
  have f1 : ∀ i, w1.frozen? ⟨w.heap.size, i, none⟩ = false := fun i => frozen_of_row w1 _ i _ _ hr1
  have q := ptrTest
  have HR := Lib.hid (set3 hr1)
  have HB := Lib.hid (set3_below hb1)
  have HW1 := Lib.hid hw1
  clear hr1 hw1 hb1 h
  by_cases h0 : i < 0
  · clear hi
    go_enter Try.func30, Try.ntmps30
    go_upto_region 1 with fail
    rw [← HW1.out]
    go_wp2
    exact bodyPost_ret (ret_at rfl rfl (HR.out _ _ _)) rfl ⟨rfl, HB.out _ _ _⟩
  · have h1 : (p.l.length : Int) ≤ i := by omega
    clear hi
    go_enter Try.func30, Try.ntmps30
    go_upto_region 1 with fail
    rw [← HW1.out]
    go_wp2
    exact bodyPost_ret (ret_at rfl rfl (HR.out _ _ _)) rfl ⟨rfl, HB.out _ _ _⟩
set_option maxHeartbeats 800000 in
theorem at_some (g : Nat) (p : P8) (S : Nat → Prop) (k : Nat) (x : L8) (w : World) (h : PostIs w g p S) (hx : p.l[k]? = some x) : Calls Try.prog 30 #[.pointer (some ⟨g, 0, none⟩), .int .i64 (k : Int)] w (AtPost x 0 w) := by
  obtain ⟨v, mb, h⟩ := h
  obtain ⟨w1, hw1⟩ : ∃ w1, w1 = w.alloc (.cells #[.int .i64 0, .int .i64 0, .string ⟨#[]⟩] tLet) := ⟨_, rfl⟩
  have hb1 : Below w.heap.size w w1 := by rw [hw1]; exact (Below.refl _ _).alloc (Nat.le_refl _) _
  have hr1 : w1.heap[w.heap.size]? = some (.cells #[.int .i64 0, .int .i64 0, .string ⟨#[]⟩] tLet (0, 0)) := by rw [hw1]; exact heap_alloc_new w _
  obtain ⟨c0, c1, c2⟩ := lcells hr1
  have hp := h.below hb1
  obtain ⟨p0, -, -⟩ := hp.cells
  obtain ⟨b, c, rfl, d0, d1, d2⟩ := hp.letter hx
  have hk := (List.getElem?_eq_some_iff.1 hx).1
  have hki : (k : Int) < (p.l.length : Int) := by omega
  have f1 : ∀ i, w1.frozen? ⟨w.heap.size, i, none⟩ = false := fun i => frozen_of_row w1 _ i _ _ hr1
  have q := ptrTest
  have HFIN := Lib.hid (show AtPost x 0 w (.returned (.tuple #[letV x, .int .i64 0])) (((w1.setCell ⟨w.heap.size, 0, none⟩ (.int .i64 x.a)).setCell ⟨w.heap.size, 1, none⟩ (.int .i64 x.b)).setCell ⟨w.heap.size, 2, none⟩ (.string (str x.d))) from ⟨rfl, set3_below hb1 _ _ _⟩)
  have HS := Lib.hid (set3 hr1)
  have HW1 := Lib.hid hw1
  clear hr1 hw1 hb1 h hp hk hx
  go_enter Try.func30, Try.ntmps30
  go_upto_region 1 with fail
  rw [← HW1.out]
  go_wp2
  exact bodyPost_ret (ret_at rfl rfl (HS.out _ _ _)) rfl HFIN.out
end Go.Proofs.Ytenaecpmmbigdaa.Po
