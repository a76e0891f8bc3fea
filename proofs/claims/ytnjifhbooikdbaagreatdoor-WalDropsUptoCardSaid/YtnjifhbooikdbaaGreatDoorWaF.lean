/- Package wal: Next, hear, last, as contracts of calls. -/
import Derived.Test.YtnjifhbooikdbaaGreatDoorWaE
namespace Go.Proofs.YtnjifhbooikdbaaGreatDoor.Wa
open Go.RowKit Go.Maps By Mp Dk

theorem nextS_at {l : List Seg} {k : Nat} (hk : k < l.length) (h : k + 1 = l.length) : nextS l = l[k].next := by
  unfold nextS
  rw [List.getLast?_eq_getElem?, show l.length - 1 = k by omega, List.getElem?_eq_getElem hk]
/-- A log's cells in later worlds. -/
theorem log_cells {w w' : World} {g d ub n cap k : Nat} {b dead : Bool} {e f m : Nat} {A : Option Addr} {c : Nat} (h : w.heap[g]? = some (.cells #[.pointer (some ⟨d, 0, none⟩), .slice (some ⟨ub, 0, none⟩) n cap, .bool dead] tLog (0, 0))) (hu : ub < w.heap.size)
    (h0 : w.cell? ⟨ub, k * 4, none⟩ = some (.int .u64 (e : Nat))) (h1 : w.cell? ⟨ub, k * 4 + 1, none⟩ = some (.int .u64 (f : Nat))) (h2 : w.cell? ⟨ub, k * 4 + 2, none⟩ = some (.bool b)) (h3 : w.cell? ⟨ub, k * 4 + 3, none⟩ = some (.slice A m c)) (hb : Below w.heap.size w w') :
    w'.cell? ⟨g, 0, none⟩ = some (.pointer (some ⟨d, 0, none⟩)) ∧ w'.cell? ⟨g, 1, none⟩ = some (.slice (some ⟨ub, 0, none⟩) n cap) ∧ w'.cell? ⟨ub, k * 4, none⟩ = some (.int .u64 (e : Nat)) ∧ w'.cell? ⟨ub, k * 4 + 1, none⟩ = some (.int .u64 (f : Nat)) ∧ w'.cell? ⟨ub, k * 4 + 2, none⟩ = some (.bool b) ∧ w'.cell? ⟨ub, k * 4 + 3, none⟩ = some (.slice A m c) := by
  have h' := (hb.block g (row_lt h)).trans h
  exact ⟨by rw [cell_of_row w' g 0 _ _ _ h']; rfl, by rw [cell_of_row w' g 1 _ _ _ h']; rfl, (hb.cell hu).trans h0, (hb.cell hu).trans h1, (hb.cell hu).trans h2, (hb.cell hu).trans h3⟩
set_option maxRecDepth 100000 in
set_option maxHeartbeats 2000000 in
theorem next_any (g d : Nat) (l : List Seg) (dead : Bool) (T : Nat → Prop) (w : World) (h : LogAt w g d l dead T) : Calls Tryz.prog 8 #[.pointer (some ⟨g, 0, none⟩)] w (RetB (.int .u64 (nextS l : Nat)) w) := by
  have HFI := Lib.hid (first_any g d l dead T w h)
  obtain ⟨v, ac, h⟩ := h
  have q1 := logTest
  cases hl : l.length with
  | zero =>
    have hl0 : l = [] := List.eq_nil_of_length_eq_zero hl
    subst hl0
    obtain ⟨A, c, rfl⟩ := h.form
    have h1 : w.cell? ⟨g, 1, none⟩ = some (.slice A 0 c) := by rw [cell_of_row w g 1 _ _ _ h.row]; rfl
    clear h hl
    go_enter Tryz.func8, Tryz.ntmps8
    go_wp2_with (go_at_call 10; refine HFI.out.mono ?_; rintro e w' ⟨rfl, rfl⟩)
    go_ret
    exact ⟨rfl, Below.refl _ _⟩
  | succ k =>
    obtain ⟨ub, cap, A, c, rfl, hub, -, hli, hok, hc0, hc1, hc2, hc3⟩ := h.at_ (k := k) (by omega)
    have hk : k < l.length := by omega
    rw [nextS_at hk hl.symm]
    have HSN := Lib.hid (fun w' => seg_next_any l[k] A c w' hok.next (Nat.le_trans hok.len (by decide)))
    have hrow := h.row
    have hfew := h.few
    rw [hl] at hrow hfew
    have HALL := Lib.hid (fun (w' : World) (hb : Below w.heap.size w w') => log_cells hrow hub hc0 hc1 hc2 hc3 hb)
    obtain ⟨s, hs⟩ : ∃ s, s = l[k] := ⟨_, rfl⟩
    rw [← hs] at HALL HSN ⊢
    have h1 : w.cell? ⟨g, 1, none⟩ = some (.slice (some ⟨ub, 0, none⟩) (k + 1) cap) := (HALL.out w (Below.refl _ _)).2.1
    clear h hl hrow hli hok hc0 hc1 hc2 hc3 hs HFI hk
    obtain ⟨era, first, base, ends⟩ := s
    obtain ⟨z, hz⟩ : ∃ z, z = Seg.next ⟨era, first, base, ends⟩ := ⟨_, rfl⟩
    rw [← hz] at HSN ⊢
    clear hz
    dsimp only [segV, segC] at HALL HSN ⊢
    go_enter Tryz.func8, Tryz.ntmps8
    go_upto_region 3 with fail
    clear h1
    obtain ⟨a0, a1, a2, a3, a4, a5⟩ := HALL.out w (Below.refl _ _)
    have i2 : IntKind.i64.wrap (k : Int) = (k : Int) := IntWalk.i64_in _ ⟨by omega, by omega⟩
    go_region_with (go_at_call 22; refine (HSN.out _).mono ?_; rintro e w2 ⟨rfl, hb2⟩)
    all_goals
      go_wp2
      go_ret
      exact ⟨rfl, By.ext (Below.refl _ _).drew hb2⟩
set_option maxHeartbeats 800000 in
theorem hear_any (g d : Nat) (l : List Seg) (dead : Bool) (T : Nat → Prop) (er : Int) (w : World) (h : LogAt w g d l dead T) : Calls Tryz.prog 25 #[.pointer (some ⟨g, 0, none⟩), .int .i64 er] w (fun e w' => e = .returned (.int .i64 er) ∧ LogAt w' g d l (dead || decide (er = 11)) T ∧ Kept (fun b => b = g) w w') := by
  obtain ⟨v, ac, h⟩ := h
  by_cases h11 : er = 11
  · subst h11
    have hf2 : w.frozen? ⟨g, 2, none⟩ = false := frozen_of_row w g 2 _ _ h.row
    have h2 : w.cell? ⟨g, 2, none⟩ = some (.bool dead) := by rw [cell_of_row w g 2 _ _ _ h.row]; rfl
    have hrow := Go.heap_setCell_same w g 2 _ _ (.bool true) h.row
    have hne : ∀ (b : Nat) (e : TypeId) (c : Array Value), w.heap[b]? = some (.cells c e (0, 0)) → e ≠ tLog → b ≠ g := fun b e c hb he hg => by
      subst hg
      rw [h.row] at hb
      injection hb with hb
      injection hb with _ hb
      exact he hb.symm
    have hoth : ∀ b, b ≠ g → (w.setCell ⟨g, 2, none⟩ (.bool true)).heap[b]? = w.heap[b]? := fun b hb => heap_setCell_other w ⟨g, 2, none⟩ b _ hb
    have HFIN := Lib.hid (show LogAt (w.setCell ⟨g, 2, none⟩ (.bool true)) g d l true T ∧ Kept (fun b => b = g) w (w.setCell ⟨g, 2, none⟩ (.bool true)) from by
      refine ⟨⟨v, ac, ?_, h.hac, ownsRow_keep h.segs (fun b hb => hoth b ?_), fun i s a hs ha => ownsRow_keep (h.ends i s a hs ha) (fun b hb => hoth b ?_), h.apart, h.tg, h.tv, h.te, fun b hb => by rw [size_setCell']; exact h.lt b hb, h.ok, h.few⟩, (Kept.refl (fun b => b = g) w).setCell (p := ⟨g, 2, none⟩) (fun _ => rfl) _⟩
      · exact hrow
      · obtain ⟨cur, hc⟩ := ownsRow_type h.segs hb
        exact hne b _ _ hc (by decide)
      · obtain ⟨cur, hc⟩ := ownsRow_type (h.ends i s a hs ha) hb
        exact hne b _ _ hc (by decide))
    clear h hrow hne hoth
    rw [show (dead || decide ((11 : Int) = 11)) = true by cases dead <;> rfl]
    go_enter Tryz.func25, Tryz.ntmps25
    go_wp2
    go_ret
    exact ⟨rfl, HFIN.out⟩
  · have e : (dead || decide (er = 11)) = dead := by rw [decide_eq_false h11]; cases dead <;> rfl
    rw [e]
    have HFIN := Lib.hid (show LogAt w g d l dead T ∧ Kept (fun b => b = g) w w from ⟨⟨v, ac, h⟩, Kept.refl _ _⟩)
    have hne : (er == 11) = false := by simpa using h11
    clear h e
    go_enter Tryz.func25, Tryz.ntmps25
    go_wp2
    go_ret
    exact ⟨rfl, HFIN.out⟩
end Go.Proofs.YtnjifhbooikdbaaGreatDoor.Wa
