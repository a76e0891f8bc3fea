/- Package slot's latest and aside: which file is the value, and which ones are not, as contracts of calls. -/
import Derived.Test.YtjnmolpopjapnaaDoorSoE
import Derived.Deep.RegionHeld3
import Derived.Laws.Rows
namespace Go.Proofs.YtjnmolpopjapnaaDoor.So
open Go.RowKit Go.Maps By Mp Dk

/-- A turn as the code has it. -/
def turnI (el : Option Nat) : Int := match el with | none => -1 | some t => (t : Int)
theorem turnI_at (k : Nat) (el : Option Nat) : ((k : Int) = turnI el) ↔ some k = el := by
  cases el with
  | none => simp [turnI]
  | some t => simp only [turnI, Option.some.injEq]; omega
theorem ix_0 (a0 a1 a2 a3 a4 a5 a6 a7 a8 : Value) (w : World) : (Instr.index tSFiles (.agg #[a0, a1, a2, a3, a4, a5, a6, a7, a8]) (.int .i64 0)).run Tryd.prog w = .ok (.agg #[a0, a1, a2]) w := by kernel_rfl
theorem ix_1 (a0 a1 a2 a3 a4 a5 a6 a7 a8 : Value) (w : World) : (Instr.index tSFiles (.agg #[a0, a1, a2, a3, a4, a5, a6, a7, a8]) (.int .i64 1)).run Tryd.prog w = .ok (.agg #[a3, a4, a5]) w := by kernel_rfl
theorem ix_2 (a0 a1 a2 a3 a4 a5 a6 a7 a8 : Value) (w : World) : (Instr.index tSFiles (.agg #[a0, a1, a2, a3, a4, a5, a6, a7, a8]) (.int .i64 2)).run Tryd.prog w = .ok (.agg #[a6, a7, a8]) w := by kernel_rfl
/-- The box of the three turns. -/
def Box (L : Nat) (A : Array Value) (w wr : World) : Prop := wr.heap[L]? = some (.cells A tSFiles (0, 0)) ∧ Below w.heap.size w wr
theorem Box.below {L : Nat} {A : Array Value} {w wr w' : World} (h : Box L A w wr) (hb : Below wr.heap.size wr w') : Box L A w w' := ⟨(hb.block _ (row_lt h.1)).trans h.1, By.ext h.2 hb⟩
theorem Box.cells {L : Nat} {b0 c0 : Bool} {v0 : Value} {b1 c1 : Bool} {v1 : Value} {b2 c2 : Bool} {v2 : Value} {w wr w' : World} (h : Box L (filC b0 c0 v0 b1 c1 v1 b2 c2 v2) w wr) (hb : Below wr.heap.size wr w') :
    w'.cell? ⟨L, 1, none⟩ = some (.bool c0) ∧ w'.cell? ⟨L, 4, none⟩ = some (.bool c1) ∧ w'.cell? ⟨L, 7, none⟩ = some (.bool c2) := by
  have h' := (h.below hb).1
  exact ⟨by rw [cell_of_row w' L 1 _ _ _ h']; rfl, by rw [cell_of_row w' L 4 _ _ _ h']; rfl, by rw [cell_of_row w' L 7 _ _ _ h']; rfl⟩
def noHit (c0 c1 c2 : Bool) (k : Nat) : Prop := (1 ≤ k → (c0 && !c1) = false) ∧ (2 ≤ k → (c1 && !c2) = false) ∧ (3 ≤ k → (c2 && !c0) = false)
set_option maxRecDepth 100000 in
set_option maxHeartbeats 4000000 in
theorem latest_any (b0 c0 : Bool) (X0 : Option Addr) (n0 m0 : Nat) (b1 c1 : Bool) (X1 : Option Addr) (n1 m1 : Nat) (b2 c2 : Bool) (X2 : Option Addr) (n2 m2 : Nat) (w : World) :
    Calls Tryd.prog 34 #[.agg (filC b0 c0 (.slice X0 n0 m0) b1 c1 (.slice X1 n1 m1) b2 c2 (.slice X2 n2 m2))] w (RetB (.int .i64 (turnI (lat c0 c1 c2))) w) := by
  obtain ⟨L, hL⟩ : ∃ L, L = w.heap.size := ⟨_, rfl⟩
  have HBX := Lib.hid (show Box L (filC b0 c0 (.slice X0 n0 m0) b1 c1 (.slice X1 n1 m1) b2 c2 (.slice X2 n2 m2)) w (w.alloc (.cells (filC b0 c0 (.slice X0 n0 m0) b1 c1 (.slice X1 n1 m1) b2 c2 (.slice X2 n2 m2)) tSFiles)) from ⟨by rw [hL]; exact heap_alloc_new w _, nAlloc (Below.refl _ _) (Nat.le_refl _) _⟩)
  go_enter Tryd.func34, Tryd.ntmps34
  unfold filC
  go_wp2
  rw [← hL]
  clear hL
  go_loopw [6] (fun i wr => ∃ k : Nat, k ≤ 3 ∧ i = .int .i64 (k : Int) ∧ noHit c0 c1 c2 k ∧ Box L (filC b0 c0 (.slice X0 n0 m0) b1 c1 (.slice X1 n1 m1) b2 c2 (.slice X2 n2 m2)) w wr) (fun i _ => 3 - (intOf i).toNat)
  case atStart => exact ⟨0, by decide, rfl, ⟨fun h => absurd h (by decide), fun h => absurd h (by decide), fun h => absurd h (by decide)⟩, HBX.out⟩
  case round =>
    obtain ⟨k, hk, hi, hnh, hbx⟩ := hrel
    have HB := Lib.hid hbx
    have HNH := Lib.hid hnh
    have hcases : k = 0 ∨ k = 1 ∨ k = 2 ∨ k = 3 := by omega
    clear hnh
    rcases hcases with rfl | rfl | rfl | rfl
    · replace hi : _ = Value.int .i64 0 := hi
      subst hi
      obtain ⟨q0, q1, q2⟩ := hbx.cells (Below.refl _ _)
      have hix := ix_0 (.bool b0) (.bool c0) (.slice X0 n0 m0) (.bool b1) (.bool c1) (.slice X1 n1 m1) (.bool b2) (.bool c2) (.slice X2 n2 m2)
      have HBH := Lib.hid (show ∀ w', Calls Tryd.prog 38 #[.int .i64 0] w' (Ret (.int .i64 1) w') from fun w' => behind_any (some 0) (fun u e => by injection e with e; omega) w')
      obtain ⟨wf, hwf⟩ : ∃ wf, wf = wr.alloc (.cells #[.bool b0, .bool c0, .slice X0 n0 m0] tSFile) := ⟨_, rfl⟩
      have HBF := Lib.hid (show Below wr.heap.size wr wf by rw [hwf]; exact nAlloc (Below.refl _ _) (Nat.le_refl _) _)
      have HWF := Lib.hid hwf
      have HFC := Lib.hid (fun (w' : World) (hb : Below wf.heap.size wf w') => HB.out.cells (By.ext HBF.out hb))
      clear hbx
      cases hck : c0 with
      | false =>
        have HK := Lib.hid hck
        have HFIN := Lib.hid (show noHit c0 c1 c2 1 from ⟨fun _ => by rw [HK.out]; simp, fun h => absurd h (by decide), fun h => absurd h (by decide)⟩)
        clear q0 q1 q2
        subst hck
        have HBB := Lib.hid (HB.out.below HBF.out)
        rw [hwf] at HBB
        clear hwf
        go_wp2
        go_roundw
        case rel => exact ⟨1, by decide, rfl, HFIN.out, HBB.out⟩
        case measure => simp [intOf]
      | true =>
        have HK := Lib.hid hck
        cases hcn : c1 with
        | true =>
          have HN := Lib.hid hcn
          have HFIN := Lib.hid (show noHit c0 c1 c2 1 from ⟨fun _ => by rw [HK.out, HN.out]; simp, fun h => absurd h (by decide), fun h => absurd h (by decide)⟩)
          have HBB := Lib.hid (HB.out.below HBF.out)
          rw [hwf] at HBB HFC
          subst hck
          subst hcn
          obtain ⟨p0, p1, p2⟩ := HFC.out _ (Below.refl _ _)
          clear hwf q0 q1 q2
          go_wp2_with (go_at_call 38; refine (HBH.out _).mono ?_; rintro e w' ⟨rfl, rfl⟩)
          go_roundw
          case rel => exact ⟨1, by decide, rfl, HFIN.out, HBB.out⟩
          case measure => simp [intOf]
        | false =>
          have HN := Lib.hid hcn
          have HFIN := Lib.hid (show turnI (lat c0 c1 c2) = 0 from by rw [HK.out, HN.out]; rfl)
          have HBB := Lib.hid (HB.out.below HBF.out).2
          rw [hwf] at HBB HFC
          subst hck
          subst hcn
          obtain ⟨p0, p1, p2⟩ := HFC.out _ (Below.refl _ _)
          clear hwf q0 q1 q2
          go_wp2_with (go_at_call 38; refine (HBH.out _).mono ?_; rintro e w' ⟨rfl, rfl⟩)
          go_ret
          exact ⟨by rw [HFIN.out]; rfl, HBB.out⟩
    · replace hi : _ = Value.int .i64 1 := hi
      subst hi
      obtain ⟨q0, q1, q2⟩ := hbx.cells (Below.refl _ _)
      have hix := ix_1 (.bool b0) (.bool c0) (.slice X0 n0 m0) (.bool b1) (.bool c1) (.slice X1 n1 m1) (.bool b2) (.bool c2) (.slice X2 n2 m2)
      have HBH := Lib.hid (show ∀ w', Calls Tryd.prog 38 #[.int .i64 1] w' (Ret (.int .i64 2) w') from fun w' => behind_any (some 1) (fun u e => by injection e with e; omega) w')
      obtain ⟨wf, hwf⟩ : ∃ wf, wf = wr.alloc (.cells #[.bool b1, .bool c1, .slice X1 n1 m1] tSFile) := ⟨_, rfl⟩
      have HBF := Lib.hid (show Below wr.heap.size wr wf by rw [hwf]; exact nAlloc (Below.refl _ _) (Nat.le_refl _) _)
      have HWF := Lib.hid hwf
      have HFC := Lib.hid (fun (w' : World) (hb : Below wf.heap.size wf w') => HB.out.cells (By.ext HBF.out hb))
      clear hbx
      cases hck : c1 with
      | false =>
        have HK := Lib.hid hck
        have HFIN := Lib.hid (show noHit c0 c1 c2 2 from ⟨fun _ => HNH.out.1 (by decide), fun _ => by rw [HK.out]; simp, fun h => absurd h (by decide)⟩)
        clear q0 q1 q2
        subst hck
        have HBB := Lib.hid (HB.out.below HBF.out)
        rw [hwf] at HBB
        clear hwf
        go_wp2
        go_roundw
        case rel => exact ⟨2, by decide, rfl, HFIN.out, HBB.out⟩
        case measure => simp [intOf]
      | true =>
        have HK := Lib.hid hck
        cases hcn : c2 with
        | true =>
          have HN := Lib.hid hcn
          have HFIN := Lib.hid (show noHit c0 c1 c2 2 from ⟨fun _ => HNH.out.1 (by decide), fun _ => by rw [HK.out, HN.out]; simp, fun h => absurd h (by decide)⟩)
          have HBB := Lib.hid (HB.out.below HBF.out)
          rw [hwf] at HBB HFC
          subst hck
          subst hcn
          obtain ⟨p0, p1, p2⟩ := HFC.out _ (Below.refl _ _)
          clear hwf q0 q1 q2
          go_wp2_with (go_at_call 38; refine (HBH.out _).mono ?_; rintro e w' ⟨rfl, rfl⟩)
          go_roundw
          case rel => exact ⟨2, by decide, rfl, HFIN.out, HBB.out⟩
          case measure => simp [intOf]
        | false =>
          have HN := Lib.hid hcn
          have HFIN := Lib.hid (show turnI (lat c0 c1 c2) = 1 from by rw [HK.out, HN.out]; cases c0 <;> rfl)
          have HBB := Lib.hid (HB.out.below HBF.out).2
          rw [hwf] at HBB HFC
          subst hck
          subst hcn
          obtain ⟨p0, p1, p2⟩ := HFC.out _ (Below.refl _ _)
          clear hwf q0 q1 q2
          go_wp2_with (go_at_call 38; refine (HBH.out _).mono ?_; rintro e w' ⟨rfl, rfl⟩)
          go_ret
          exact ⟨by rw [HFIN.out]; rfl, HBB.out⟩
    · replace hi : _ = Value.int .i64 2 := hi
      subst hi
      obtain ⟨q0, q1, q2⟩ := hbx.cells (Below.refl _ _)
      have hix := ix_2 (.bool b0) (.bool c0) (.slice X0 n0 m0) (.bool b1) (.bool c1) (.slice X1 n1 m1) (.bool b2) (.bool c2) (.slice X2 n2 m2)
      have HBH := Lib.hid (show ∀ w', Calls Tryd.prog 38 #[.int .i64 2] w' (Ret (.int .i64 0) w') from fun w' => behind_any (some 2) (fun u e => by injection e with e; omega) w')
      obtain ⟨wf, hwf⟩ : ∃ wf, wf = wr.alloc (.cells #[.bool b2, .bool c2, .slice X2 n2 m2] tSFile) := ⟨_, rfl⟩
      have HBF := Lib.hid (show Below wr.heap.size wr wf by rw [hwf]; exact nAlloc (Below.refl _ _) (Nat.le_refl _) _)
      have HWF := Lib.hid hwf
      have HFC := Lib.hid (fun (w' : World) (hb : Below wf.heap.size wf w') => HB.out.cells (By.ext HBF.out hb))
      clear hbx
      cases hck : c2 with
      | false =>
        have HK := Lib.hid hck
        have HFIN := Lib.hid (show noHit c0 c1 c2 3 from ⟨fun _ => HNH.out.1 (by decide), fun _ => HNH.out.2.1 (by decide), fun _ => by rw [HK.out]; simp⟩)
        clear q0 q1 q2
        subst hck
        have HBB := Lib.hid (HB.out.below HBF.out)
        rw [hwf] at HBB
        clear hwf
        go_wp2
        go_roundw
        case rel => exact ⟨3, by decide, rfl, HFIN.out, HBB.out⟩
        case measure => simp [intOf]
      | true =>
        have HK := Lib.hid hck
        cases hcn : c0 with
        | true =>
          have HN := Lib.hid hcn
          have HFIN := Lib.hid (show noHit c0 c1 c2 3 from ⟨fun _ => HNH.out.1 (by decide), fun _ => HNH.out.2.1 (by decide), fun _ => by rw [HK.out, HN.out]; simp⟩)
          have HBB := Lib.hid (HB.out.below HBF.out)
          rw [hwf] at HBB HFC
          subst hck
          subst hcn
          obtain ⟨p0, p1, p2⟩ := HFC.out _ (Below.refl _ _)
          clear hwf q0 q1 q2
          go_wp2_with (go_at_call 38; refine (HBH.out _).mono ?_; rintro e w' ⟨rfl, rfl⟩)
          go_roundw
          case rel => exact ⟨3, by decide, rfl, HFIN.out, HBB.out⟩
          case measure => simp [intOf]
        | false =>
          have HN := Lib.hid hcn
          have HFIN := Lib.hid (show turnI (lat c0 c1 c2) = 2 from by rw [HK.out, HN.out]; cases c1 <;> rfl)
          have HBB := Lib.hid (HB.out.below HBF.out).2
          rw [hwf] at HBB HFC
          subst hck
          subst hcn
          obtain ⟨p0, p1, p2⟩ := HFC.out _ (Below.refl _ _)
          clear hwf q0 q1 q2
          go_wp2_with (go_at_call 38; refine (HBH.out _).mono ?_; rintro e w' ⟨rfl, rfl⟩)
          go_ret
          exact ⟨by rw [HFIN.out]; rfl, HBB.out⟩
    · replace hi : _ = Value.int .i64 3 := hi
      subst hi
      have HFIN := Lib.hid (show turnI (lat c0 c1 c2) = -1 by
        obtain ⟨h1, h2, h3⟩ := HNH.out
        have h1 := h1 (by decide)
        have h2 := h2 (by decide)
        have h3 := h3 (by decide)
        revert h1 h2 h3
        cases c0 <;> cases c1 <;> cases c2 <;> simp [lat, turnI])
      have HBB := Lib.hid HB.out.2
      clear hbx
      go_wp2
      go_ret
      exact ⟨by rw [HFIN.out]; rfl, HBB.out⟩
end Go.Proofs.YtjnmolpopjapnaaDoor.So
