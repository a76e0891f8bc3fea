/- Package disk's Unsure, Read, and what is answered where there is no disk, as contracts of calls. -/
import Derived.Test.YtnjifhbooikdbaaGreatDoorEC
namespace Go.Proofs.YtnjifhbooikdbaaGreatDoor.Dk
open Go.RowKit Go.Maps By Mp

set_option maxHeartbeats 400000 in
theorem down_nil (w : World) : Calls Tryz.prog 14 #[.pointer none] w (Ret (.bool true) w) := by
  have q1 := ptrTest
  go_enter Tryz.func14, Tryz.ntmps14
  go_wp2
  go_ret
  exact ⟨rfl, rfl⟩
set_option maxHeartbeats 400000 in
theorem sync_nil (w : World) : Calls Tryz.prog 43 #[.pointer none] w (Ret (.int .i64 1) w) := by
  have HWK := works_nil
  go_enter Tryz.func43, Tryz.ntmps43
  go_wp2_with fail
  refine (HWK w).mono ?_
  rintro e w' ⟨rfl, rfl⟩
  go_wp2
  go_ret
  exact ⟨rfl, rfl⟩
set_option maxHeartbeats 400000 in
theorem names_nil (w : World) : Calls Tryz.prog 34 #[.pointer none] w (Ret (.slice none 0 0) w) := by
  have HWK := works_nil
  go_enter Tryz.func34, Tryz.ntmps34
  go_wp2_with fail
  refine (HWK w).mono ?_
  rintro e w' ⟨rfl, rfl⟩
  go_wp2
  go_ret
  exact ⟨rfl, rfl⟩
/-- Why a reading is refused; what it answers. -/
def readE (s : DS) (nm : Bs) : Int := if s.down = true then 11 else if named nm = false then 1 else if fthere s.files nm = false then 8 else 0
def readB (s : DS) (nm : Bs) : Bs := if readE s nm = 0 then bytesOf s.files nm else []
/-- Gives bytes and an error. -/
def GivesE (l : Bs) (n : Int) (w : World) (e : Ending) (w' : World) : Prop := ∃ v, e = .returned (.tuple #[v, .int .i64 n]) ∧ Own w.heap.size w' v l ∧ Below w.heap.size w w'
set_option maxHeartbeats 400000 in
theorem read_nil (nm : Bs) (w : World) : Calls Tryz.prog 29 #[.pointer none, .string (str nm)] w (Ret (.tuple #[.slice none 0 0, .int .i64 1]) w) := by
  have HWK := works_nil
  go_enter Tryz.func29, Tryz.ntmps29
  go_wp2_with fail
  refine (HWK w).mono ?_
  rintro e w' ⟨rfl, rfl⟩
  go_wp2
  go_ret2
  exact ⟨rfl, rfl⟩
theorem Own.nil (w : World) (base : Nat) : Own base w (.slice none 0 0) [] := ⟨rfl, .inl ⟨rfl, rfl⟩⟩
set_option maxRecDepth 100000 in
set_option maxHeartbeats 2000000 in
theorem read_any (g : Nat) (s : DS) (S : Nat → Prop) (nm : Bs) (w : World) (h : DiskAt w g s S) (hnl : nm.length ≤ 140737488355328) :
    Calls Tryz.prog 29 #[.pointer (some ⟨g, 0, none⟩), .string (str nm)] w (GivesE (readB s nm) (readE s nm) w) := by
  obtain ⟨bm, sm, pb, ps, v, h⟩ := h
  have hdn := h.down_
  have HW := Lib.hid h
  have HWK := Lib.hid (works_any g s.down w hdn)
  have hc0 : w.cell? ⟨g, 0, none⟩ = some (.map bm) := h.cells.1
  clear h hdn
  go_enter Tryz.func29, Tryz.ntmps29
  go_wp2_with fail
  refine HWK.out.mono ?_
  rintro e w' ⟨rfl, rfl⟩
  clear HWK
  cases hdown : s.down with
  | true =>
    have HR := Lib.hid (show readE s nm = 11 ∧ readB s nm = [] by unfold readB readE; rw [if_pos hdown]; exact ⟨rfl, rfl⟩)
    clear hdown
    go_wp2
    go_ret2
    rw [HR.out.1, HR.out.2]
    exact ⟨_, rfl, Own.nil _ _, Below.refl _ _⟩
  | false =>
    have HDN := Lib.hid hdown
    clear hdown
    cases hnm : named nm with
    | false =>
      have HR := Lib.hid (show readE s nm = 1 ∧ readB s nm = [] by unfold readB readE; rw [HDN.out, if_neg (by simp), if_pos hnm]; exact ⟨rfl, rfl⟩)
      have HNM := Lib.hid hnm
      clear hnm
      have HIN := Lib.hid (fun w' => HNM.out ▸ isName_any nm w' (by omega))
      go_wp2_with (go_at_call 54; refine (HIN.out _).mono ?_; rintro e w' ⟨rfl, rfl⟩)
      go_ret2
      rw [HR.out.1, HR.out.2]
      exact ⟨_, rfl, Own.nil _ _, Below.refl _ _⟩
    | true =>
      have HNM := Lib.hid hnm
      have hnm32 : nm.length ≤ 32 := by
        have := hnm
        rw [named_eq, Bool.and_eq_true, Bool.and_eq_true, decide_eq_true_eq, decide_eq_true_eq] at this
        exact this.1.2
      clear hnm
      have HIN := Lib.hid (fun w' => HNM.out ▸ isName_any nm w' (by omega))
      have hlk := look_any HW.out.cur hnm32 true
      simp only [if_true] at hlk
      unfold lookV at hlk
      cases hth : fthere s.files nm with
      | false =>
        have HR := Lib.hid (show readE s nm = 8 ∧ readB s nm = [] by unfold readB readE; rw [HDN.out, if_neg (by simp), HNM.out, if_neg (by simp), if_pos hth]; exact ⟨rfl, rfl⟩)
        rw [hth] at hlk
        clear hth
        obtain ⟨mb, hmb⟩ : ∃ mb : Option Nat, mb = (if false = true then pb nm else none) := ⟨_, rfl⟩
        rw [← hmb] at hlk
        clear hmb
        go_wp2_with (go_at_call 54; refine (HIN.out _).mono ?_; rintro e w' ⟨rfl, rfl⟩)
        go_ret2
        rw [HR.out.1, HR.out.2]
        exact ⟨_, rfl, Own.nil _ _, (Below.refl _ _).alloc (Nat.le_refl _) _⟩
      | true =>
        have HR := Lib.hid (show readE s nm = 0 ∧ readB s nm = bytesOf s.files nm by unfold readB readE; rw [HDN.out, if_neg (by simp), HNM.out, if_neg (by simp), hth, if_neg (by simp)]; exact ⟨rfl, rfl⟩)
        rw [hth] at hlk
        obtain ⟨b, hb⟩ : ∃ b, fget s.files nm = some b := Option.isSome_iff_exists.1 hth
        have hbo : bytesOf s.files nm = b := by unfold bytesOf; rw [hb]; rfl
        have hfl : flen s.files nm = b.length := by unfold flen; rw [hb]; rfl
        rw [hfl, if_pos rfl] at hlk
        have hfa := HW.out.cur.file nm b hb
        have hble : b.length ≤ 4194304 := by rw [← hbo]; exact bytesOf_le (fit_all HW.out.ok.fit HW.out.ok.un) nm
        obtain ⟨w4, hw4⟩ : ∃ w4, w4 = w.alloc (.cells #[.int .i64 (b.length : Nat), .map (pb nm)] tFile) := ⟨_, rfl⟩
        have hb4 : Below w.heap.size w w4 := by rw [hw4]; exact (Below.refl _ _).alloc (Nat.le_refl _) _
        have hx4 : w4.heap[w.heap.size]? = some (.cells #[.int .i64 (b.length : Nat), .map (pb nm)] tFile (0, 0)) := by rw [hw4]; exact heap_alloc_new w _
        have HBY := Lib.hid (fbytes_any w.heap.size (pb nm) b w4 hx4 hble (hfa.keep (fun q hq => hb4.block q (HW.out.cur.lt (.inr ⟨nm, b, hb, hq⟩)))))
        have HBO := Lib.hid hbo
        have HB4 := Lib.hid hb4
        have HW4 := Lib.hid hw4
        clear hth hb hbo hfl hfa hble hb4 hx4 hw4
        go_wp2_with (first
          | (go_at_call 54; refine (HIN.out _).mono ?_; rintro e w' ⟨rfl, rfl⟩)
          | fail)
        rw [← HW4.out]
        clear HW4
        refine HBY.out.mono ?_
        rintro e w5 ⟨v5, rfl, ho5, hb5⟩
        have HO5 := Lib.hid ho5
        have HB5 := Lib.hid hb5
        obtain ⟨A5, c5, rfl, _⟩ := ho5.form
        clear ho5 hb5 HBY
        go_wp2
        go_ret2
        rw [HR.out.1, HR.out.2, HBO.out]
        exact ⟨_, rfl, ownsRow_base HO5.out HB4.out.size, By.ext HB4.out HB5.out⟩
end Go.Proofs.YtnjifhbooikdbaaGreatDoor.Dk
