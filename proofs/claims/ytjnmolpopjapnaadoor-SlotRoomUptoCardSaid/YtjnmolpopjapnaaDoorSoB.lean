/- Package slot's small functions: isName, works, hear, Open, behind, path, as contracts of calls. -/
import Derived.Test.YtjnmolpopjapnaaDoorSoA
import Derived.Test.YtjnmolpopjapnaaDoorDkI
import Derived.Test.YtjnmolpopjapnaaDoorDkF
import Derived.Shelf.Strconv.Itoa0
namespace Go.Proofs.YtjnmolpopjapnaaDoor.So
open Go.RowKit Go.Maps By Mp Dk

abbrev tSlot : TypeId := 61
def slotC (d : Nat) (nm : Bs) (dead : Bool) : Array Value := #[.pointer (some ⟨d, 0, none⟩), .string (str nm), .bool dead]
/-- A slot in memory. -/
def SlotAt (w : World) (g d : Nat) (nm : Bs) (dead : Bool) : Prop := w.heap[g]? = some (.cells (slotC d nm dead) tSlot (0, 0))
theorem SlotAt.cells {w : World} {g d : Nat} {nm : Bs} {dead : Bool} (h : SlotAt w g d nm dead) : w.cell? ⟨g, 0, none⟩ = some (.pointer (some ⟨d, 0, none⟩)) ∧ w.cell? ⟨g, 1, none⟩ = some (.string (str nm)) ∧ w.cell? ⟨g, 2, none⟩ = some (.bool dead) :=
  ⟨by rw [cell_of_row w g 0 _ _ _ h]; rfl, by rw [cell_of_row w g 1 _ _ _ h]; rfl, by rw [cell_of_row w g 2 _ _ _ h]; rfl⟩
theorem SlotAt.keep {w w' : World} {g d : Nat} {nm : Bs} {dead : Bool} (h : SlotAt w g d nm dead) (hb : w'.heap[g]? = w.heap[g]?) : SlotAt w' g d nm dead := hb.trans h
theorem SlotAt.lt {w : World} {g d : Nat} {nm : Bs} {dead : Bool} (h : SlotAt w g d nm dead) : g < w.heap.size := row_lt h
theorem SlotAt.kept {w w' : World} {S : Nat → Prop} {g d : Nat} {nm : Bs} {dead : Bool} (h : SlotAt w g d nm dead) (hS : ¬ S g) (hk : Kept S w w') : SlotAt w' g d nm dead := h.keep (hk.block g h.lt hS)
theorem SlotAt.below {w w' : World} {g d : Nat} {nm : Bs} {dead : Bool} (h : SlotAt w g d nm dead) (hk : Below w.heap.size w w') : SlotAt w' g d nm dead := h.keep (hk.block g h.lt)
/-- A letter of a slot's name. -/
def snameC (c : UInt8) : Bool := decide (97 ≤ c.toNat) && decide (c.toNat ≤ 122)
theorem sname_eq (n : Bs) : sname n = (decide (1 ≤ n.length) && decide (n.length ≤ 8) && n.all snameC) := rfl
theorem sall_take_snoc {l : Bs} {k : Nat} (hk : k < l.length) (h : (l.take k).all snameC = true) (hc : snameC l[k] = true) : (l.take (k + 1)).all snameC = true := by
  rw [List.take_succ_eq_append_getElem hk, List.all_append, h, Bool.true_and]
  simp [hc]
theorem sall_false {l : Bs} {k : Nat} (hk : k < l.length) (hc : snameC l[k] = false) : l.all snameC = false := by
  cases h : l.all snameC
  · rfl
  · rw [List.all_eq_true] at h
    rw [h _ (List.getElem_mem hk)] at hc
    cases hc
set_option maxHeartbeats 1000000 in
theorem sisName_any (nm : Bs) (w : World) (hm : nm.length ≤ 9223372036854775807) : Calls Tryd.prog 22 #[.string (str nm)] w (Ret (.bool (sname nm)) w) := by
  have hsz : (str nm).size = nm.length := str_size nm
  by_cases h0 : nm = []
  · subst h0
    have e1 : (str []).toList = [] := str_toList []
    have e2 : ([] : Bs).isEmpty = true := rfl
    clear hsz
    go_enter Tryd.func22, Tryd.ntmps22
    go_wp2
    go_ret
    exact ⟨rfl, rfl⟩
  · have e1 : (str nm).toList = nm := str_toList nm
    have e2 : nm.isEmpty = false := by simpa using h0
    by_cases h8 : nm.length ≤ 8
    · have hpos : 0 < nm.length := List.length_pos_iff.2 h0
      have hd : decide ((8 : Int) < (nm.length : Int)) = false := decide_eq_false (by omega)
      have hn : sname nm = nm.all snameC := by rw [sname_eq, decide_eq_true h8, decide_eq_true (show 1 ≤ nm.length by omega)]; simp
      have HN := Lib.hid hn
      clear hn
      rw [HN.out]
      go_enter Tryd.func22, Tryd.ntmps22
      go_wp2
      clear hd e1 e2
      go_loop [13] (fun i => ∃ k : Nat, k ≤ nm.length ∧ i = .int .i64 (k : Int) ∧ (nm.take k).all snameC = true) (fun i => nm.length - (intOf i).toNat)
      case atStart => exact ⟨0, Nat.zero_le _, rfl, by simp⟩
      case round =>
        obtain ⟨k, hk, rfl, hall⟩ := hrel
        have HALL := Lib.hid hall
        clear hall
        by_cases hlt : k < nm.length
        · have hix := fun w' => run_index w' nm k hlt
          obtain ⟨cc, hcc⟩ : ∃ cc, cc = nm[k] := ⟨_, rfl⟩
          rw [← hcc] at hix
          have HCC := Lib.hid hcc
          clear hcc
          have hc0 : (0 : Int) ≤ (cc.toNat : Int) := by omega
          have hc1 : (cc.toNat : Int) ≤ 255 := byte_hi cc
          have yes : snameC cc = true → Hid ((nm.take (k + 1)).all snameC = true) := fun h => Lib.hid (sall_take_snoc hlt HALL.out (by rw [← HCC.out]; exact h))
          have no : snameC cc = false → Hid (nm.all snameC = false) := fun h => Lib.hid (sall_false hlt (by rw [← HCC.out]; exact h))
          have hcases : (cc.toNat : Int) < 97 ∨ ((97 ≤ (cc.toNat : Int)) ∧ (cc.toNat : Int) ≤ 122) ∨ 122 < (cc.toNat : Int) := by omega
          rcases hcases with h | ⟨h, h2⟩ | h
          · have H := no (by unfold snameC; rw [decide_eq_false (show ¬ 97 ≤ cc.toNat by omega)]; rfl)
            clear yes no
            go_wp2
            go_ret
            refine ⟨?_, rfl⟩
            show Ending.returned (.bool false) = .returned (.bool (nm.all snameC))
            rw [H.out]
          · have H := yes (by unfold snameC; rw [decide_eq_true (show 97 ≤ cc.toNat by omega), decide_eq_true (show cc.toNat ≤ 122 by omega)]; rfl)
            clear yes no
            go_wp2
            go_round
            case rel => exact ⟨k + 1, by omega, by go_num, H.out⟩
            case measure => simp [intOf]; omega
          · have H := no (by unfold snameC; rw [decide_eq_false (show ¬ cc.toNat ≤ 122 by omega), decide_eq_true (show 97 ≤ cc.toNat by omega)]; rfl)
            clear yes no
            go_wp2
            go_ret
            refine ⟨?_, rfl⟩
            show Ending.returned (.bool false) = .returned (.bool (nm.all snameC))
            rw [H.out]
        · have hke : k = nm.length := by omega
          have HKE := Lib.hid hke
          clear hke
          go_wp2
          go_ret
          refine ⟨?_, rfl⟩
          have := HALL.out
          rw [HKE.out, List.take_length] at this
          show Ending.returned (.bool true) = .returned (.bool (nm.all snameC))
          rw [this]
    · have hn : sname nm = false := by rw [sname_eq, decide_eq_false h8]; simp
      rw [hn]
      have hd : decide ((8 : Int) < (nm.length : Int)) = true := decide_eq_true (by omega)
      have hlt : (8 : Int) < (nm.length : Int) := by omega
      clear hn
      go_enter Tryd.func22, Tryd.ntmps22
      go_wp2
      go_ret
      exact ⟨rfl, rfl⟩
theorem slotTest (w : World) (a : Option Addr) : (binOp .eql 33 (.pointer a) (.pointer none)).run Tryd.prog w = .ok (.bool a.isNone) w := by
  cases a with
  | none => kernel_rfl
  | some a => kernel_rfl
set_option maxHeartbeats 800000 in
theorem sworks_any (g d : Nat) (nm : Bs) (w : World) (h : SlotAt w g d nm false) : Calls Tryd.prog 24 #[.pointer (some ⟨g, 0, none⟩)] w (Ret (.int .i64 0) w) := by
  have q1 := slotTest
  have q2 := ptrTest
  obtain ⟨h0, -, h2⟩ := h.cells
  clear h
  go_enter Tryd.func24, Tryd.ntmps24
  go_wp2
  go_ret
  exact ⟨rfl, rfl⟩
theorem sworks_nil (w : World) : Calls Tryd.prog 24 #[.pointer none] w (Ret (.int .i64 1) w) := by
  go_enter Tryd.func24, Tryd.ntmps24
  go_wp2
  go_ret
  exact ⟨rfl, rfl⟩
set_option maxHeartbeats 800000 in
theorem shear_any (g d : Nat) (nm : Bs) (er : Int) (w : World) (h : SlotAt w g d nm false) : Calls Tryd.prog 25 #[.pointer (some ⟨g, 0, none⟩), .int .i64 er] w (fun e w' => e = .returned (.int .i64 er) ∧ SlotAt w' g d nm (decide (er = 11)) ∧ Kept (fun b => b = g) w w') := by
  by_cases h11 : er = 11
  · subst h11
    have hf2 : w.frozen? ⟨g, 2, none⟩ = false := frozen_of_row w g 2 _ _ h
    have h2 := h.cells.2.2
    have hrow := Go.heap_setCell_same w g 2 _ _ (.bool true) h
    have HFIN := Lib.hid (show SlotAt (w.setCell ⟨g, 2, none⟩ (.bool true)) g d nm (decide ((11 : Int) = 11)) ∧ Kept (fun b => b = g) w (w.setCell ⟨g, 2, none⟩ (.bool true)) from ⟨hrow, (Kept.refl (fun b => b = g) w).setCell (p := ⟨g, 2, none⟩) (fun _ => rfl) _⟩)
    clear h hrow
    go_enter Tryd.func25, Tryd.ntmps25
    go_wp2
    go_ret
    exact ⟨rfl, HFIN.out⟩
  · rw [decide_eq_false h11]
    have HFIN := Lib.hid (show SlotAt w g d nm false ∧ Kept (fun b => b = g) w w from ⟨h, Kept.refl _ _⟩)
    have hne : (er == 11) = false := by simpa using h11
    clear h
    go_enter Tryd.func25, Tryd.ntmps25
    go_wp2
    go_ret
    exact ⟨rfl, HFIN.out⟩
/-- What Open gives. -/
def OpenPost (d : Nat) (nm : Bs) (w : World) (e : Ending) (w' : World) : Prop := ∃ g, e = .returned (.tuple #[.pointer (some ⟨g, 0, none⟩), .int .i64 0]) ∧ SlotAt w' g d nm false ∧ w.heap.size ≤ g ∧ Below w.heap.size w w'
set_option maxHeartbeats 800000 in
theorem sopen_any (d : Nat) (s : DS) (S : Nat → Prop) (nm : Bs) (w : World) (h : DiskAt w d s S) (hdn : s.down = false) (hnm : sname nm = true) : Calls Tryd.prog 12 #[.pointer (some ⟨d, 0, none⟩), .string (str nm)] w (OpenPost d nm w) := by
  have q2 := ptrTest
  have hl := (sname_len hnm).2
  have HIN := Lib.hid (fun w' => hnm ▸ sisName_any nm w' (by omega))
  have hdd := down_any d s S w h
  rw [hdn] at hdd
  have HDD := Lib.hid hdd
  clear h hdn hnm hl hdd
  go_enter Tryd.func12, Tryd.ntmps12
  go_wp2_with (first
    | (go_at_call 22; refine (HIN.out _).mono ?_; rintro e w' ⟨rfl, rfl⟩)
    | fail)
  refine HDD.out.mono ?_
  rintro e w' ⟨rfl, rfl⟩
  have HFIN := Lib.hid (show SlotAt (w.alloc (.cells #[.pointer (some ⟨d, 0, none⟩), .string (str nm), .bool false] tSlot)) w.heap.size d nm false from heap_alloc_new w _)
  go_wp2
  go_ret2
  exact ⟨_, rfl, HFIN.out, Nat.le_refl _, (Below.refl _ _).alloc (Nat.le_refl _) _⟩
set_option maxHeartbeats 800000 in
theorem sopen_bad (d : Nat) (nm : Bs) (w : World) (hm : nm.length ≤ 9223372036854775807) (hnm : sname nm = false) : Calls Tryd.prog 12 #[.pointer (some ⟨d, 0, none⟩), .string (str nm)] w (Ret (.tuple #[.pointer none, .int .i64 1]) w) := by
  have q2 := ptrTest
  have HIN := Lib.hid (fun w' => hnm ▸ sisName_any nm w' hm)
  clear hnm hm
  go_enter Tryd.func12, Tryd.ntmps12
  go_wp2_with (go_at_call 22; refine (HIN.out _).mono ?_; rintro e w' ⟨rfl, rfl⟩)
  go_ret2
  exact ⟨rfl, rfl⟩
theorem sopen_nil (nm : Bs) (w : World) : Calls Tryd.prog 12 #[.pointer none, .string (str nm)] w (Ret (.tuple #[.pointer none, .int .i64 1]) w) := by
  have q2 := ptrTest
  go_enter Tryd.func12, Tryd.ntmps12
  go_wp2
  go_ret2
  exact ⟨rfl, rfl⟩
theorem behind_any (el : Option Nat) (hel : ∀ t, el = some t → t < 3) (w : World) : Calls Tryd.prog 38 #[.int .i64 (match el with | none => -1 | some t => (t : Int))] w (Ret (.int .i64 (next el : Nat)) w) := by
  cases el with
  | none =>
    go_enter Tryd.func38, Tryd.ntmps38
    go_wp2
    go_ret
    exact ⟨rfl, rfl⟩
  | some t =>
    rcases lt3 (hel t rfl) with rfl | rfl | rfl
    all_goals
      go_enter Tryd.func38, Tryd.ntmps38
      go_wp2
      go_ret
      exact ⟨rfl, rfl⟩
end Go.Proofs.YtjnmolpopjapnaaDoor.So
