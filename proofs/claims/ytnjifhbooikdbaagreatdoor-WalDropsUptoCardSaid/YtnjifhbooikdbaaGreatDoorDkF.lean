/- Package disk's small functions: isPlace, isName, sizeBehind, as contracts of calls. -/
import Derived.Test.YtnjifhbooikdbaaGreatDoorEB
import Derived.Deep.QuietTactic
import Derived.BigQuiet
import Derived.Outline
import Derived.Deep.DeepCutAuto
namespace Go.Proofs.YtnjifhbooikdbaaGreatDoor.Dk
open Go.RowKit Go.Maps By Mp

def placeB (n : Int) : Bool := decide (0 ≤ n) && decide (n ≤ 4194304)
set_option maxHeartbeats 400000 in
theorem isPlace_any (n : Int) (w : World) : Calls Tryz.prog 13 #[.int .i64 n] w (Ret (.bool (placeB n)) w) := by
  by_cases h1 : 0 ≤ n
  · by_cases h2 : n ≤ 4194304
    · have e : placeB n = true := by simp [placeB, h1, h2]
      rw [e]
      clear e
      go_enter Tryz.func13, Tryz.ntmps13
      go_wp2
      go_ret
      exact ⟨rfl, rfl⟩
    · have e : placeB n = false := by simp [placeB, h1, h2]
      have hd : decide (n ≤ 4194304) = false := by simpa using h2
      rw [e]
      clear e
      go_enter Tryz.func13, Tryz.ntmps13
      go_wp2
      go_ret
      exact ⟨rfl, rfl⟩
  · have e : placeB n = false := by simp [placeB, h1]
    have hd : decide (0 ≤ n) = false := by simpa using h1
    rw [e]
    clear e
    go_enter Tryz.func13, Tryz.ntmps13
    go_wp2
    go_ret
    exact ⟨rfl, rfl⟩
/-- A change as a value. -/
def wV (k : Nat) (nm : Bs) (off : Int) (A : Option Addr) (n c : Nat) : Value := .agg #[.int .i64 (k : Nat), .string (str nm), .int .i64 off, .slice A n c]
set_option maxHeartbeats 400000 in
theorem sizeBehind_any (n : Nat) (x : W1) (A : Option Addr) (c : Nat) (w : World) (hk : 1 ≤ x.kind ∧ x.kind ≤ 3) (ho : x.off + x.data.length ≤ 4611686018427387904) : Calls Tryz.prog 95 #[.int .i64 (n : Nat), wV x.kind x.name (x.off : Nat) A x.data.length c] w (RetB (.int .i64 (behind n x : Nat)) w) := by
  obtain ⟨h1, h2⟩ := hk
  have h3 := ho
  clear ho
  obtain ⟨k, nm, off, d⟩ := x
  simp only at h1 h2 h3 ⊢
  unfold wV
  have hk : k = 1 ∨ k = 2 ∨ k = 3 := by omega
  rcases hk with rfl | rfl | rfl
  · have e : ((behind n ⟨1, nm, off, d⟩ : Nat) : Int) = if (n : Int) < (off : Int) + (d.length : Int) then (off : Int) + (d.length : Int) else (n : Int) := by
      unfold behind
      simp only [if_true]
      split <;> omega
    rw [e]
    clear e h1 h2
    go_enter Tryz.func95, Tryz.ntmps95
    go_wp2
    all_goals
      go_ret
      exact ⟨rfl, (Below.refl _ _).alloc (Nat.le_refl _) _⟩
  · go_enter Tryz.func95, Tryz.ntmps95
    go_wp2
    go_ret
    exact ⟨rfl, (Below.refl _ _).alloc (Nat.le_refl _) _⟩
  · go_enter Tryz.func95, Tryz.ntmps95
    go_wp2
    go_ret
    exact ⟨rfl, (Below.refl _ _).alloc (Nat.le_refl _) _⟩
/-- A letter of a name. -/
def nameC (c : UInt8) : Bool := (decide (97 ≤ c.toNat) && decide (c.toNat ≤ 122)) || (decide (48 ≤ c.toNat) && decide (c.toNat ≤ 57)) || decide (c.toNat = 46)
theorem named_eq (n : Bs) : named n = (decide (1 ≤ n.length) && decide (n.length ≤ 32) && n.all nameC) := rfl
theorem all_take_snoc {l : Bs} {k : Nat} (hk : k < l.length) (h : (l.take k).all nameC = true) (hc : nameC l[k] = true) : (l.take (k + 1)).all nameC = true := by
  rw [List.take_succ_eq_append_getElem hk, List.all_append, h, Bool.true_and]
  simp [hc]
theorem all_false {l : Bs} {k : Nat} (hk : k < l.length) (hc : nameC l[k] = false) : l.all nameC = false := by
  cases h : l.all nameC
  · rfl
  · rw [List.all_eq_true] at h
    rw [h _ (List.getElem_mem hk)] at hc
    cases hc
theorem str_toList (l : Bs) : (str l).toList = l := by rw [ByteArray.toList_eq]; simp [str]
theorem run_index (w : World) (nm : Bs) (k : Nat) (h : k < nm.length) : (Instr.index 9 (.string (str nm)) (.int .i64 (k : Int))).run Tryz.prog w = .ok (.int .u8 (nm[k].toNat : Int)) w := by
  have h' : k < (str nm).size := by rw [str_size]; exact h
  simp [go_sem, h']
  rfl
set_option maxHeartbeats 1000000 in
theorem isName_any (nm : Bs) (w : World) (hm : nm.length ≤ 9223372036854775807) : Calls Tryz.prog 54 #[.string (str nm)] w (Ret (.bool (named nm)) w) := by
  have hsz : (str nm).size = nm.length := str_size nm
  by_cases h0 : nm = []
  · subst h0
    have e1 : (str []).toList = [] := str_toList []
    have e2 : ([] : Bs).isEmpty = true := rfl
    clear hsz
    go_enter Tryz.func54, Tryz.ntmps54
    go_wp2
    go_ret
    exact ⟨rfl, rfl⟩
  · have e1 : (str nm).toList = nm := str_toList nm
    have e2 : nm.isEmpty = false := by simpa using h0
    by_cases h32 : nm.length ≤ 32
    · have hpos : 0 < nm.length := List.length_pos_iff.2 h0
      have hd : decide ((32 : Int) < (nm.length : Int)) = false := decide_eq_false (by omega)
      have hn : named nm = nm.all nameC := by rw [named_eq, decide_eq_true h32, decide_eq_true (show 1 ≤ nm.length by omega)]; simp
      have HN := Lib.hid hn
      clear hn
      rw [HN.out]
      go_enter Tryz.func54, Tryz.ntmps54
      go_wp2
      clear hd e1 e2
      go_loop [14] (fun i => ∃ k : Nat, k ≤ nm.length ∧ i = .int .i64 (k : Int) ∧ (nm.take k).all nameC = true) (fun i => nm.length - (intOf i).toNat)
      case atStart => exact ⟨0, Nat.zero_le _, rfl, by simp⟩
      case round =>
        obtain ⟨k, hk, rfl, hall⟩ := hrel
        have HALL := Lib.hid hall
        clear hall
        by_cases hlt : k < nm.length
        · have hix := fun w' => run_index w' nm k hlt
          obtain ⟨cc, hcc⟩ : ∃ cc, cc = nm[k] := ⟨_, rfl⟩
          rw [← hcc] at hix
          have HCC := Lib.hid hcc
          clear hcc
          have hc0 : (0 : Int) ≤ (cc.toNat : Int) := by omega
          have hc1 : (cc.toNat : Int) ≤ 255 := byte_hi cc
          have yes : nameC cc = true → Hid ((nm.take (k + 1)).all nameC = true) := fun h => Lib.hid (all_take_snoc hlt HALL.out (by rw [← HCC.out]; exact h))
          have no : nameC cc = false → Hid (nm.all nameC = false) := fun h => Lib.hid (all_false hlt (by rw [← HCC.out]; exact h))
          have f0 : (cc.toNat : Int) ≠ 46 → ((cc.toNat : Int) == 46) = false := fun h => by simpa using h
          have hcases : (cc.toNat : Int) = 46 ∨ ((cc.toNat : Int) ≠ 46 ∧ (cc.toNat : Int) < 48) ∨ ((48 ≤ (cc.toNat : Int)) ∧ (cc.toNat : Int) ≤ 57) ∨ ((57 < (cc.toNat : Int)) ∧ (cc.toNat : Int) < 97) ∨ ((97 ≤ (cc.toNat : Int)) ∧ (cc.toNat : Int) ≤ 122) ∨ 122 < (cc.toNat : Int) := by omega
          rcases hcases with h | ⟨h, h2⟩ | ⟨h, h2⟩ | ⟨h, h2⟩ | ⟨h, h2⟩ | h
          · have H := yes (by unfold nameC; rw [decide_eq_true (show cc.toNat = 46 by omega)]; simp)
            clear yes no f0
            go_wp2
            go_round
            case rel => exact ⟨k + 1, by omega, by go_num, H.out⟩
            case measure => simp [intOf]; omega
          · have H := no (by unfold nameC; rw [decide_eq_false (show ¬ cc.toNat = 46 by omega), decide_eq_false (show ¬ 48 ≤ cc.toNat by omega), decide_eq_false (show ¬ 97 ≤ cc.toNat by omega)]; rfl)
            have g1 := f0 (by omega)
            have g2 : ((cc.toNat : Int) != 46) = true := by simpa using g1
            clear yes no f0
            go_wp2
            go_ret
            refine ⟨?_, rfl⟩
            show Ending.returned (.bool false) = .returned (.bool (nm.all nameC))
            rw [H.out]
          · have H := yes (by unfold nameC; rw [decide_eq_true (show 48 ≤ cc.toNat by omega), decide_eq_true (show cc.toNat ≤ 57 by omega)]; simp)
            have g1 := f0 (by omega)
            have g2 : ((cc.toNat : Int) != 46) = true := by simpa using g1
            clear yes no f0
            go_wp2
            go_round
            case rel => exact ⟨k + 1, by omega, by go_num, H.out⟩
            case measure => simp [intOf]; omega
          · have H := no (by unfold nameC; rw [decide_eq_false (show ¬ cc.toNat = 46 by omega), decide_eq_false (show ¬ cc.toNat ≤ 57 by omega), decide_eq_false (show ¬ 97 ≤ cc.toNat by omega)]; simp)
            have g1 := f0 (by omega)
            have g2 : ((cc.toNat : Int) != 46) = true := by simpa using g1
            clear yes no f0
            go_wp2
            go_ret
            refine ⟨?_, rfl⟩
            show Ending.returned (.bool false) = .returned (.bool (nm.all nameC))
            rw [H.out]
          · have H := yes (by unfold nameC; rw [decide_eq_true (show 97 ≤ cc.toNat by omega), decide_eq_true (show cc.toNat ≤ 122 by omega)]; simp)
            have g1 := f0 (by omega)
            have g2 : ((cc.toNat : Int) != 46) = true := by simpa using g1
            clear yes no f0
            go_wp2
            go_round
            case rel => exact ⟨k + 1, by omega, by go_num, H.out⟩
            case measure => simp [intOf]; omega
          · have H := no (by unfold nameC; rw [decide_eq_false (show ¬ cc.toNat = 46 by omega), decide_eq_false (show ¬ cc.toNat ≤ 57 by omega), decide_eq_false (show ¬ cc.toNat ≤ 122 by omega)]; simp)
            have g1 := f0 (by omega)
            have g2 : ((cc.toNat : Int) != 46) = true := by simpa using g1
            clear yes no f0
            go_wp2
            go_ret
            refine ⟨?_, rfl⟩
            show Ending.returned (.bool false) = .returned (.bool (nm.all nameC))
            rw [H.out]
        · have hke : k = nm.length := by omega
          have HKE := Lib.hid hke
          clear hke
          go_wp2
          go_ret
          refine ⟨?_, rfl⟩
          have := HALL.out
          rw [HKE.out, List.take_length] at this
          show Ending.returned (.bool true) = .returned (.bool (nm.all nameC))
          rw [this]
    · have hn : named nm = false := by rw [named_eq, decide_eq_false h32]; simp
      rw [hn]
      have hd : decide ((32 : Int) < (nm.length : Int)) = true := decide_eq_true (by omega)
      have hlt : (32 : Int) < (nm.length : Int) := by omega
      clear hn
      go_enter Tryz.func54, Tryz.ntmps54
      go_wp2
      go_ret
      exact ⟨rfl, rfl⟩
end Go.Proofs.YtnjifhbooikdbaaGreatDoor.Dk
