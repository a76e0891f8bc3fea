/- Package disk's Put, Cut, Remove, as contracts of calls. -/
import Derived.Test.YtnjifhbooikdbaaGreatDoorDkK
namespace Go.Proofs.YtnjifhbooikdbaaGreatDoor.Dk
open Go.RowKit Go.Maps By Mp

set_option maxHeartbeats 400000 in
theorem change_nil (k : Nat) (nm : Bs) (off : Int) (A : Option Addr) (n c : Nat) (w : World) : Calls Tryz.prog 45 #[.pointer none, wV k nm off A n c] w (RetB (.int .i64 1) w) := by
  unfold wV
  obtain ⟨w0, hw0⟩ : ∃ w0, w0 = w.alloc (.cells #[.int .i64 (k : Nat), .string (str nm), .int .i64 off, .slice A n c] tWrite) := ⟨_, rfl⟩
  have hb0 : Below w.heap.size w w0 := by rw [hw0]; exact (Below.refl _ _).alloc (Nat.le_refl _) _
  have HB0 := Lib.hid hb0
  have HW0 := Lib.hid hw0
  clear hb0
  have HWK := works_nil
  go_enter Tryz.func45, Tryz.ntmps45
  go_wp2_with fail
  rw [← HW0.out]
  clear hw0 HW0
  refine (HWK w0).mono ?_
  rintro e w' ⟨rfl, rfl⟩
  clear HWK
  go_wp2
  go_ret
  exact ⟨rfl, HB0.out⟩
set_option maxHeartbeats 400000 in
theorem put_nil (nm : Bs) (off : Int) (A : Option Addr) (n c : Nat) (w : World) : Calls Tryz.prog 23 #[.pointer none, .string (str nm), .int .i64 off, .slice A n c] w (RetB (.int .i64 1) w) := by
  have H := change_nil 1 nm off A n c
  unfold wV at H
  go_enter Tryz.func23, Tryz.ntmps23
  go_wp2_with fail
  refine (H _).mono ?_
  rintro e w' ⟨rfl, hb⟩
  have HB := Lib.hid hb
  clear hb H
  go_wp2
  go_ret
  exact ⟨rfl, HB.out⟩
set_option maxHeartbeats 400000 in
theorem cut_nil (nm : Bs) (off : Int) (w : World) : Calls Tryz.prog 42 #[.pointer none, .string (str nm), .int .i64 off] w (RetB (.int .i64 1) w) := by
  have H := change_nil 2 nm off none 0 0
  unfold wV at H
  go_enter Tryz.func42, Tryz.ntmps42
  go_wp2_with fail
  refine (H _).mono ?_
  rintro e w' ⟨rfl, hb⟩
  have HB := Lib.hid hb
  clear hb H
  go_wp2
  go_ret
  exact ⟨rfl, HB.out⟩
set_option maxHeartbeats 400000 in
theorem remove_nil (nm : Bs) (w : World) : Calls Tryz.prog 41 #[.pointer none, .string (str nm)] w (RetB (.int .i64 1) w) := by
  have H := change_nil 3 nm 0 none 0 0
  unfold wV at H
  go_enter Tryz.func41, Tryz.ntmps41
  go_wp2_with fail
  refine (H _).mono ?_
  rintro e w' ⟨rfl, hb⟩
  have HB := Lib.hid hb
  clear hb H
  go_wp2
  go_ret
  exact ⟨rfl, HB.out⟩
set_option maxHeartbeats 2000000 in
theorem put_any (g : Nat) (s : DS) (S : Nat → Prop) (nm : Bs) (off : Int) (d : Bs) (A : Option Addr) (n c : Nat) (w : World) (h : DiskAt w g s S) (hcnt : s.cnt ≤ 68719476736) (hdl : d.length ≤ 140737488355328) (hnl : nm.length ≤ 140737488355328) (hn : n = d.length) (hc : n ≤ c)
    (SD : Nat → Prop) (hSD : ∀ b, SD b → b ≠ g ∧ b < w.heap.size) (hd : LiesS w SD A d) :
    Calls Tryz.prog 23 #[.pointer (some ⟨g, 0, none⟩), .string (str nm), .int .i64 off, .slice A n c] w (DStep (.int .i64 (chgE s 1 nm off d)) g (chgS s 1 nm off d) S w) := by
  subst hn
  have H := change_any g s S 1 nm off d A d.length c w h hcnt (by omega) (fun h => absurd rfl h) hdl hnl rfl hc SD hSD hd
  unfold wV at H
  have HC := Lib.hid H
  clear h hSD hd H
  go_enter Tryz.func23, Tryz.ntmps23
  go_wp2_with fail
  refine HC.out.mono ?_
  rintro e w' ⟨rfl, hp⟩
  have HP := Lib.hid hp
  clear hp HC
  go_wp2
  go_ret
  exact ⟨rfl, HP.out⟩
theorem lies_nil {w : World} {S : Nat → Prop} : LiesS w S none [] := fun h => absurd h (Nat.lt_irrefl 0)
set_option maxHeartbeats 2000000 in
theorem cut_any (g : Nat) (s : DS) (S : Nat → Prop) (nm : Bs) (off : Int) (w : World) (h : DiskAt w g s S) (hcnt : s.cnt ≤ 68719476736) (hnl : nm.length ≤ 140737488355328) :
    Calls Tryz.prog 42 #[.pointer (some ⟨g, 0, none⟩), .string (str nm), .int .i64 off] w (DStep (.int .i64 (chgE s 2 nm off [])) g (chgS s 2 nm off []) S w) := by
  have H := change_any g s S 2 nm off [] none 0 0 w h hcnt (by omega) (fun _ => rfl) (by simp) hnl rfl (Nat.le_refl _) (fun _ => False) (fun _ h => h.elim) lies_nil
  unfold wV at H
  have HC := Lib.hid H
  clear h H
  go_enter Tryz.func42, Tryz.ntmps42
  go_wp2_with fail
  refine HC.out.mono ?_
  rintro e w' ⟨rfl, hp⟩
  have HP := Lib.hid hp
  clear hp HC
  go_wp2
  go_ret
  exact ⟨rfl, HP.out⟩
set_option maxHeartbeats 2000000 in
theorem remove_any (g : Nat) (s : DS) (S : Nat → Prop) (nm : Bs) (w : World) (h : DiskAt w g s S) (hcnt : s.cnt ≤ 68719476736) (hnl : nm.length ≤ 140737488355328) :
    Calls Tryz.prog 41 #[.pointer (some ⟨g, 0, none⟩), .string (str nm)] w (DStep (.int .i64 (chgE s 3 nm 0 [])) g (chgS s 3 nm 0 []) S w) := by
  have H := change_any g s S 3 nm 0 [] none 0 0 w h hcnt (by omega) (fun _ => rfl) (by simp) hnl rfl (Nat.le_refl _) (fun _ => False) (fun _ h => h.elim) lies_nil
  unfold wV at H
  have HC := Lib.hid H
  clear h H
  go_enter Tryz.func41, Tryz.ntmps41
  go_wp2_with fail
  refine HC.out.mono ?_
  rintro e w' ⟨rfl, hp⟩
  have HP := Lib.hid hp
  clear hp HC
  go_wp2
  go_ret
  exact ⟨rfl, HP.out⟩
end Go.Proofs.YtnjifhbooikdbaaGreatDoor.Dk
