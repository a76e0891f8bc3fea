/- A slot on a disk, together; the laws' answers, as a contract of a call. -/
import Derived.Test.YtjnmolpopjapnaaDoorSoJ
import Derived.Test.YtjnmolpopjapnaaDoorDlB
namespace Go.Proofs.YtjnmolpopjapnaaDoor.So
open Go.RowKit Go.Maps By Mp Dk

/-- A disk on which all is sure. -/
def lev (F : Fs) (room fuse : Int) : DS := ⟨F, [], room, fuse, false⟩
/-- A slot and its disk. -/
structure Sys (w : World) (g d : Nat) (nm : Bs) (s : DS) (S : Nat → Prop) : Prop where
  slot : SlotAt w g d nm false
  disk : DiskAt w d s S
  sep : ¬ S g
theorem Sys.below {w w' : World} {g d : Nat} {nm : Bs} {s : DS} {S : Nat → Prop} (h : Sys w g d nm s S) (hb : Below w.heap.size w w') : Sys w' g d nm s S := ⟨h.slot.below hb, h.disk.below hb, h.sep⟩
theorem Sys.keep {w w' : World} {g d : Nat} {nm : Bs} {s : DS} {S : Nat → Prop} (h : Sys w g d nm s S) {M : Nat → Prop} (hk : Kept M w w') (hM : ∀ b, M b → b ≠ g ∧ ¬ S b) : Sys w' g d nm s S :=
  ⟨h.slot.kept (fun e => (hM g e).1 rfl) hk, h.disk.keep (fun b hb => hk.block b ((dlt h.disk).1 b hb) (fun e => (hM b e).2 hb)) hk.size, h.sep⟩
theorem save_fits {nm : Bs} (hnm : sname nm = true) {F : Fs} (hu : Up F) (hlen : F.length ≤ 4000) (hna : NotAll (fileOf F nm)) {D : Bs} (hd : D.length ≤ 65520) {room : Int} (hfit : (fsize F : Int) + D.length + 8 ≤ room) :
    ∃ G, saveX nm D (lev F room 0) = (0, lev G room 0) ∧ Saved nm (next (latest (fileOf F nm))) D F G := by
  have h := replace_out hnm hu hlen hna hd room 0
  have e : saveX nm D (lev F room 0) = replaceX nm D ⟨F, [], room, 0, false⟩ := by unfold saveX; rw [if_neg (by omega)]; rfl
  rw [e]
  rcases h with ⟨h1, G, fu, h2, h3, h4⟩ | ⟨h1, h2, _⟩ | ⟨h1, h2, _⟩
  · have := h2 rfl
    subst this
    exact ⟨G, Prod.ext h1 h3, h4⟩
  · omega
  · exact absurd rfl h2
/-- A Save that finds room, on a disk without a fuse. -/
def SavedPost (g d : Nat) (nm : Bs) (D : Bs) (F : Fs) (room : Int) (S : Nat → Prop) (w : World) (e : Ending) (w' : World) : Prop :=
  e = .returned (.int .i64 0) ∧ ∃ G S', Saved nm (next (latest (fileOf F nm))) D F G ∧ Sys w' g d nm (lev G room 0) S' ∧ (∀ b, S' b → S b ∨ w.heap.size ≤ b) ∧ Kept (fun b => S b ∨ b = g) w w'
theorem save_ok (g d : Nat) (nm : Bs) (F : Fs) (room : Int) (S : Nat → Prop) (D : Bs) (A : Option Addr) (n c : Nat) (w : World) (h : Sys w g d nm (lev F room 0) S) (hnm : sname nm = true) (hlen : F.length ≤ 4000) (hna : NotAll (fileOf F nm)) (hd : D.length ≤ 65520) (hfit : (fsize F : Int) + D.length + 8 ≤ room) (hn : n = D.length) (hA : LiesS w (fun b => ¬ S b ∧ b < w.heap.size) A D) :
    Calls Tryd.prog 13 #[.pointer (some ⟨g, 0, none⟩), .slice A n c] w (SavedPost g d nm D F room S w) := by
  have hok := (dlt h.disk).2.2
  obtain ⟨G, h1, h2⟩ := save_fits hnm (F := F) hok.up hlen hna hd hfit
  have h3 := save_any g d nm (lev F room 0) S D A n c w h.slot h.disk h.sep hnm rfl (by unfold DS.cnt lev; simp; omega) hn hA
  rw [h1] at h3
  refine h3.mono ?_
  rintro e w' ⟨he, S', a1, a2, a3, a4, a5⟩
  exact ⟨he, G, S', h2, ⟨a4, a1, a5⟩, a2, a3⟩
theorem new_lev (n : Int) : newDS n = lev [] n 0 := rfl
theorem notAll_nil (nm : Bs) : NotAll (fileOf [] nm) := rfl
theorem latest_nil (nm : Bs) : latest (fileOf [] nm) = none := rfl
/-- The slot of a new disk. -/
theorem sys_new {w w1 : World} {d g : Nat} {S : Nat → Prop} {nm : Bs} {s : DS} (hd : DiskAt w d s S) (hs : SlotAt w1 g d nm false) (hg : w.heap.size ≤ g) (hb : Below w.heap.size w w1) : Sys w1 g d nm s S :=
  ⟨hs, hd.below hb, fun e => Nat.not_lt_of_le hg ((dlt hd).1 g e)⟩
set_option maxRecDepth 100000 in
set_option maxHeartbeats 4000000 in
theorem answers_any (w : World) : Calls Tryd.prog 9 #[] w (True_ w) := by
  have HN := Lib.hid (new_any 900 w rfl)
  have q1 := slotTest
  go_enter Tryd.func9, Tryd.ntmps9
  go_wp2_with fail
  refine HN.out.mono ?_
  rintro e w1 ⟨d, S, rfl, hd1, hS1, hb1⟩
  have HB1 := Lib.hid hb1
  have HS1 := Lib.hid hS1
  have HD1 := Lib.hid hd1
  have HOP := Lib.hid (sopen_any d (newDS 900) S [118] w1 hd1 rfl rfl)
  clear HN hd1 hS1 hb1
  go_wp2_with fail
  refine HOP.out.mono ?_
  rintro e w2 ⟨g, rfl, hs2, hg2, hb2⟩
  have HY2 := Lib.hid (sys_new HD1.out hs2 hg2 hb2)
  have HB2 := Lib.hid (By.ext HB1.out hb2)
  have HG2 := Lib.hid (show w.heap.size ≤ g by have := HB1.out.size; omega)
  have HB3 := Lib.hid (nAlloc (Below.refl w2.heap.size w2) (Nat.le_refl _) (.cells #[.int .u8 7] 5))
  have hl3 : LiesS (w2.alloc (.cells #[.int .u8 7] 5)) (fun b => ¬ S b ∧ b < (w2.alloc (.cells #[.int .u8 7] 5)).heap.size) (some ⟨w2.heap.size, 0, none⟩) [7] := fun _ => ⟨_, 0, rfl, ⟨fun e => by have := (dlt HY2.out.disk).1 _ e; omega, by simp⟩, fun j x hx => by
    cases j with
    | zero =>
      injection hx with hx
      subst hx
      rw [cell_of_row _ _ _ _ _ _ (heap_alloc_new w2 _)]
      rfl
    | succ j => simp at hx⟩
  have HSV := Lib.hid (save_ok g d [118] [] 900 S [7] (some ⟨w2.heap.size, 0, none⟩) 1 1 (w2.alloc (.cells #[.int .u8 7] 5)) (HY2.out.below HB3.out) rfl (by decide) (notAll_nil _) (by decide) (by decide) rfl hl3)
  clear HOP hs2 hg2 hb2 hl3
  go_wp2_with fail
  refine HSV.out.mono ?_
  rintro e w4 ⟨rfl, G, S4, hsv, hy4, hS4, hk4⟩
  have HV := Lib.hid (saved_val (by decide) (by decide) hsv)
  have HB4 := Lib.hid (show Below w.heap.size w w4 from (By.ext HB2.out HB3.out).trans (hk4.below (by have := HB2.out.size; simp; omega) (fun b hb => by
    rcases hb with hb | hb
    · exact HS1.out b hb
    · rw [hb]; exact HG2.out)))
  have hlo := load_any g d [118] (lev G 900 0) S4 w4 hy4.slot hy4.disk rfl rfl
  have hf : fileOf (lev G 900 0).files [118] = fileOf G [118] := rfl
  rw [hf, show loadE (fileOf G [118]) = 0 by unfold loadE; rw [HV.out.2.1]; rfl, show loadB (fileOf G [118]) = [7] by unfold loadB; rw [HV.out.2.1]; rfl] at hlo
  have HLO := Lib.hid hlo
  clear hsv hy4 hS4 hk4 HSV hlo hf
  go_wp2_with fail
  refine HLO.out.mono ?_
  rintro e w5 ⟨v, rfl, ho, hb⟩
  obtain ⟨Av, cv, rfl, _, _, _, hl, _⟩ := ho.form
  have htx := run_text w5 (n := 1) cv rfl hl
  have htl : ((str [7]).toList == [7]) = true := by rw [strToList]; rfl
  have HB5 := Lib.hid (By.ext HB4.out hb)
  clear ho hb hl HLO
  go_wp2
  go_ret
  exact ⟨rfl, HB5.out⟩
end Go.Proofs.YtjnmolpopjapnaaDoor.So
