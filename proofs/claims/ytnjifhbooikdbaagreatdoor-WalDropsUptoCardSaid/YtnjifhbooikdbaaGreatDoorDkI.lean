/- Package disk's New, Room, Fuse, Used, Down, as contracts of calls. -/
import Derived.Test.YtnjifhbooikdbaaGreatDoorDkH
namespace Go.Proofs.YtnjifhbooikdbaaGreatDoor.Dk
open Go.RowKit Go.Maps By Mp

def newDS (room : Int) : DS := ⟨[], [], room, 0, false⟩
theorem newDS_ok {room : Int} (h : 0 ≤ room ∧ room ≤ 4194304) : (newDS room).Ok := ⟨List.Pairwise.nil, (fun p hp => by cases hp), (fun x hx => by cases hx), h, ⟨Int.le_refl _, show (0 : Int) ≤ 9223372036854775807 by omega⟩⟩
theorem emptyFiles (w : World) : FilesAt w none [] (fun _ => none) := ⟨fun _ => rfl, fun q h => (by cases h), fun n b h => (by cases h), fun n m b c q h => (by cases h), fun n b q h => (by cases h)⟩
theorem newDisk {w : World} {room : Int} (h : 0 ≤ room ∧ room ≤ 4194304) (hg : w.heap[w.heap.size - 1]? = some (.cells (diskC none 0 none 0 (.slice none 0 0) room 0 false) tDisk (0, 0))) (hz : 0 < w.heap.size) : DiskAt w (w.heap.size - 1) (newDS room) (fun b => b = w.heap.size - 1) :=
  ⟨none, none, fun _ => none, fun _ => none, .slice none 0 0, hg, emptyFiles w, emptyFiles w, WsAt.nil _ _ _, fun q h => (by rcases h with h | ⟨n, b, h, _⟩ <;> cases h), rfl, fun q h => (by rcases h with h | ⟨n, b, h, _⟩ <;> cases h), fun q h => (by rcases h with h | ⟨n, b, h, _⟩ <;> cases h), fun b h => (by cases h), fun b h => (by rw [h]; omega), newDS_ok h⟩
/-- Gives a new disk. -/
def GivesD (s : DS) (w : World) (e : Ending) (w' : World) : Prop := ∃ (g : Nat) (S : Nat → Prop), e = .returned (.tuple #[.pointer (some ⟨g, 0, none⟩), .int .i64 0]) ∧ DiskAt w' g s S ∧ (∀ b, S b → w.heap.size ≤ b) ∧ Below w.heap.size w w'
set_option maxHeartbeats 400000 in
theorem new_any (n : Int) (w : World) (h : placeB n = true) : Calls Tryz.prog 4 #[.int .i64 n] w (GivesD (newDS n) w) := by
  have hn : 0 ≤ n ∧ n ≤ 4194304 := by simpa [placeB] using h
  have hrow := heap_alloc_new w (.cells (diskC none 0 none 0 (.slice none 0 0) n 0 false) tDisk)
  have hz : (w.alloc (.cells (diskC none 0 none 0 (.slice none 0 0) n 0 false) tDisk)).heap.size = w.heap.size + 1 := by simp
  have hfin : GivesD (newDS n) w (.returned (.tuple #[.pointer (some ⟨w.heap.size, 0, none⟩), .int .i64 0])) (w.alloc (.cells (diskC none 0 none 0 (.slice none 0 0) n 0 false) tDisk)) := by
    refine ⟨w.heap.size, fun b => b = w.heap.size, rfl, ?_, ?_, (Below.refl _ _).alloc (Nat.le_refl _) _⟩
    · have := newDisk (w := w.alloc (.cells (diskC none 0 none 0 (.slice none 0 0) n 0 false) tDisk)) hn (by rw [hz]; exact hrow) (by omega)
      rw [hz] at this
      exact this
    · intro b e; omega
  have HF := Lib.hid hfin
  clear hrow hz hfin hn
  go_enter Tryz.func4, Tryz.ntmps4
  go_wp2_with (go_at_call 13; refine (isPlace_any n _).mono ?_; rintro e w' ⟨rfl, rfl⟩)
  go_ret2
  exact HF.out
set_option maxHeartbeats 400000 in
theorem new_no (n : Int) (w : World) (h : placeB n = false) : Calls Tryz.prog 4 #[.int .i64 n] w (Ret (.tuple #[.pointer none, .int .i64 1]) w) := by
  go_enter Tryz.func4, Tryz.ntmps4
  go_wp2_with (go_at_call 13; refine (isPlace_any n _).mono ?_; rintro e w' ⟨rfl, rfl⟩)
  go_ret2
  exact ⟨rfl, rfl⟩
theorem DiskW.cells {w : World} {g : Nat} {s : DS} {S : Nat → Prop} {bm sm : Option Nat} {pb ps : Bs → Option Nat} {v : Value} (h : DiskW w g s S bm sm pb ps v) : w.cell? ⟨g, 0, none⟩ = some (.map bm) ∧ w.cell? ⟨g, 1, none⟩ = some (.int .i64 (fsize s.files : Nat)) ∧ w.cell? ⟨g, 4, none⟩ = some v ∧ w.cell? ⟨g, 5, none⟩ = some (.int .i64 s.room) ∧ w.cell? ⟨g, 6, none⟩ = some (.int .i64 s.fuse) ∧ w.cell? ⟨g, 7, none⟩ = some (.bool s.down) ∧ ∀ o, w.frozen? ⟨g, o, none⟩ = false :=
  ⟨by rw [cell_of_row w g 0 _ _ _ h.row]; rfl, by rw [cell_of_row w g 1 _ _ _ h.row]; rfl, by rw [cell_of_row w g 4 _ _ _ h.row]; rfl, by rw [cell_of_row w g 5 _ _ _ h.row]; rfl, by rw [cell_of_row w g 6 _ _ _ h.row]; rfl, by rw [cell_of_row w g 7 _ _ _ h.row]; rfl, fun o => frozen_of_row w g o _ _ h.row⟩
theorem tDisk_ne8 : tDisk ≠ 5 := by decide
theorem tDisk_neW : tDisk ≠ tWrite := by decide
/-- The disk's own block changes alone: what else it has stays. -/
theorem DiskW.setRow {w w' : World} {g : Nat} {s s' : DS} {S : Nat → Prop} {bm sm : Option Nat} {pb ps : Bs → Option Nat} {v : Value} (h : DiskW w g s S bm sm pb ps v) (hoth : ∀ b, b ≠ g → S b → w'.heap[b]? = w.heap[b]?) (hz : w.heap.size ≤ w'.heap.size) (e1 : s'.sure = s.sure) (e2 : s'.unsure = s.unsure) (hok : s'.Ok)
    (hrow : w'.heap[g]? = some (.cells (diskC bm (fsize s.files) sm (fsize s.sure) v s'.room s'.fuse s'.down) tDisk (0, 0))) : DiskW w' g s' S bm sm pb ps v := by
  have ef : s'.files = s.files := by unfold DS.files; rw [e1, e2]
  have hfg : ∀ q, foot bm s.files pb q → q ≠ g := fun q hq e => foot_map h.cur hq (e ▸ h.row)
  have hsg : ∀ q, foot sm s.sure ps q → q ≠ g := fun q hq e => foot_map h.sure hq (e ▸ h.row)
  have hvg : ∀ b, v.ownBlock = some b → b ≠ g := by
    intro b hb e
    obtain ⟨ac, _, h2, _⟩ := h.un
    obtain ⟨cur, h3⟩ := ownsRow_type h2 hb
    rw [e, h.row] at h3
    injection h3 with h3
    injection h3 with _ h3
    exact tDisk_neW h3
  have h8g : ∀ b, U8 w b → b ≠ g := by
    rintro b ⟨cs, fr, hb⟩ e
    rw [e, h.row] at hb
    injection hb with hb
    injection hb with _ hb
    exact tDisk_ne8 hb
  refine ⟨by rw [ef, e1]; exact hrow, ?_, ?_, ?_, ?_, h.subg, ?_, ?_, h.subv, fun b hb => Nat.lt_of_lt_of_le (h.lt b hb) hz, hok⟩
  · rw [ef]; exact h.cur.keep (fun q hq => hoth q (hfg q hq) (h.subc q hq))
  · rw [e1]; exact h.sure.keep (fun q hq => hoth q (hsg q hq) (h.subs q hq))
  · rw [e2]; exact h.un.keep (fun b hb => hoth b (hvg b hb) (h.subv b hb)) (fun b hb => hoth b (h8g b hb.2) hb.1) (fun b hb => ⟨hb.1, u8_keep hb.2 (hoth b (h8g b hb.2) hb.1)⟩)
  · rw [ef, e1]; exact h.sep
  · rw [ef]; exact h.subc
  · rw [e1]; exact h.subs
theorem DiskW.set1 {w : World} {g : Nat} {s s' : DS} {S : Nat → Prop} {bm sm : Option Nat} {pb ps : Bs → Option Nat} {v : Value} (h : DiskW w g s S bm sm pb ps v) (o : Nat) (u : Value) (e1 : s'.sure = s.sure) (e2 : s'.unsure = s.unsure) (hok : s'.Ok)
    (hrow : (diskC bm (fsize s.files) sm (fsize s.sure) v s.room s.fuse s.down).setIfInBounds o u = diskC bm (fsize s.files) sm (fsize s.sure) v s'.room s'.fuse s'.down) : DiskW (w.setCell ⟨g, o, none⟩ u) g s' S bm sm pb ps v :=
  h.setRow (fun b hb _ => heap_setCell_other w ⟨g, o, none⟩ b _ hb) (Nat.le_of_eq (size_setCell' _ _ _).symm) e1 e2 hok (by rw [← hrow]; exact heap_setCell_same w g o _ _ u h.row)
def roomS (s : DS) (n : Int) : DS := if placeB n = true then { s with room := n } else s
def fuseS (s : DS) (n : Int) : DS := if 0 ≤ n then { s with fuse := n } else s
set_option maxHeartbeats 400000 in
theorem down_any (g : Nat) (s : DS) (S : Nat → Prop) (w : World) (h : DiskAt w g s S) : Calls Tryz.prog 14 #[.pointer (some ⟨g, 0, none⟩)] w (Ret (.bool s.down) w) := by
  obtain ⟨bm, sm, pb, ps, v, h⟩ := h
  obtain ⟨_, _, _, _, _, hc7, _⟩ := h.cells
  have q := ptrTest
  clear h
  go_enter Tryz.func14, Tryz.ntmps14
  go_wp2
  go_ret
  exact ⟨rfl, rfl⟩
end Go.Proofs.YtnjifhbooikdbaaGreatDoor.Dk
