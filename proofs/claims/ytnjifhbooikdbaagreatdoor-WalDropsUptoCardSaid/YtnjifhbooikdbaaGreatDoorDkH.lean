/- A disk in memory; package disk's New, works, burn, Room, Fuse, Used, Down, as contracts of calls. -/
import Derived.Test.YtnjifhbooikdbaaGreatDoorDkG
import Derived.Test.YtnjifhbooikdbaaGreatDoorDkY
namespace Go.Proofs.YtnjifhbooikdbaaGreatDoor.Dk
open Go.RowKit Go.Maps By Mp

abbrev tDisk : TypeId := 46
def diskC (bm : Option Nat) (used : Nat) (sm : Option Nat) (sused : Nat) (v : Value) (room fuse : Int) (down : Bool) : Array Value := #[.map bm, .int .i64 (used : Nat), .map sm, .int .i64 (sused : Nat), v, .int .i64 room, .int .i64 fuse, .bool down]
/-- The disk at block g is s; its parts; all that it has lies in blocks of S. -/
structure DiskW (w : World) (g : Nat) (s : DS) (S : Nat → Prop) (bm sm : Option Nat) (pb ps : Bs → Option Nat) (v : Value) : Prop where
  row : w.heap[g]? = some (.cells (diskC bm (fsize s.files) sm (fsize s.sure) v s.room s.fuse s.down) tDisk (0, 0))
  cur : FilesAt w bm s.files pb
  sure : FilesAt w sm s.sure ps
  un : WsAt w 0 (fun b => S b ∧ U8 w b) v s.unsure
  sep : ∀ q, foot bm s.files pb q → foot sm s.sure ps q → False
  subg : S g
  subc : ∀ q, foot bm s.files pb q → S q
  subs : ∀ q, foot sm s.sure ps q → S q
  subv : ∀ b, v.ownBlock = some b → S b
  lt : ∀ b, S b → b < w.heap.size
  ok : s.Ok
def DiskAt (w : World) (g : Nat) (s : DS) (S : Nat → Prop) : Prop := ∃ bm sm pb ps v, DiskW w g s S bm sm pb ps v
theorem DiskW.keep {w w' : World} {g : Nat} {s : DS} {S : Nat → Prop} {bm sm : Option Nat} {pb ps : Bs → Option Nat} {v : Value} (h : DiskW w g s S bm sm pb ps v) (hk : ∀ b, S b → w'.heap[b]? = w.heap[b]?) (hz : w.heap.size ≤ w'.heap.size) : DiskW w' g s S bm sm pb ps v :=
  ⟨(hk g h.subg).trans h.row, h.cur.keep (fun q hq => hk q (h.subc q hq)), h.sure.keep (fun q hq => hk q (h.subs q hq)), h.un.keep (fun b hb => hk b (h.subv b hb)) (fun b hb => hk b hb.1) (fun b hb => ⟨hb.1, u8_keep hb.2 (hk b hb.1)⟩), h.sep, h.subg, h.subc, h.subs, h.subv, fun b hb => Nat.lt_of_lt_of_le (h.lt b hb) hz, h.ok⟩
theorem DiskAt.keep {w w' : World} {g : Nat} {s : DS} {S : Nat → Prop} (h : DiskAt w g s S) (hk : ∀ b, S b → w'.heap[b]? = w.heap[b]?) (hz : w.heap.size ≤ w'.heap.size) : DiskAt w' g s S := by
  obtain ⟨bm, sm, pb, ps, v, h⟩ := h
  exact ⟨bm, sm, pb, ps, v, h.keep hk hz⟩
theorem DiskAt.below {w w' : World} {g : Nat} {s : DS} {S : Nat → Prop} (h : DiskAt w g s S) (hb : Below w.heap.size w w') : DiskAt w' g s S := by
  obtain ⟨bm, sm, pb, ps, v, h⟩ := h
  exact ⟨bm, sm, pb, ps, v, h.keep (fun b hB => hb.block b (h.lt b hB)) hb.size⟩
/-- A call that gives val and makes the disk s'. -/
def DStep (val : Value) (g : Nat) (s' : DS) (S : Nat → Prop) (w : World) (e : Ending) (w' : World) : Prop := e = .returned val ∧ ∃ S', DiskAt w' g s' S' ∧ (∀ b, S' b → S b ∨ w.heap.size ≤ b) ∧ Kept S w w'
theorem ptrTest (w : World) (a : Option Addr) : (binOp .eql 24 (.pointer a) (.pointer none)).run Tryz.prog w = .ok (.bool a.isNone) w := by
  cases a with
  | none => kernel_rfl
  | some a => kernel_rfl
set_option maxHeartbeats 400000 in
theorem works_nil (w : World) : Calls Tryz.prog 53 #[.pointer none] w (Ret (.int .i64 1) w) := by
  go_enter Tryz.func53, Tryz.ntmps53
  go_wp2
  go_ret
  exact ⟨rfl, rfl⟩
set_option maxHeartbeats 400000 in
theorem works_any (g : Nat) (dn : Bool) (w : World) (h : w.cell? ⟨g, 7, none⟩ = some (.bool dn)) : Calls Tryz.prog 53 #[.pointer (some ⟨g, 0, none⟩)] w (Ret (.int .i64 (if dn then 11 else 0)) w) := by
  cases dn with
  | true =>
    show Calls Tryz.prog 53 #[.pointer (some ⟨g, 0, none⟩)] w (Ret (.int .i64 11) w)
    go_enter Tryz.func53, Tryz.ntmps53
    go_wp2
    go_ret
    exact ⟨rfl, rfl⟩
  | false =>
    show Calls Tryz.prog 53 #[.pointer (some ⟨g, 0, none⟩)] w (Ret (.int .i64 0) w)
    go_enter Tryz.func53, Tryz.ntmps53
    go_wp2
    go_ret
    exact ⟨rfl, rfl⟩
/-- The fuse goes on. -/
def Burns (g : Nat) (fu : Int) (dn : Bool) (cs : Array Value) (w : World) (e : Ending) (w' : World) : Prop := e = .returned (.int .i64 (if fu = 1 then 11 else 0)) ∧ w'.heap[g]? = some (.cells ((cs.setIfInBounds 6 (.int .i64 (if fu = 0 then 0 else fu - 1))).setIfInBounds 7 (.bool (if fu = 1 then true else dn))) tDisk (0, 0)) ∧ Kept (fun b => b = g) w w' ∧ w'.heap.size = w.heap.size
theorem set_same {cs : Array Value} {o : Nat} {u : Value} (h : cs[o]? = some u) : cs.setIfInBounds o u = cs := by
  apply Array.ext_getElem?
  intro j
  by_cases hj : j = o
  · subst hj
    rw [Array.getElem?_setIfInBounds_self_of_lt (Array.getElem?_eq_some_iff.1 h).1, h]
  · rw [Array.getElem?_setIfInBounds_ne (by omega)]
set_option maxHeartbeats 400000 in
theorem burn_any (g : Nat) (fu : Int) (dn : Bool) (cs : Array Value) (w : World) (h : w.heap[g]? = some (.cells cs tDisk (0, 0))) (h6 : cs[6]? = some (.int .i64 fu)) (h7 : cs[7]? = some (.bool dn)) (h0 : 0 ≤ fu) (h1 : fu ≤ 9223372036854775807) :
    Calls Tryz.prog 71 #[.pointer (some ⟨g, 0, none⟩)] w (Burns g fu dn cs w) := by
  have hc6 : w.cell? ⟨g, 6, none⟩ = some (.int .i64 fu) := by rw [cell_of_row w g 6 _ _ _ h]; exact h6
  have hf6 : w.frozen? ⟨g, 6, none⟩ = false := frozen_of_row w g 6 _ _ h
  have hc7 : w.cell? ⟨g, 7, none⟩ = some (.bool dn) := by rw [cell_of_row w g 7 _ _ _ h]; exact h7
  have hf7 : w.frozen? ⟨g, 7, none⟩ = false := frozen_of_row w g 7 _ _ h
  have H := Lib.hid h
  have H6 := Lib.hid h6
  have H7 := Lib.hid h7
  clear h h6 h7
  rcases Int.lt_trichotomy fu 1 with hl | hl | hl
  · have he : fu = 0 := by omega
    subst he
    go_enter Tryz.func71, Tryz.ntmps71
    go_wp2
    go_ret
    refine ⟨rfl, ?_, Kept.refl _ _, rfl⟩
    rw [if_pos rfl, if_neg (by omega), set_same H6.out, set_same H7.out]
    exact H.out
  · subst hl
    go_enter Tryz.func71, Tryz.ntmps71
    go_wp2
    go_ret
    have hr := heap_setCell_same _ g 7 _ _ (.bool true) (heap_setCell_same w g 6 _ _ (.int .i64 0) H.out)
    exact ⟨rfl, hr, ((Kept.refl (fun b => b = g) w).setCell (p := ⟨g, 6, none⟩) (fun _ => rfl) _).setCell (p := ⟨g, 7, none⟩) (fun _ => rfl) _, by simp only [size_setCell']⟩
  · have d0 : (fu == 0) = false := by simpa using (show fu ≠ 0 by omega)
    go_enter Tryz.func71, Tryz.ntmps71
    go_wp2
    go_ret
    have hr := heap_setCell_same w g 6 _ _ (.int .i64 (fu - 1)) H.out
    refine ⟨?_, ?_, (Kept.refl (fun b => b = g) w).setCell (p := ⟨g, 6, none⟩) (fun _ => rfl) _, by simp only [size_setCell']⟩
    · rw [if_neg (by omega)]; rfl
    · rw [if_neg (by omega), if_neg (by omega), set_same (o := 7) (by rw [Array.getElem?_setIfInBounds_ne (by omega)]; exact H7.out)]
      exact hr
end Go.Proofs.YtnjifhbooikdbaaGreatDoor.Dk
