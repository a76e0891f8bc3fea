/- Package wal: Open of a disk that has no file, as a contract of a call. -/
import Derived.Test.YtnjifhbooikdbaaGreatDoorWaJ
namespace Go.Proofs.YtnjifhbooikdbaaGreatDoor.Wa
open Go.RowKit Go.Maps By Mp Dk

abbrev cmpV : Value := .func (.func 39) #[] #[]
set_option maxHeartbeats 400000 in
theorem isort_nil (w : World) : Calls Tryz.prog 83 #[.slice none 0 0, .int .i64 0, .int .i64 0, cmpV] w (Ret (.tuple #[]) w) := by
  go_enter Tryz.func83, Tryz.ntmps83
  go_wp2
  go_loopw [8] (fun i wr => i = .int .i64 1 ∧ wr = w) (fun _ _ => 0)
  case atStart => exact ⟨rfl, rfl⟩
  case round =>
    obtain ⟨rfl, rfl⟩ := hrel
    go_wp2
    go_end0
    exact ⟨rfl, rfl⟩
set_option maxRecDepth 100000 in
set_option maxHeartbeats 2000000 in
theorem pdq_nil (w : World) : Calls Tryz.prog 65 #[.slice none 0 0, .int .i64 0, .int .i64 0, .int .i64 0, cmpV] w (Ret (.tuple #[]) w) := by
  have HI := Lib.hid (isort_nil w)
  go_enter Tryz.func65, Tryz.ntmps65
  go_wp2
  go_loopw [1, 2] (fun a b wr => a = .int .i64 0 ∧ b = .int .i64 0 ∧ wr = w) (fun _ _ _ => 0)
  case atStart => exact ⟨rfl, rfl, rfl⟩
  case round =>
    obtain ⟨rfl, rfl, rfl⟩ := hrel
    go_wp2_with fail
    refine HI.out.mono ?_
    rintro e w' ⟨rfl, rfl⟩
    go_wp2
    go_end0
    exact ⟨rfl, rfl⟩
set_option maxHeartbeats 400000 in
theorem sort_nil (w : World) : Calls Tryz.prog 38 #[.slice none 0 0, cmpV] w (Ret (.tuple #[]) w) := by
  have HP := Lib.hid (pdq_nil w)
  have hlen : Calls Tryz.prog 66 #[.int .u64 0] w (Ret (.int .i64 0) w) := by
    have HL := Lib.hid (Co.len64_any 0 (by decide) w)
    go_enter Tryz.func66, Tryz.ntmps66
    go_wp2_with fail
    refine HL.out.mono ?_
    rintro e w' ⟨rfl, rfl⟩
    go_wp2
    go_ret
    exact ⟨rfl, rfl⟩
  have HLN := Lib.hid hlen
  clear hlen
  go_enter Tryz.func38, Tryz.ntmps38
  go_wp2_with fail
  refine HLN.out.mono ?_
  rintro e w' ⟨rfl, rfl⟩
  go_wp2_with fail
  refine HP.out.mono ?_
  rintro e w' ⟨rfl, rfl⟩
  go_wp2
  go_end0
  exact ⟨rfl, rfl⟩
set_option maxHeartbeats 400000 in
theorem beginning_nil (w : World) : Calls Tryz.prog 32 #[.slice none 0 0] w (Ret (.int .i64 0) w) := by
  go_enter Tryz.func32, Tryz.ntmps32
  go_wp2
  go_loopw [3] (fun i wr => i = .int .i64 (-1) ∧ wr = w) (fun _ _ => 0)
  case atStart => exact ⟨rfl, rfl⟩
  case round =>
    obtain ⟨rfl, rfl⟩ := hrel
    go_wp2
    go_ret
    exact ⟨rfl, rfl⟩
set_option maxHeartbeats 800000 in
theorem chain_nil (w : World) : Calls Tryz.prog 15 #[.slice none 0 0] w (Ret (.tuple #[.slice none 0 0, .slice none 0 0]) w) := by
  have HB := Lib.hid (beginning_nil w)
  go_enter Tryz.func15, Tryz.ntmps15
  go_wp2_with fail
  refine HB.out.mono ?_
  rintro e w' ⟨rfl, rfl⟩
  go_wp2
  go_loopw [11, 2, 3] (fun i a b wr => i = .int .i64 0 ∧ a = .slice none 0 0 ∧ b = .slice none 0 0 ∧ wr = w) (fun _ _ _ _ => 0)
  case atStart => exact ⟨rfl, rfl, rfl, rfl⟩
  case round =>
    obtain ⟨rfl, rfl, rfl, rfl⟩ := hrel
    go_wp2
    go_ret2
    exact ⟨rfl, rfl⟩
set_option maxHeartbeats 800000 in
theorem mend_nil (g : Nat) (w : World) : Calls Tryz.prog 17 #[.pointer (some ⟨g, 0, none⟩), .slice none 0 0, .slice none 0 0] w (Ret (.int .i64 0) w) := by
  go_enter Tryz.func17, Tryz.ntmps17
  go_wp2
  go_loopw [16, 7] (fun i a wr => i = .int .i64 0 ∧ a = .int .i64 0 ∧ wr = w) (fun _ _ _ => 0)
  case atStart => exact ⟨rfl, rfl, rfl⟩
  case round =>
    obtain ⟨rfl, rfl, rfl⟩ := hrel
    go_wp2
    go_loopw [35, 7] (fun i a wx => i = .int .i64 0 ∧ a = .int .i64 0 ∧ wx = wr) (fun _ _ _ => 0)
    case atStart => exact ⟨rfl, rfl, rfl⟩
    case round =>
      obtain ⟨rfl, rfl, rfl⟩ := hrel
      go_wp2
      go_ret
      exact ⟨rfl, rfl⟩
set_option maxRecDepth 100000 in
set_option maxHeartbeats 2000000 in
theorem find_empty (g d : Nat) (s : DS) (S T : Nat → Prop) (w : World) (h : LogAt w g d [] false T) (hd : DiskAt w d s S) (hcnt : s.cnt ≤ 68719476736) (hnm : namesS s = []) : Calls Tryz.prog 16 #[.pointer (some ⟨g, 0, none⟩)] w (RetB (.slice none 0 0) w) := by
  obtain ⟨v, ac, h⟩ := h
  have h0 : w.cell? ⟨g, 0, none⟩ = some (.pointer (some ⟨d, 0, none⟩)) := by rw [cell_of_row w g 0 _ _ _ h.row]; rfl
  have hn := names_any d s S w hd hcnt
  rw [hnm] at hn
  have HN := Lib.hid hn
  clear h hd hn hnm
  go_enter Tryz.func16, Tryz.ntmps16
  go_wp2_with fail
  refine HN.out.mono ?_
  rintro e w1 ⟨v1, rfl, ho, hb1⟩
  obtain ⟨A, c, hv⟩ := ownsRow_form ho
  have hv : v1 = .slice A 0 c := hv
  subst hv
  have HB1 := Lib.hid hb1
  have HS := Lib.hid (sort_nil w1)
  clear ho hb1
  go_wp2
  go_loopw [14, 3] (fun i a wr => i = .int .i64 0 ∧ a = .slice none 0 0 ∧ wr = w1) (fun _ _ _ => 0)
  case atStart => exact ⟨rfl, rfl, rfl⟩
  case round =>
    obtain ⟨rfl, rfl, rfl⟩ := hrel
    go_wp2_with fail
    refine HS.out.mono ?_
    rintro e w' ⟨rfl, rfl⟩
    go_wp2
    go_ret
    exact ⟨rfl, HB1.out⟩
def OpenPost (d : Nat) (w : World) (e : Ending) (w' : World) : Prop := ∃ (g : Nat) (T : Nat → Prop), e = .returned (.tuple #[.pointer (some ⟨g, 0, none⟩), .int .i64 0]) ∧ LogW w' g d [] false T (.slice none 0 0) [] ∧ (∀ b, T b → w.heap.size ≤ b) ∧ Below w.heap.size w w'
theorem log_new (w : World) (d : Nat) : LogW (w.alloc (.cells #[.pointer (some ⟨d, 0, none⟩), .slice none 0 0, .bool false] tLog)) w.heap.size d [] false (fun b => b = w.heap.size) (.slice none 0 0) [] :=
  ⟨heap_alloc_new w _, rfl, World.ownsRow_nil _ _ _ 4, fun i s a h _ => (by simp at h), fun i j a b q n m h _ => (by simp at h), rfl, fun b hb => (by cases hb), fun i a n q h _ => (by simp at h), fun b hb => (by rw [hb, World.size_alloc]; omega), fun s hs => (by cases hs), (by decide)⟩
set_option maxRecDepth 100000 in
set_option maxHeartbeats 2000000 in
theorem open_new (d : Nat) (s : DS) (S : Nat → Prop) (w : World) (hd : DiskAt w d s S) (hdn : s.down = false) (hcnt : s.cnt ≤ 68719476736) (hnm : namesS s = []) : Calls Tryz.prog 5 #[.pointer (some ⟨d, 0, none⟩)] w (OpenPost d w) := by
  have hdw := down_any d s S w hd
  rw [hdn] at hdw
  have HDW := Lib.hid hdw
  have q1 := ptrTest
  have HB1 := Lib.hid (bAlloc (Below.refl w.heap.size w) (.cells #[.pointer (some ⟨d, 0, none⟩), .slice none 0 0, .bool false] tLog))
  have HLN := Lib.hid (log_new w d)
  obtain ⟨w1, hw1⟩ : ∃ w1, w1 = w.alloc (.cells #[.pointer (some ⟨d, 0, none⟩), .slice none 0 0, .bool false] tLog) := ⟨_, rfl⟩
  rw [← hw1] at HB1 HLN
  have HFI := Lib.hid (find_empty w.heap.size d s S _ w1 ⟨_, _, HLN.out⟩ (hd.below HB1.out) hcnt hnm)
  have HW1 := Lib.hid hw1
  clear hd hdn hdw hnm
  go_enter Tryz.func5, Tryz.ntmps5
  go_wp2_with fail
  refine HDW.out.mono ?_
  rintro e w' ⟨rfl, rfl⟩
  go_upto_region 6 with fail
  rw [← HW1.out]
  clear hw1 HW1
  go_wp2_with fail
  refine HFI.out.mono ?_
  rintro e w2 ⟨rfl, hb2⟩
  have HB2 := Lib.hid hb2
  have HCH := Lib.hid (chain_nil w2)
  clear hb2
  go_wp2_with fail
  refine HCH.out.mono ?_
  rintro e w' ⟨rfl, rfl⟩
  have HME := Lib.hid (mend_nil w.heap.size w2)
  go_wp2_with fail
  refine HME.out.mono ?_
  rintro e w' ⟨rfl, rfl⟩
  have HFIN := Lib.hid (show OpenPost d w (.returned (.tuple #[.pointer (some ⟨w.heap.size, 0, none⟩), .int .i64 0])) w2 from ⟨w.heap.size, _, rfl, HLN.out.keep (fun b hb => HB2.out.block b (HLN.out.lt b hb)) HB2.out.size, fun b hb => Nat.le_of_eq hb.symm, By.ext HB1.out HB2.out⟩)
  go_wp2
  go_loopw [34] (fun i wr => i = .int .i64 0 ∧ wr = w2) (fun _ _ => 0)
  case atStart => exact ⟨rfl, rfl⟩
  case round =>
    obtain ⟨rfl, rfl⟩ := hrel
    go_wp2
    go_ret2
    exact HFIN.out
theorem open_nil (w : World) : Calls Tryz.prog 5 #[.pointer none] w (Ret (.tuple #[.pointer none, .int .i64 1]) w) := by
  have q1 := ptrTest
  go_enter Tryz.func5, Tryz.ntmps5
  go_wp2
  go_ret2
  exact ⟨rfl, rfl⟩
end Go.Proofs.YtnjifhbooikdbaaGreatDoor.Wa
