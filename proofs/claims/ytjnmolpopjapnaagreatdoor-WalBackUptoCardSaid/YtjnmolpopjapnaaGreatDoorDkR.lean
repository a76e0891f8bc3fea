/- Package disk's files.clone of no files; of any. -/
import Derived.Test.YtjnmolpopjapnaaGreatDoorDkQ
namespace Go.Proofs.YtjnmolpopjapnaaGreatDoor.Dk
open Go.RowKit Go.Maps By Mp

set_option maxRecDepth 100000 in
set_option maxHeartbeats 2000000 in
theorem fclone_none (g o : Nat) (cs : Array Value) (T : TypeId) (w : World) (hg : w.heap[g]? = some (.cells cs T (0, 0))) (hcs : filesC cs o none 0) :
    Calls Tryz.prog 37 #[.pointer (some ⟨g, o, none⟩)] w (GivesFs [] w) := by
  have hlg := row_lt hg
  have hc0 : w.cell? ⟨g, o, none⟩ = some (.map none) := by rw [cell_of_row w g o _ _ _ hg]; exact hcs.1
  have hc1 : w.cell? ⟨g, o + 1, none⟩ = some (.int .i64 0) := by rw [cell_of_row w g (o + 1) _ _ _ hg]; exact hcs.2
  clear hg hcs
  have hmm := @run_makeMap Tryz.prog
  go_enter Tryz.func37, Tryz.ntmps37
  go_upto_region 2 with fail
  clear hmm
  obtain ⟨w1, hw1⟩ : ∃ w1, w1 = ((w.alloc (.cells #[.map none, .int .i64 0] tFiles)).alloc (.map #[] 0)).alloc (.cells #[.map (some (w.heap.size + 1)), .int .i64 0] tFiles) := ⟨_, rfl⟩
  have hb1 : Below w.heap.size w w1 := by
    rw [hw1]
    exact (((Below.refl _ _).alloc (Nat.le_refl _) _).alloc (by simp) _).alloc (by simp; omega) _
  have hr3 : w1.heap[w.heap.size + 1 + 1]? = some (.cells #[.map (some (w.heap.size + 1)), .int .i64 0] tFiles (0, 0)) := by
    rw [hw1]
    have := heap_alloc_new ((w.alloc (.cells #[.map none, .int .i64 0] tFiles)).alloc (.map #[] 0)) (.cells #[.map (some (w.heap.size + 1)), .int .i64 0] tFiles)
    simpa using this
  have hr2 : w1.heap[w.heap.size]? = some (.cells #[.map none, .int .i64 0] tFiles (0, 0)) := by
    rw [hw1, heap_alloc_old _ _ (by simp; omega), heap_alloc_old _ _ (by simp)]
    exact heap_alloc_new w _
  have hmq : MapIs Tryz.prog tStr w1 (w.heap.size + 1) (fun _ => none) 0 := by
    have h1 := MapIs.made (w.alloc (.cells #[.map none, .int .i64 0] tFiles)) Tryz.prog tStr
    rw [World.size_alloc] at h1
    refine h1.keep ?_
    rw [hw1, heap_alloc_old _ _ (by simp)]
  have hz1 : w1.heap.size = w.heap.size + 3 := by rw [hw1]; simp
  have hcg : w1.cell? ⟨g, o, none⟩ = some (.map none) := (hb1.cell hlg).trans hc0
  rw [← hw1]
  clear hw1 hc0 hc1
  have hrg := run_range_nilMap (P := Tryz.prog) w1 tFM tStr tFile Tryz.underlying50
  obtain ⟨w2, hw2⟩ : ∃ w2, w2 = w1.alloc (.mapIter none 0 #[] 0) := ⟨_, rfl⟩
  have hnx : ∀ ty : TypeId, (Instr.next (.pointer (some ⟨w1.heap.size, 0, none⟩)) false ty).run Tryz.prog w2 = .ok (.tuple #[.bool false]) w2 := fun ty => by rw [hw2]; exact run_next_nilMap _ ty 0 0 #[]
  rw [← hw2] at hrg
  have hr3 : w2.heap[w.heap.size + 1 + 1]? = some (.cells #[.map (some (w.heap.size + 1)), .int .i64 0] tFiles (0, 0)) := by rw [hw2, heap_alloc_old _ _ (row_lt hr3)]; exact hr3
  have hr2 : w2.heap[w.heap.size]? = some (.cells #[.map none, .int .i64 0] tFiles (0, 0)) := by rw [hw2, heap_alloc_old _ _ (row_lt hr2)]; exact hr2
  have hmq := hmq.keep (w' := w2) (by rw [hw2, heap_alloc_old _ _ hmq.lt])
  have hb2 : Below w.heap.size w w2 := by rw [hw2]; exact hb1.alloc hb1.size _
  obtain ⟨qn, hqn⟩ : ∃ qn, qn = w.heap.size + 1 := ⟨_, rfl⟩
  obtain ⟨gb, hgb⟩ : ∃ gb, gb = w.heap.size + 1 + 1 := ⟨_, rfl⟩
  obtain ⟨g0, hg0⟩ : ∃ g0, g0 = w.heap.size := ⟨_, rfl⟩
  rw [← hgb] at hr3 ⊢
  rw [← hqn] at hr3 hmq ⊢
  rw [← hg0] at hr2 hqn hgb ⊢
  have hcb0 : w2.cell? ⟨gb, 0, none⟩ = some (.map (some qn)) := by rw [cell_of_row w2 gb 0 _ _ _ hr3]; rfl
  have hcb1 : w2.cell? ⟨gb, 1, none⟩ = some (.int .i64 0) := by rw [cell_of_row w2 gb 1 _ _ _ hr3]; rfl
  have hc00 : w2.cell? ⟨g0, 0, none⟩ = some (.map none) := by rw [cell_of_row w2 g0 0 _ _ _ hr2]; rfl
  have hc01 : w2.cell? ⟨g0, 1, none⟩ = some (.int .i64 0) := by rw [cell_of_row w2 g0 1 _ _ _ hr2]; rfl
  have hf0 : w2.frozen? ⟨g0, 0, none⟩ = false := frozen_of_row w2 g0 0 _ _ hr2
  have hf1 : w2.frozen? ⟨g0, 1, none⟩ = false := frozen_of_row w2 g0 1 _ _ hr2
  have HR2 := Lib.hid hr2
  have HMQ := Lib.hid hmq
  have HB2 := Lib.hid hb2
  have HNM := Lib.hid (And.intro hqn hg0)
  clear hb1 hb2 hr3 hr2 hmq hz1 hqn hgb hg0 hw2 hlg
  go_wp2
  refine wp_loop_rounds 1 ?_
  rw [rounds_succ]
  go_wp2
  have hrow := heap_setCell_same _ g0 1 _ _ (.int .i64 0) (heap_setCell_same w2 g0 0 _ _ (.map (some qn)) HR2.out)
  have hoth : ∀ b, b ≠ g0 → ((w2.setCell ⟨g0, 0, none⟩ (.map (some qn))).setCell ⟨g0, 1, none⟩ (.int .i64 0)).heap[b]? = w2.heap[b]? := fun b hb => (heap_setCell_other _ ⟨g0, 1, none⟩ b _ hb).trans (heap_setCell_other w2 ⟨g0, 0, none⟩ b _ hb)
  refine bodyPost_ret (v := .agg #[.map (some qn), .int .i64 0]) (results_cell_row rfl _ _ g0 tFiles #[.map (some qn), .int .i64 0] (0, 0) _ rfl hrow Tryz.underlying52 rfl (by kernel_rfl)) rfl ?_
  obtain ⟨e1, e3⟩ := HNM.out
  refine ⟨some qn, fun _ => none, rfl, emptyAt (HMQ.out.keep (hoth qn (by omega))) _, fun b hb => ?_, ?_⟩
  · rw [emptyFoot hb]; omega
  · exact ⟨HB2.out.os, HB2.out.tape, HB2.out.output, by rw [size_setCell', size_setCell']; exact HB2.out.size, fun b hb => (hoth b (by omega)).trans (HB2.out.block b hb)⟩
theorem fclone_any (g o : Nat) (bm : Option Nat) (cs : Array Value) (T : TypeId) (F : Fs) (pb : Bs → Option Nat) (w : World) (hg : w.heap[g]? = some (.cells cs T (0, 0))) (hcs : filesC cs o bm (fsize F)) (hf : FilesAt w bm F pb) (hup : Up F) (hfit : Fit F) (hlen : F.length ≤ 68719476736) :
    Calls Tryz.prog 37 #[.pointer (some ⟨g, o, none⟩)] w (GivesFs F w) := by
  cases bm with
  | some q => exact fclone_some g o q cs T F pb w hg hcs hf hup hfit hlen
  | none =>
    obtain rfl := hf.none rfl
    exact fclone_none g o cs T w hg hcs
end Go.Proofs.YtjnmolpopjapnaaGreatDoor.Dk
