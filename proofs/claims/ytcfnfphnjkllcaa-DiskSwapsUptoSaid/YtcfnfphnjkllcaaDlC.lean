/- The laws' answers, as a contract of a call. -/
import Derived.Test.YtcfnfphnjkllcaaDlB
namespace Go.Proofs.Ytcfnfphnjkllcaa.Dk
open Go.RowKit Go.Maps By Mp

def ansS : DS := chgS (newDS 9) 1 [97] 1 [7]
theorem ans1 : chgE (newDS 9) 1 [97] 1 [7] = 0 := by kernel_rfl
theorem ans2 : readE ansS [97] = 0 := by kernel_rfl
theorem ans3 : readB ansS [97] = [0, 7] := by kernel_rfl
theorem DStep.below {val : Value} {g : Nat} {s : DS} {S : Nat → Prop} {w0 w w' : World} {e : Ending} (h : DStep val g s S w e w') (hb : Below w0.heap.size w0 w) (hS : ∀ b, S b → w0.heap.size ≤ b) : e = .returned val ∧ ∃ S', DiskAt w' g s S' ∧ (∀ b, S' b → w0.heap.size ≤ b) ∧ Below w0.heap.size w0 w' := by
  obtain ⟨h1, S', h2, h3, h4⟩ := h
  refine ⟨h1, S', h2, fun b hb' => ?_, hb.trans (h4.below hb.size hS)⟩
  rcases h3 b hb' with h | h
  · exact hS b h
  · exact Nat.le_trans hb.size h
set_option maxRecDepth 100000 in
set_option maxHeartbeats 2000000 in
theorem answers_any (w : World) : Calls Try.prog 11 #[] w (True_ w) := by
  have HN := Lib.hid (new_any 9 w rfl)
  have q1 := ptrTest
  go_enter Try.func11, Try.ntmps11
  go_wp2_with fail
  refine HN.out.mono ?_
  rintro e w1 ⟨g, S, rfl, hd1, hS1, hb1⟩
  clear HN
  have hz1 := hb1.size
  obtain ⟨w2, hw2⟩ : ∃ w2, w2 = w1.alloc (.cells #[.int .u8 7] 5) := ⟨_, rfl⟩
  have hb2 : Below w1.heap.size w1 w2 := by rw [hw2]; exact (Below.refl _ _).alloc (Nat.le_refl _) _
  have hzz : w2.heap.size = w1.heap.size + 1 := by rw [hw2]; simp
  have hg1 : g < w1.heap.size := by obtain ⟨bm, sm, pb, ps, v, h⟩ := hd1; exact row_lt h.row
  have hl2 : LiesS w2 (fun b => b = w1.heap.size) (some ⟨w1.heap.size, 0, none⟩) [7] := fun _ => ⟨_, 0, rfl, rfl, fun j x hx => by
    cases j with
    | zero =>
      injection hx with hx
      subst hx
      rw [hw2, cell_of_row _ _ _ _ _ _ (heap_alloc_new w1 _)]
      rfl
    | succ j => simp at hx⟩
  have hput := put_any g (newDS 9) S [97] 1 [7] (some ⟨w1.heap.size, 0, none⟩) 1 1 w2 (hd1.below hb2) (by decide) (by decide) (by decide) rfl (Nat.le_refl _) (fun b => b = w1.heap.size) (fun b hb => by omega) hl2
  rw [ans1] at hput
  have HP := Lib.hid hput
  have HW2 := Lib.hid hw2
  have HB2 := Lib.hid (hb1.trans (hb2.mono hz1) : Below w.heap.size w w2)
  have HS1 := Lib.hid hS1
  clear hd1 hS1 hb1 hz1 hb2 hzz hg1 hl2 hput hw2
  go_wp2_with fail
  rw [← HW2.out]
  clear HW2
  refine HP.out.mono ?_
  intro e w3 hst
  obtain ⟨rfl, S3, hd3, hS3, hb3⟩ := hst.below HB2.out HS1.out
  clear hst HP HB2 HS1
  have hrd := read_any g ansS S3 [97] w3 hd3 (by decide)
  rw [ans2, ans3] at hrd
  have HR := Lib.hid hrd
  have HB3 := Lib.hid hb3
  clear hrd hd3 hS3 hb3
  go_wp2_with fail
  refine HR.out.mono ?_
  rintro e w4 ⟨v4, rfl, ho4, hb4⟩
  obtain ⟨A4, c4, rfl, _, _, _, hl4, _⟩ := ho4.form
  have htx := run_text w4 (n := 2) c4 rfl hl4
  have htl : ((str [0, 7]).toList == [0, 7]) = true := by rw [str_toList]; rfl
  have HB4 := Lib.hid (By.ext HB3.out hb4)
  clear ho4 hl4 hb4 HR HB3
  go_wp2
  go_ret
  exact ⟨rfl, HB4.out⟩
end Go.Proofs.Ytcfnfphnjkllcaa.Dk
