/- The law RlogFresh, walked. -/
import Derived.Test.YtlkepkagbhibhaaGreatQf
namespace Go.Proofs.YtlkepkagbhibhaaGreat.Rg
open Go.RowKit By CoP Co Mo Kd

theorem new_mod (a b : Nat) (W : World) : Calls Tryz.prog 22 #[.int .u64 ((a : Int) % 4611686018427387904), .int .u64 ((b : Int) % 4611686018427387904)] W (NewPost (a % 4611686018427387904) (b % 4611686018427387904) W) := by
  rw [show (a : Int) % 4611686018427387904 = ((a % 4611686018427387904 : Nat) : Int) by omega, show (b : Int) % 4611686018427387904 = ((b % 4611686018427387904 : Nat) : Int) by omega]
  exact new_ok _ _ W (by omega) (by omega)
theorem last_new {g i t : Nat} {v : Value} {S : Nat → Prop} {w : World} (h : LogIs w g ⟨i, t, []⟩ v S) : Calls Tryz.prog 23 #[ptr g] w (RetB (.tuple #[.int .u64 (i : Int), .int .u64 (t : Int)]) w) := last_any w h
theorem fresh_new (i t k u : Nat) : fresh ⟨i, t, []⟩ k u = newer k u i t := rfl
set_option maxRecDepth 100000 in
set_option maxHeartbeats 3200000 in
theorem rlogFresh_walk (w : World) (a0 a1 b0 b1 c0 c1 : Nat) : Calls Tryz.prog 6 #[.agg #[.int .u64 (a0 : Int), .int .u64 (a1 : Int)], .agg #[.int .u64 (b0 : Int), .int .u64 (b1 : Int)], .agg #[.int .u64 (c0 : Int), .int .u64 (c1 : Int)]] w (True_ w) := by
  have q := logTest
  obtain ⟨w1, e1⟩ : ∃ w1, w1 = w.alloc (.cells #[.int .u64 (a0 : Int), .int .u64 (a1 : Int)] 53) := ⟨_, rfl⟩
  obtain ⟨w2, e2⟩ : ∃ w2, w2 = w1.alloc (.cells #[.int .u64 (b0 : Int), .int .u64 (b1 : Int)] 53) := ⟨_, rfl⟩
  obtain ⟨w3, e3⟩ : ∃ w3, w3 = w2.alloc (.cells #[.int .u64 (c0 : Int), .int .u64 (c1 : Int)] 53) := ⟨_, rfl⟩
  have z1 : w1.heap.size = w.heap.size + 1 := by rw [e1, World.size_alloc]
  have z2 : w2.heap.size = w.heap.size + 2 := by rw [e2, World.size_alloc, z1]
  have z3 : w3.heap.size = w.heap.size + 3 := by rw [e3, World.size_alloc, z2]
  have r0 : w3.heap[w.heap.size]? = some (.cells #[.int .u64 (a0 : Int), .int .u64 (a1 : Int)] 53 (0, 0)) := by rw [e3, heap_alloc_old _ _ (by omega), e2, heap_alloc_old _ _ (by omega), e1]; exact heap_alloc_new _ _
  have r1 : w3.heap[w.heap.size + 1]? = some (.cells #[.int .u64 (b0 : Int), .int .u64 (b1 : Int)] 53 (0, 0)) := by rw [e3, heap_alloc_old _ _ (by omega), e2, ← z1]; exact heap_alloc_new _ _
  have r2 : w3.heap[w.heap.size + 2]? = some (.cells #[.int .u64 (c0 : Int), .int .u64 (c1 : Int)] 53 (0, 0)) := by rw [e3, ← z2]; exact heap_alloc_new _ _
  have hb3 : Below w.heap.size w w3 := by
    rw [e3]; refine Below.alloc ?_ (by omega) _
    rw [e2]; refine Below.alloc ?_ (by omega) _
    rw [e1]; exact (Below.refl _ _).alloc (Nat.le_refl _) _
  have HALL := Lib.hid (show ∀ W, Below w3.heap.size w3 W → (W.cell? ⟨w.heap.size, 0, none⟩ = some (.int .u64 (a0 : Int)) ∧ W.cell? ⟨w.heap.size, 1, none⟩ = some (.int .u64 (a1 : Int)) ∧ W.cell? ⟨w.heap.size + 1, 0, none⟩ = some (.int .u64 (b0 : Int)) ∧ W.cell? ⟨w.heap.size + 1, 1, none⟩ = some (.int .u64 (b1 : Int))) ∧ W.cell? ⟨w.heap.size + 2, 0, none⟩ = some (.int .u64 (c0 : Int)) ∧ W.cell? ⟨w.heap.size + 2, 1, none⟩ = some (.int .u64 (c1 : Int)) from fun W hW => by
    have y0 := (hW.block _ (row_lt r0)).trans r0
    have y1 := (hW.block _ (row_lt r1)).trans r1
    have y2 := (hW.block _ (row_lt r2)).trans r2
    exact ⟨⟨by rw [cell_of_row W _ 0 _ _ _ y0]; rfl, by rw [cell_of_row W _ 1 _ _ _ y0]; rfl, by rw [cell_of_row W _ 0 _ _ _ y1]; rfl, by rw [cell_of_row W _ 1 _ _ _ y1]; rfl⟩, by rw [cell_of_row W _ 0 _ _ _ y2]; rfl, by rw [cell_of_row W _ 1 _ _ _ y2]; rfl⟩)
  have HB3 := Lib.hid hb3
  have HNA := Lib.hid (fun W => new_mod a0 a1 W)
  have HNB := Lib.hid (fun W => new_mod b0 b1 W)
  have HNC := Lib.hid (fun W => new_mod c0 c1 W)
  generalize a0 % 4611686018427387904 = x0 at HNA
  generalize a1 % 4611686018427387904 = x1 at HNA
  generalize b0 % 4611686018427387904 = y0 at HNB
  generalize b1 % 4611686018427387904 = y1 at HNB
  generalize c0 % 4611686018427387904 = k0 at HNC
  generalize c1 % 4611686018427387904 = k1 at HNC
  clear r0 r1 r2 hb3 z1 z2 z3
  go_enter Tryz.func6, Tryz.ntmps6
  go_upto_region 1 with fail
  rw [← e1, ← e2, ← e3]
  clear e1 e2 e3
  have HW0 := Lib.hid (show Below w3.heap.size w3 w3.drew from (Below.refl _ _).drew)
  have HT1 := Lib.hid trivial
  go_region_held3 (fun w' => w'.cell? ⟨w.heap.size, 0, none⟩ = some (.int .u64 (a0 : Int)) ∧ w'.cell? ⟨w.heap.size, 1, none⟩ = some (.int .u64 (a1 : Int)) ∧ w'.cell? ⟨w.heap.size + 1, 0, none⟩ = some (.int .u64 (b0 : Int)) ∧ w'.cell? ⟨w.heap.size + 1, 1, none⟩ = some (.int .u64 (b1 : Int)))
    (first
      | with_reducible assumption
      | exact (HALL.out _ HW0.out).1
      | exact (HALL.out _ HW1.out).1
      | exact (HALL.out _ HW2.out).1)
    (first
      | (go_at_call 22; clear HT1; refine (HNA.out _).mono ?_; rintro e wx ⟨rfl, hl, hbx⟩
         have HLX := Lib.hid hl
         have HW1 := Lib.hid (By.ext HW0.out hbx)
         clear hl hbx)
      | (go_at_call 22; refine (HNB.out _).mono ?_; rintro e wy ⟨rfl, hl, hbx⟩
         have HLX2 := Lib.hid (HLX.out.below hbx)
         have HLY := Lib.hid hl
         have HW2 := Lib.hid (By.ext HW1.out hbx)
         clear hl hbx))
  obtain ⟨-, d0, d1⟩ := HALL.out wy HW2.out
  go_wp2_with fail
  refine (HNC.out _).mono ?_
  rintro e wz ⟨rfl, hl, hbx⟩
  have HLX3 := Lib.hid (HLX2.out.below hbx)
  have HLY3 := Lib.hid (HLY.out.below hbx)
  have HLZ := Lib.hid hl
  have HW3 := Lib.hid (By.ext HB3.out (By.ext HW2.out hbx))
  clear hl hbx d0 d1 HALL HNA HNB HNC HLX HLX2 HLY
  have HLX3 := Lib.hid (show LogIs wz w3.heap.size ⟨x0, x1, []⟩ (.slice none 0 0) (fun b => b = w3.heap.size) from HLX3.out)
  go_wp2_with fail
  refine (answers_any _).mono ?_
  rintro e w4 ⟨rfl, hb⟩
  have X4 := Lib.hid (HLX3.out.below hb)
  have Y4 := Lib.hid (HLY3.out.below hb)
  have Z4 := Lib.hid (HLZ.out.below hb)
  have W4 := Lib.hid (By.ext HW3.out hb)
  clear hb HLX3 HLY3 HLZ HW3
  have HL := Lib.hid (last_new X4.out)
  go_wp2_with fail
  refine HL.out.mono ?_
  rintro e w5 ⟨rfl, hb⟩
  have X5 := Lib.hid (X4.out.below hb)
  have Y5 := Lib.hid (Y4.out.below hb)
  have Z5 := Lib.hid (Z4.out.below hb)
  have W5 := Lib.hid (By.ext W4.out hb)
  clear hb HL X4 Y4 Z4 W4
  have HL := Lib.hid (last_new Y5.out)
  go_wp2_with fail
  refine HL.out.mono ?_
  rintro e w6 ⟨rfl, hb⟩
  have X6 := Lib.hid (X5.out.below hb)
  have Y6 := Lib.hid (Y5.out.below hb)
  have Z6 := Lib.hid (Z5.out.below hb)
  have W6 := Lib.hid (By.ext W5.out hb)
  clear hb HL X5 Y5 Z5 W5
  have HL := Lib.hid (last_new Z6.out)
  go_wp2_with fail
  refine HL.out.mono ?_
  rintro e w7 ⟨rfl, hb⟩
  have X7 := Lib.hid (X6.out.below hb)
  have Y7 := Lib.hid (Y6.out.below hb)
  have W7 := Lib.hid (By.ext W6.out hb)
  clear hb HL X6 Y6 Z6 W6
  have HF := Lib.hid (fresh_any w7 X7.out y0 y1)
  rw [fresh_new] at HF
  cases h1 : newer y0 y1 x0 x1 with
  | false =>
    rw [h1] at HF
    have h2 : newer x0 x1 y0 y1 = true := by
      rcases newer_total x0 x1 y0 y1 with h | h
      · rw [h1] at h; cases h
      · exact h
    go_wp2_with fail
    refine HF.out.mono ?_
    rintro e w8 ⟨rfl, hb⟩
    have X8 := Lib.hid (X7.out.below hb)
    have Y8 := Lib.hid (Y7.out.below hb)
    have W8 := Lib.hid (By.ext W7.out hb)
    clear hb HF
    have HF := Lib.hid (fresh_any w8 Y8.out x0 x1)
    rw [fresh_new, h2] at HF
    clear h2
    go_wp2_with fail
    refine HF.out.mono ?_
    rintro e w9 ⟨rfl, hb⟩
    have X9 := Lib.hid (X8.out.below hb)
    have W9 := Lib.hid (By.ext W8.out hb)
    clear hb HF
    have HF := Lib.hid (fresh_any w9 X9.out y0 y1)
    rw [fresh_new, h1] at HF
    clear h1
    go_wp2_with fail
    refine HF.out.mono ?_
    rintro e w10 ⟨rfl, hb⟩
    have W10 := Lib.hid (By.ext W9.out hb)
    clear hb HF
    go_wp2
    go_ret
    exact ⟨rfl, W10.out⟩
  | true =>
    rw [h1] at HF
    have HH1 := Lib.hid h1
    clear h1
    go_wp2_with fail
    refine HF.out.mono ?_
    rintro e w8 ⟨rfl, hb⟩
    have X8 := Lib.hid (X7.out.below hb)
    have Y8 := Lib.hid (Y7.out.below hb)
    have W8 := Lib.hid (By.ext W7.out hb)
    clear hb HF
    have HF := Lib.hid (fresh_any w8 X8.out y0 y1)
    rw [fresh_new, HH1.out] at HF
    go_wp2_with fail
    refine HF.out.mono ?_
    rintro e w9 ⟨rfl, hb⟩
    have X9 := Lib.hid (X8.out.below hb)
    have Y9 := Lib.hid (Y8.out.below hb)
    have W9 := Lib.hid (By.ext W8.out hb)
    clear hb HF
    have HF := Lib.hid (fresh_any w9 Y9.out k0 k1)
    rw [fresh_new] at HF
    cases h2 : newer k0 k1 y0 y1 with
    | false =>
      rw [h2] at HF
      clear h2
      go_wp2_with fail
      refine HF.out.mono ?_
      rintro e w10 ⟨rfl, hb⟩
      have W10 := Lib.hid (By.ext W9.out hb)
      clear hb HF
      go_wp2
      go_ret
      exact ⟨rfl, W10.out⟩
    | true =>
      rw [h2] at HF
      have HH3 := Lib.hid (newer_trans HH1.out h2)
      clear h2
      go_wp2_with fail
      refine HF.out.mono ?_
      rintro e w10 ⟨rfl, hb⟩
      have X10 := Lib.hid (X9.out.below hb)
      have W10 := Lib.hid (By.ext W9.out hb)
      clear hb HF
      have HF := Lib.hid (fresh_any w10 X10.out k0 k1)
      rw [fresh_new, HH3.out] at HF
      go_wp2_with fail
      refine HF.out.mono ?_
      rintro e w11 ⟨rfl, hb⟩
      have W11 := Lib.hid (By.ext W10.out hb)
      clear hb HF
      go_wp2
      go_ret
      exact ⟨rfl, W11.out⟩
end Go.Proofs.YtlkepkagbhibhaaGreat.Rg
