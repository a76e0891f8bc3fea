/- Package wal: a label's name, as a contract of a call. -/
import Derived.Test.YtnjifhbooikdbaaGreatDoorWaB
namespace Go.Proofs.YtnjifhbooikdbaaGreatDoor.Wa
open Go.RowKit Go.Maps By Mp Dk

abbrev labC (s : Seg) : Array Value := #[.int .u64 (s.era : Nat), .int .u64 (s.first : Nat), .bool s.base]
abbrev labV (s : Seg) : Value := .agg (labC s)
def Seg.name (s : Seg) : Bs := [119, 46] ++ b36 s.era ++ [46] ++ b36 s.first ++ (if s.base then [46, 98] else [])
theorem b36_len : ∀ (k n : Nat), n < 36 ^ (k + 1) → (b36 n).length ≤ k + 1
  | 0, n, h => by rw [b36_lt (by omega)]; simp
  | k + 1, n, h => by
    by_cases hn : n < 36
    · rw [b36_lt hn]; simp
    · rw [b36_ge hn, List.length_append]
      have h1 := b36_len k (n / 36) (by rw [Nat.div_lt_iff_lt_mul (by decide)]; rw [Nat.pow_succ] at h; exact h)
      simp
      omega
theorem b36_le {n : Nat} (h : n < 18446744073709551616) : (b36 n).length ≤ 13 := b36_len 12 n (Nat.lt_trans h (by decide))
theorem str_size (l : Bs) : (str l).size = l.length := rfl
theorem str_app (a b : Bs) : str a ++ str b = str (a ++ b) := by
  unfold str
  apply ByteArray.ext
  simp
theorem run_cat (w : World) (a b : Bs) (h : a.length + b.length ≤ 9223372036854775807) : (Op.stringOp .add (str a) (str b)).run Tryz.prog w = .ok (.string (str (a ++ b))) w := by
  rw [← str_app]
  have h2 : ¬ (((str a).size + (str b).size : Nat) : Int) > IntKind.i64.max := by
    rw [str_size, str_size]
    show ¬ ((a.length + b.length : Nat) : Int) > 9223372036854775807
    omega
  unfold Op.stringOp
  dsimp only
  rw [if_neg h2]
  rfl
theorem lab_cells {w1 w' : World} {g : Nat} {s : Seg} (h : w1.heap[g]? = some (.cells (labC s) tLab (0, 0))) (hb : Below w1.heap.size w1 w') : w'.cell? ⟨g, 0, none⟩ = some (.int .u64 (s.era : Nat)) ∧ w'.cell? ⟨g, 1, none⟩ = some (.int .u64 (s.first : Nat)) ∧ w'.cell? ⟨g, 2, none⟩ = some (.bool s.base) := by
  have h' := (hb.block g (row_lt h)).trans h
  exact ⟨by rw [cell_of_row w' g 0 _ _ _ h']; rfl, by rw [cell_of_row w' g 1 _ _ _ h']; rfl, by rw [cell_of_row w' g 2 _ _ _ h']; rfl⟩
set_option maxRecDepth 100000 in
set_option maxHeartbeats 2000000 in
theorem lab_name_any (s : Seg) (w : World) (h : s.era < 18446744073709551616) (h' : s.first < 18446744073709551616) : Calls Tryz.prog 24 #[labV s] w (RetB (.string (str s.name)) w) := by
  have hrow := heap_alloc_new w (.cells (labC s) tLab)
  have hb1 : Below w.heap.size w (w.alloc (.cells (labC s) tLab)) := (Below.refl _ _).alloc (Nat.le_refl _) _
  obtain ⟨w1, hw1⟩ : ∃ w1, w1 = w.alloc (.cells (labC s) tLab) := ⟨_, rfl⟩
  rw [← hw1] at hrow hb1
  have HALL := Lib.hid (fun (w' : World) (hb : Below w1.heap.size w1 w') => lab_cells hrow hb)
  have HE := Lib.hid (fun w' => fuint_any s.era w' h)
  have HF := Lib.hid (fun w' => fuint_any s.first w' h')
  have HB1 := Lib.hid hb1
  have HW1 := Lib.hid hw1
  have HNM := Lib.hid (show s.name = [119, 46] ++ b36 s.era ++ [46] ++ b36 s.first ++ (if s.base then [46, 98] else []) from rfl)
  have hle := b36_le h
  have hlf := b36_le h'
  clear hrow hb1 h h'
  obtain ⟨x, hx⟩ : ∃ x, x = s.name := ⟨_, rfl⟩
  rw [← hx] at HNM ⊢
  clear hx
  obtain ⟨era, first, base, ends⟩ := s
  dsimp only [labV, labC] at HALL HE HF HW1 HNM hle hlf ⊢
  obtain ⟨e1, he1⟩ : ∃ e1, e1 = str (b36 era) := ⟨_, rfl⟩
  obtain ⟨f1, hf1⟩ : ∃ f1, f1 = str (b36 first) := ⟨_, rfl⟩
  obtain ⟨s1, hs1⟩ : ∃ s1, s1 = str ([119, 46] ++ b36 era) := ⟨_, rfl⟩
  obtain ⟨s2, hs2⟩ : ∃ s2, s2 = str ([119, 46] ++ b36 era ++ [46]) := ⟨_, rfl⟩
  obtain ⟨s3, hs3⟩ : ∃ s3, s3 = str ([119, 46] ++ b36 era ++ [46] ++ b36 first) := ⟨_, rfl⟩
  obtain ⟨s4, hs4⟩ : ∃ s4, s4 = str ([119, 46] ++ b36 era ++ [46] ++ b36 first ++ [46, 98]) := ⟨_, rfl⟩
  have c1 : ∀ w', (Op.stringOp .add { data := #[119, 46] } e1).run Tryz.prog w' = .ok (.string s1) w' := fun w' => by rw [he1, hs1]; exact run_cat w' [119, 46] (b36 era) (by simp; omega)
  have c2 : ∀ w', (Op.stringOp .add s1 { data := #[46] }).run Tryz.prog w' = .ok (.string s2) w' := fun w' => by rw [hs1, hs2]; exact run_cat w' _ [46] (by simp; omega)
  have c3 : ∀ w', (Op.stringOp .add s2 f1).run Tryz.prog w' = .ok (.string s3) w' := fun w' => by rw [hs2, hf1, hs3]; exact run_cat w' _ _ (by simp; omega)
  have c4 : ∀ w', (Op.stringOp .add s3 { data := #[46, 98] }).run Tryz.prog w' = .ok (.string s4) w' := fun w' => by rw [hs3, hs4]; exact run_cat w' _ [46, 98] (by simp; omega)
  rw [← he1] at HE
  rw [← hf1] at HF
  obtain ⟨X, hX⟩ : ∃ X, X = str x := ⟨_, rfl⟩
  have HXS := Lib.hid (show X = if base then s4 else s3 by rw [hX, HNM.out, hs3, hs4]; cases base <;> simp)
  rw [← hX]
  clear he1 hf1 hs1 hs2 hs3 hs4 hX HNM hle hlf
  go_enter Tryz.func24, Tryz.ntmps24
  go_upto_region 1 with fail
  rw [← HW1.out]
  clear hw1 HW1
  go_region_held3 (fun w' => w'.cell? ⟨w.heap.size, 0, none⟩ = some (.int .u64 (era : Nat)) ∧ w'.cell? ⟨w.heap.size, 1, none⟩ = some (.int .u64 (first : Nat)) ∧ w'.cell? ⟨w.heap.size, 2, none⟩ = some (.bool base))
    (first
      | with_reducible assumption
      | exact HALL.out _ (Below.refl _ _)
      | exact HALL.out _ (Below.refl _ _).drew
      | exact HALL.out _ HB2.out
      | exact HALL.out _ HB4.out)
    (first
      | (go_at_call 46; refine (HE.out _).mono ?_; rintro e w2 ⟨rfl, hb2⟩
         have HB2 := Lib.hid (show Below w1.heap.size w1 w2 from By.ext (Below.refl _ _).drew hb2)
         clear hb2)
      | (go_at_call 46; refine (HF.out _).mono ?_; rintro e w3 ⟨rfl, hb3⟩
         have HB4 := Lib.hid (By.ext HB2.out hb3)
         clear hb3))
  cases base with
  | true =>
    go_wp2
    go_ret
    exact ⟨by rw [HXS.out]; rfl, By.ext HB1.out HB4.out⟩
  | false =>
    go_wp2
    go_ret
    exact ⟨by rw [HXS.out]; rfl, By.ext HB1.out HB4.out⟩
end Go.Proofs.YtnjifhbooikdbaaGreatDoor.Wa
