/- Both Adds, both Cuts, side by side; SnapCuts' walk. -/
import Derived.Test.YtjafgkehkigclaaSnH
namespace Go.Proofs.Ytjafgkehkigclaa.Sn
open Go.RowKit By

theorem radd_any (r B : Nat) (j : J7) (p : P7) (A : Option Addr) (c : Nat) (w : World) (hj : RJAt w r B j) (hjl : j.d.length ≤ 32768) (hA : Lies w r A p.d) :
    Calls Try.prog 14 #[.pointer (some ⟨r, 0, none⟩), .agg (rC p A c)] w (RAddPost r B (addR j p) w) := by
  by_cases hb : p.i = 0 ∨ p.o < 0 ∨ 256 < p.d.length
  · exact radd_bad r B j p A c w hj hb
  · obtain ⟨i, t, o, last, x⟩ := p
    dsimp only at hb hA ⊢
    obtain ⟨k, rfl⟩ : ∃ k : Nat, o = k := ⟨o.toNat, by omega⟩
    by_cases hg : (hasD j i t).length < k
    · rw [show addR j ⟨i, t, (k : Int), last, x⟩ = ⟨j, 0, [], false, 12⟩ by unfold addR; rw [if_neg hb, if_pos (by dsimp only; omega)]]
      exact radd_gap r B j i t k last x A c w hj (by omega) (by omega) hg
    · refine radd_ok r B j i t k last x A c w hj (by omega) (by omega) hg hjl hA _ ?_
      unfold addR
      rw [if_neg hb, if_neg (by dsimp only; omega)]
      rfl
theorem cut_both (l : Bs) (i t : Nat) (k : Int) : ∃ (p : P7) (er : Int),
    (∀ (A : Option Addr) (n c : Nat) (w : World), n = l.length → n ≤ c → n ≤ 140737488355328 → Lies w w.heap.size A l → Calls Try.prog 8 #[.int .u64 (i : Nat), .int .u64 (t : Nat), .slice A n c, .int .i64 k] w (CutPost p er w)) ∧
    (∀ (A : Option Addr) (n c : Nat) (w : World), n = l.length → n ≤ 140737488355328 → Lies w w.heap.size A l → Calls Try.prog 9 #[.int .u64 (i : Nat), .int .u64 (t : Nat), .slice A n c, .int .i64 k] w (CutPost p er w)) := by
  by_cases h : k < 0 ∨ (l.length : Int) < k
  · exact ⟨zeroP, 1, fun A n c w hn _ _ _ => cut_out i t A n c k w (by omega), fun A n c w hn _ _ => rcut_out i t A n c k w (by omega)⟩
  · obtain ⟨k, rfl⟩ : ∃ j : Nat, k = j := ⟨k.toNat, by omega⟩
    exact ⟨_, _, fun A n c w hn hc hm hr => cut_in i t A n c k l w hn hc (by omega) hm hr, fun A n c w hn hm hr => rcut_in i t A n c k l w hn (by omega) hm hr⟩
theorem strEq (l : Bs) : ((str l).toList == (str l).toList) = true := by rw [str_toList]; simp
theorem snoc_own (w : World) (base : Nat) (hb : base ≤ w.heap.size) : Own base (w.alloc (.cells #[] 5)) (.slice (some ⟨w.heap.size, 0, none⟩) 0 0) [] := Own.made w base #[] 0 hb (by decide) rfl
set_option maxRecDepth 100000 in
set_option maxHeartbeats 3200000 in
theorem snapCuts_any (I T : Int) (A : Option Addr) (n c : Nat) (l : Bs) (k : Int) (w : World) (hI : 0 ≤ I) (hT : 0 ≤ T) (hn : n = l.length) (hm : n ≤ 140737488351232) (hr : Lies w w.heap.size A l) :
    Calls Try.prog 3 #[.int .u64 I, .int .u64 T, .slice A n c, .int .i64 k] w (True_ w) := by
  obtain ⟨i, rfl⟩ := Int.eq_ofNat_of_zero_le hI
  obtain ⟨t, rfl⟩ := Int.eq_ofNat_of_zero_le hT
  obtain ⟨p, er, h1, h2⟩ := cut_both l i t k
  have H1 := Lib.hid h1
  have H2 := Lib.hid h2
  have HN := Lib.hid hn
  have HM := Lib.hid hm
  have HR := Lib.hid hr
  clear h1 h2 hn hm hr hI hT
  go_enter Try.func3, Try.ntmps3
  go_wp2_with (at_builtin; refine wpList_app rfl (.tmp 16) (.tmp 17) rfl rfl (snoc_own w w.heap.size (Nat.le_refl _)) rfl HN.out (HR.out.alloc (Nat.le_refl _) _) (by have := HM.out; have := HN.out; simp; omega) (by simp) ?_
               intro v1 w1 ho1 hb1 hg1
               rw [List.nil_append] at ho1
               obtain ⟨A1, c1, hv1, hc1, hm1, -, hl1, -⟩ := ho1.form
               rw [← HN.out] at hv1
               subst hv1
               have HB1 := Lib.hid (show Below w.heap.size w w1 from (nAlloc (Below.refl _ _) (Nat.le_refl _) _).trans hb1)
               have HC := Lib.hid (H1.out A1 n c1 w1 HN.out (by rw [HN.out]; exact hc1) (by have := HM.out; omega) hl1)
               clear ho1 hb1 hg1 hc1 hm1 hl1)
  refine HC.out.mono ?_
  rintro e w2 ⟨A2, c2, rfl, ho2, hb2⟩
  obtain ⟨pi, pt, po, pl, pd⟩ := p
  dsimp only [pC] at ho2 ⊢
  obtain ⟨A2', c2', hv2, -, -, -, hl2, -⟩ := ho2.form
  obtain ⟨rfl, rfl⟩ : A2 = A2' ∧ c2 = c2' := by injection hv2 with e1 e2 e3; exact ⟨e1, e3⟩
  obtain ⟨w3, hw3⟩ : ∃ w3, w3 = w2.alloc (.cells #[.int .u64 (pi : Nat), .int .u64 (pt : Nat), .int .i64 po, .bool pl, .slice A2 pd.length c2] tP) := ⟨_, rfl⟩
  have HB3 := Lib.hid (show Below w.heap.size w w3 by rw [hw3]; exact nAlloc (By.ext HB1.out hb2) (Nat.le_refl _) _)
  have HP3 := Lib.hid (show w3.heap[w2.heap.size]? = some (.cells #[.int .u64 (pi : Nat), .int .u64 (pt : Nat), .int .i64 po, .bool pl, .slice A2 pd.length c2] tP (0, 0)) by rw [hw3]; exact heap_alloc_new w2 _)
  have HL3 := Lib.hid (show Lies w3 w3.heap.size A2 pd by rw [hw3]; exact (hl2.alloc (Nat.le_refl _) _).more (by rw [World.size_alloc]; omega))
  have HC2 := Lib.hid (H2.out A n c w3 HN.out (by have := HM.out; omega) (lext HR.out HB3.out))
  have HW3 := Lib.hid hw3
  clear ho2 hb2 hv2 hl2 hw3 HC HB1
  go_upto_region 2 with fail
  rw [← HW3.out]
  go_wp2_with fail
  refine HC2.out.mono ?_
  rintro e w4 ⟨A4, c4, rfl, ho4, hb4⟩
  dsimp only [pC] at ho4 ⊢
  obtain ⟨A4', c4', hv4, -, -, -, hl4, -⟩ := ho4.form
  obtain ⟨rfl, rfl⟩ : A4 = A4' ∧ c4 = c4' := by injection hv4 with e1 e2 e3; exact ⟨e1, e3⟩
  obtain ⟨w5, hw5⟩ : ∃ w5, w5 = w4.alloc (.cells #[.int .u64 (pi : Nat), .int .u64 (pt : Nat), .int .i64 po, .bool pl, .slice A4 pd.length c4] tR) := ⟨_, rfl⟩
  have hb35 : Below w3.heap.size w3 w5 := by rw [hw5]; exact nAlloc hb4 (Nat.le_refl _) _
  have HB5 := Lib.hid (By.ext HB3.out hb35)
  have HP5 := Lib.hid (((hb35.block _ (row_lt HP3.out))).trans HP3.out)
  have HL5 := Lib.hid (lext HL3.out hb35)
  have HR5 := Lib.hid (show w5.heap[w4.heap.size]? = some (.cells #[.int .u64 (pi : Nat), .int .u64 (pt : Nat), .int .i64 po, .bool pl, .slice A4 pd.length c4] tR (0, 0)) by rw [hw5]; exact heap_alloc_new w4 _)
  have HM5 := Lib.hid (show Lies w5 w5.heap.size A4 pd by rw [hw5]; exact (hl4.alloc (Nat.le_refl _) _).more (by rw [World.size_alloc]; omega))
  have HW5 := Lib.hid hw5
  clear ho4 hb4 hv4 hl4 hw5 hb35 HC2
  go_upto_region 3 with fail
  rw [← HW5.out]
  go_wp2_with fail
  refine (answers_any w5).mono ?_
  rintro e w6 ⟨rfl, hb6⟩
  have HB6 := Lib.hid (By.ext HB5.out hb6)
  obtain ⟨a0, a1, a2, a3, a4⟩ := pcells (((hb6.block _ (row_lt HP5.out))).trans HP5.out)
  obtain ⟨b0, b1, b2, b3, b4⟩ := rcells (((hb6.block _ (row_lt HR5.out))).trans HR5.out)
  have t1 := run_text w6 c2 rfl (lext HL5.out hb6)
  have t2 := run_text w6 c4 rfl (lext HM5.out hb6)
  have hq := strEq pd
  clear hb6
  go_wp2
  go_ret
  exact ⟨rfl, HB6.out⟩
end Go.Proofs.Ytjafgkehkigclaa.Sn
