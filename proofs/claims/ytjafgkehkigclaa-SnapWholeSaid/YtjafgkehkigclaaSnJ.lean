/- SnapNewer's walk. -/
import Derived.Test.YtjafgkehkigclaaSnI
namespace Go.Proofs.Ytjafgkehkigclaa.Sn
open Go.RowKit By

theorem addR_new (j : J7) (i t : Nat) (x : Bs) (hi : i ≠ 0) (hx : x.length ≤ 256) (hne : ¬ (j.i = i ∧ j.t = t)) : addR j ⟨i, t, 0, false, x⟩ = ⟨⟨i, t, x⟩, x.length, [], false, 0⟩ := by
  have hh : hasD j i t = [] := if_neg hne
  have hl : laidD [] 0 false x = x := by
    unfold laidD
    split
    · rename_i h
      have h1 := h.1
      simp only [List.length_nil, Nat.zero_add, Nat.le_zero_eq] at h1
      exact (List.length_eq_zero_iff.1 h1).symm
    · rfl
  unfold addR
  dsimp only
  rw [if_neg (by omega), hh, if_neg (by simp)]
  rw [show (0 : Int).toNat = 0 from rfl, hl, if_neg (by omega)]
  rfl
theorem addR_gap (j : J7) (i t : Nat) (l : Bool) (x : Bs) (hi : i ≠ 0) (hx : x.length ≤ 256) (hne : ¬ (j.i = i ∧ j.t = t)) : addR j ⟨i, t, 1, l, x⟩ = ⟨j, 0, [], false, 12⟩ := by
  have hh : hasD j i t = [] := if_neg hne
  unfold addR
  dsimp only
  rw [if_neg (by omega), hh, if_pos (by simp)]
theorem pset {w : World} {g : Nat} {b0 b1 b2 b3 b4 : Value} (hr : w.heap[g]? = some (.cells #[b0, b1, b2, b3, b4] tP (0, 0))) (a3 : Value) : (w.setCell ⟨g, 3, none⟩ a3).heap[g]? = some (.cells #[b0, b1, b2, a3, b4] tP (0, 0)) := Go.heap_setCell_same w _ 3 _ _ a3 hr
theorem pset2 {w : World} {g : Nat} {b0 b1 b2 b3 b4 : Value} (hr : w.heap[g]? = some (.cells #[b0, b1, b2, b3, b4] tP (0, 0))) (a2 : Value) : (w.setCell ⟨g, 2, none⟩ a2).heap[g]? = some (.cells #[b0, b1, a2, b3, b4] tP (0, 0)) := Go.heap_setCell_same w _ 2 _ _ a2 hr
theorem far_set (w : World) {g b : Nat} (h : g ≠ b) (j : Nat) (v : Value) : (w.setCell ⟨b, j, none⟩ v).heap[g]? = w.heap[g]? := Below.heap_setCell w ⟨b, j, none⟩ v g h
theorem own_lies {base : Nat} {w : World} {A : Option Addr} {c : Nat} {l : Bs} (h : Own base w (.slice A l.length c) l) : Lies w w.heap.size A l := by
  obtain ⟨A', c', hv, -, -, -, hl, -⟩ := h.form
  injection hv with e1 e2 e3
  subst e1
  exact hl
set_option maxRecDepth 100000 in
set_option maxHeartbeats 3200000 in
theorem snapNewer_any (A B : Option Addr) (n c m d : Nat) (a b : Bs) (I T O : Int) (w : World) (hI : 0 ≤ I) (hT : 0 ≤ T) (hO : 0 ≤ O) (hn : n = a.length) (hm : m = b.length) (hA : Lies w w.heap.size A a) (hB : Lies w w.heap.size B b) :
    Calls Try.prog 6 #[.slice A n c, .slice B m d, .int .u64 I, .int .u64 T, .int .u64 O] w (True_ w) := by
  obtain ⟨i, rfl⟩ := Int.eq_ofNat_of_zero_le hI
  obtain ⟨t, rfl⟩ := Int.eq_ofNat_of_zero_le hT
  obtain ⟨o, rfl⟩ := Int.eq_ofNat_of_zero_le hO
  have HN := Lib.hid hn
  have HM := Lib.hid hm
  have HA := Lib.hid hA
  have HB := Lib.hid hB
  have HANS := Lib.hid (fun w' => answers_any w')
  clear hn hm hA hB hI hT hO
  go_enter Try.func6, Try.ntmps6
  go_wp2_with fail
  refine (HANS.out _).mono ?_
  rintro e w1 ⟨rfl, hb1⟩
  have HB1 := Lib.hid hb1
  clear hb1
  by_cases hz : i = 0
  · have q0 : ((i : Int) == 0) = true := beq_iff_eq.2 (by omega)
    clear hz
    go_wp2_with fail
    refine (HANS.out _).mono ?_
    rintro e w2 ⟨rfl, hb2⟩
    have HB2 := Lib.hid (By.ext HB1.out hb2)
    clear hb2
    go_wp2
    go_ret
    exact ⟨rfl, HB2.out⟩
  have q0 : ((i : Int) == 0) = false := beq_eq_false_iff_ne.2 (by omega)
  have HZ0 := Lib.hid hz
  clear hz
  by_cases hz : o = 0
  · have q1 : ((o : Int) == 0) = true := beq_iff_eq.2 (by omega)
    clear hz
    go_wp2_with fail
    refine (HANS.out _).mono ?_
    rintro e w2 ⟨rfl, hb2⟩
    have HB2 := Lib.hid (By.ext HB1.out hb2)
    clear hb2
    go_wp2
    go_ret
    exact ⟨rfl, HB2.out⟩
  have q1 : ((o : Int) == 0) = false := beq_eq_false_iff_ne.2 (by omega)
  have HZ1 := Lib.hid hz
  clear hz
  by_cases hz : i = o
  · have q2 : ((i : Int) == (o : Int)) = true := beq_iff_eq.2 (by omega)
    clear hz
    go_wp2_with fail
    refine (HANS.out _).mono ?_
    rintro e w2 ⟨rfl, hb2⟩
    have HB2 := Lib.hid (By.ext HB1.out hb2)
    clear hb2
    go_wp2
    go_ret
    exact ⟨rfl, HB2.out⟩
  have q2 : ((i : Int) == (o : Int)) = false := beq_eq_false_iff_ne.2 (by omega)
  have HZ2 := Lib.hid hz
  clear hz
  by_cases hz : 30000 < n
  · have q3 : (30000 : Int) < (n : Int) := by omega
    clear hz
    go_wp2_with fail
    refine (HANS.out _).mono ?_
    rintro e w2 ⟨rfl, hb2⟩
    have HB2 := Lib.hid (By.ext HB1.out hb2)
    clear hb2
    go_wp2
    go_ret
    exact ⟨rfl, HB2.out⟩
  have q3 : ¬ ((30000 : Int) < (n : Int)) := by omega
  have HZ3 := Lib.hid hz
  clear hz
  by_cases hz : 30000 < m
  · have q4 : (30000 : Int) < (m : Int) := by omega
    clear hz
    go_wp2_with fail
    refine (HANS.out _).mono ?_
    rintro e w2 ⟨rfl, hb2⟩
    have HB2 := Lib.hid (By.ext HB1.out hb2)
    clear hb2
    go_wp2
    go_ret
    exact ⟨rfl, HB2.out⟩
  have q4 : ¬ ((30000 : Int) < (m : Int)) := by omega
  have HZ4 := Lib.hid hz
  clear hz
  go_wp2_with fail
  refine (new_any w1).mono ?_
  rintro e w2 ⟨rfl, hj2, hb2, hz2⟩
  obtain ⟨g, hg⟩ : ∃ g, g = w1.heap.size := ⟨_, rfl⟩
  rw [← hg] at hj2 ⊢
  have HB2 := Lib.hid (By.ext HB1.out hb2)
  have HJ2 := Lib.hid hj2
  have HG := Lib.hid (show w.heap.size ≤ g by rw [hg]; exact HB1.out.size)
  clear hg hj2 hb2 hz2
  go_wp2_with (at_builtin; refine wpList_app rfl (.tmp 64) (.tmp 65) rfl rfl (snoc_own w2 w2.heap.size (Nat.le_refl _)) rfl HN.out ((lext HA.out HB2.out).alloc (Nat.le_refl _) _) (by have := HN.out; have := HZ3.out; simp; omega) (by simp) ?_
               intro v1 wa ho1 hb1 hg1
               rw [List.nil_append] at ho1
               obtain ⟨A1, c1, hv1, hc1, hm1, -, hl1, -⟩ := ho1.form
               rw [← HN.out] at hv1
               subst hv1
               have HBa := Lib.hid (show Below w2.heap.size w2 wa from (nAlloc (Below.refl _ _) (Nat.le_refl _) _).trans hb1)
               have HC := Lib.hid (show Calls Try.prog 8 #[.int .u64 (i : Nat), .int .u64 (t : Nat), .slice A1 n c1, .int .i64 0] wa (CutPost (cutP a i t 0) 0 wa) from cut_in i t A1 n c1 0 a wa HN.out (by rw [HN.out]; exact hc1) (Nat.zero_le _) (by have := HZ3.out; omega) hl1)
               clear ho1 hb1 hg1 hc1 hm1 hl1)
  refine HC.out.mono ?_
  rintro e wb ⟨A2, c2, rfl, ho2, hb2⟩
  obtain ⟨pd, hpd⟩ : ∃ x, x = (a.drop 0).take 256 := ⟨_, rfl⟩
  obtain ⟨pl, hpl⟩ : ∃ x, x = decide (a.length ≤ 0 + 256) := ⟨_, rfl⟩
  have hcp : cutP a i t 0 = ⟨i, t, 0, pl, pd⟩ := by unfold cutP; rw [hpd, hpl]; rfl
  have hpx : pd.length ≤ 256 := by rw [hpd, List.length_take]; omega
  rw [hcp] at ho2 ⊢
  dsimp only [pC] at ho2 ⊢
  obtain ⟨pA, pc, hv2, -, -, -, hl2, -⟩ := ho2.form
  obtain ⟨rfl, rfl⟩ : A2 = pA ∧ c2 = pc := by injection hv2 with e1 e2 e3; exact ⟨e1, e3⟩
  obtain ⟨w3, hwn⟩ : ∃ x, x = wb.alloc (.cells #[.int .u64 (i : Nat), .int .u64 (t : Nat), .int .i64 0, .bool pl, .slice A2 pd.length c2] tP) := ⟨_, rfl⟩
  have hbn : Below w2.heap.size w2 w3 := by rw [hwn]; exact nAlloc (By.ext HBa.out hb2) (Nat.le_refl _) _
  have HPR0 := Lib.hid (show w3.heap[wb.heap.size]? = some (.cells #[.int .u64 (i : Nat), .int .u64 (t : Nat), .int .i64 0, .bool pl, .slice A2 pd.length c2] tP (0, 0)) by rw [hwn]; exact heap_alloc_new wb _)
  have HPL0 := Lib.hid (show Lies w3 wb.heap.size A2 pd by rw [hwn]; exact hl2.alloc (Nat.le_refl _) _)
  have HpX := Lib.hid hpx
  have HpB := Lib.hid (fun (b : Nat) (hb : (Value.slice A2 pd.length c2).ownBlock = some b) => (ownsRow_lt ho2 hb).2)
  have HpK := Lib.hid (fun (w' : World) (h : ∀ b, b < wb.heap.size → w'.heap[b]? = w3.heap[b]?) => show Own w2.heap.size w' (.slice A2 pd.length c2) pd from own_more (ownsRow_keep ho2 (fun b hb => (h b (ownsRow_lt ho2 hb).2).trans (by rw [hwn]; exact heap_alloc_old wb _ (ownsRow_lt ho2 hb).2))) HBa.out.size)
  have HGB0 := Lib.hid (show w2.heap.size ≤ wb.heap.size from (By.ext HBa.out hb2).size)
  obtain ⟨pb, hpb⟩ : ∃ x, x = wb.heap.size := ⟨_, rfl⟩
  rw [← hpb] at HPR0 HPL0 HGB0
  have HWN := Lib.hid hwn
  have HpR := Lib.hid HPR0.out
  have HpL := Lib.hid HPL0.out
  have HpG := Lib.hid HGB0.out
  have Hw3 := Lib.hid (By.ext HB2.out hbn)
  have HJw3 := Lib.hid (HJ2.out.below hbn)
  clear ho2 hb2 hv2 hl2 hwn hpd hpl hcp hpx hbn HC HBa HPR0 HPL0 HGB0
  go_upto_region 5 with fail
  rw [← HWN.out, ← hpb]
  rw [← hpb] at HpK HpB
  clear HWN hpb
  obtain ⟨x0, x1, x2, x3, x4⟩ := pcells HpR.out
  have fx : ∀ q, w3.frozen? ⟨pb, q, none⟩ = false := fun q => frozen_of_row w3 _ q _ _ HpR.out
  obtain ⟨w4, hw4⟩ : ∃ x, x = w3.setCell ⟨pb, 3, none⟩ (.bool false) := ⟨_, rfl⟩
  have HR4 := Lib.hid (show w4.heap[pb]? = some (.cells #[.int .u64 (i : Nat), .int .u64 (t : Nat), .int .i64 0, .bool false, .slice A2 pd.length c2] tP (0, 0)) by rw [hw4]; exact pset HpR.out _)
  have hgp : g ≠ pb := by have := HJ2.out.lt; have := HpG.out; omega
  have HJ4 := Lib.hid (show JAt w4 g ⟨0, 0, []⟩ by rw [hw4]; exact HJw3.out.keep (far_set w3 hgp 3 _))
  have hz4 : w4.heap.size = w3.heap.size := by rw [hw4, size_set]
  have HL4 := Lib.hid (show Lies w4 w4.heap.size A2 pd by
    rw [hz4, hw4]; exact (HpL.out.setCell (Nat.le_refl _) _).more (Nat.le_of_lt (row_lt HpR.out)))
  have HBw4 := Lib.hid (show Below w.heap.size w w4 by rw [hw4]; exact Hw3.out.setCell (p := ⟨pb, 3, none⟩) (Nat.le_trans HB2.out.size HpG.out) _)
  have HW4 := Lib.hid hw4
  clear hgp hz4 hw4
  go_upto_region 6 with fail
  rw [← HW4.out]
  clear x0 x1 x2 x3 x4 fx HW4
  obtain ⟨x0, x1, x2, x3, x4⟩ := pcells HR4.out
  have HADD := Lib.hid (show Calls Try.prog 12 #[.pointer (some ⟨g, 0, none⟩), .agg #[.int .u64 (i : Nat), .int .u64 (t : Nat), .int .i64 0, .bool false, .slice A2 pd.length c2]] w4 (AddPost g ⟨⟨i, t, pd⟩, pd.length, [], false, 0⟩ w4) by
    have h := add_any g ⟨0, 0, []⟩ ⟨i, t, 0, false, pd⟩ A2 c2 w4 HJ4.out (Nat.zero_le _) HL4.out
    rw [addR_new _ i t pd HZ0.out HpX.out (fun h => HZ0.out h.1.symm)] at h
    exact h)
  go_wp2_with fail
  refine HADD.out.mono ?_
  rintro e w5 ⟨A5, c5, rfl, hl5, hj5, hk5⟩
  dsimp only at hj5 ⊢
  have HJ5 := Lib.hid hj5
  have HB5 := Lib.hid (HBw4.out.trans (hk5.below HBw4.out.size (fun b hb => by rw [hb]; exact HG.out)))
  clear hl5 hj5 hk5 HADD x0 x1 x2 x3 x4
  go_upto_region 7 with fail
  go_wp2_with (at_builtin; refine wpList_app rfl (.tmp 82) (.tmp 83) rfl rfl (snoc_own w5 w5.heap.size (Nat.le_refl _)) rfl HM.out ((lext HB.out HB5.out).alloc (Nat.le_refl _) _) (by have := HM.out; have := HZ4.out; simp; omega) (by simp) ?_
               intro v1 wa ho1 hb1 hg1
               rw [List.nil_append] at ho1
               obtain ⟨A1, c1, hv1, hc1, hm1, -, hl1, -⟩ := ho1.form
               rw [← HM.out] at hv1
               subst hv1
               have HBa := Lib.hid (show Below w5.heap.size w5 wa from (nAlloc (Below.refl _ _) (Nat.le_refl _) _).trans hb1)
               have HC := Lib.hid (show Calls Try.prog 8 #[.int .u64 (o : Nat), .int .u64 (t : Nat), .slice A1 m c1, .int .i64 0] wa (CutPost (cutP b o t 0) 0 wa) from cut_in o t A1 m c1 0 b wa HM.out (by rw [HM.out]; exact hc1) (Nat.zero_le _) (by have := HZ4.out; omega) hl1)
               clear ho1 hb1 hg1 hc1 hm1 hl1)
  refine HC.out.mono ?_
  rintro e wb ⟨A2, c2, rfl, ho2, hb2⟩
  obtain ⟨qd, hpd⟩ : ∃ x, x = (b.drop 0).take 256 := ⟨_, rfl⟩
  obtain ⟨ql, hpl⟩ : ∃ x, x = decide (b.length ≤ 0 + 256) := ⟨_, rfl⟩
  have hcp : cutP b o t 0 = ⟨o, t, 0, ql, qd⟩ := by unfold cutP; rw [hpd, hpl]; rfl
  have hpx : qd.length ≤ 256 := by rw [hpd, List.length_take]; omega
  rw [hcp] at ho2 ⊢
  dsimp only [pC] at ho2 ⊢
  obtain ⟨qA, qc, hv2, -, -, -, hl2, -⟩ := ho2.form
  obtain ⟨rfl, rfl⟩ : A2 = qA ∧ c2 = qc := by injection hv2 with e1 e2 e3; exact ⟨e1, e3⟩
  obtain ⟨w6, hwn⟩ : ∃ x, x = wb.alloc (.cells #[.int .u64 (o : Nat), .int .u64 (t : Nat), .int .i64 0, .bool ql, .slice A2 qd.length c2] tP) := ⟨_, rfl⟩
  have hbn : Below w5.heap.size w5 w6 := by rw [hwn]; exact nAlloc (By.ext HBa.out hb2) (Nat.le_refl _) _
  have HPR0 := Lib.hid (show w6.heap[wb.heap.size]? = some (.cells #[.int .u64 (o : Nat), .int .u64 (t : Nat), .int .i64 0, .bool ql, .slice A2 qd.length c2] tP (0, 0)) by rw [hwn]; exact heap_alloc_new wb _)
  have HPL0 := Lib.hid (show Lies w6 wb.heap.size A2 qd by rw [hwn]; exact hl2.alloc (Nat.le_refl _) _)
  have HqX := Lib.hid hpx
  have HqB := Lib.hid (fun (b : Nat) (hb : (Value.slice A2 qd.length c2).ownBlock = some b) => (ownsRow_lt ho2 hb).2)
  have HqK := Lib.hid (fun (w' : World) (h : ∀ b, b < wb.heap.size → w'.heap[b]? = w6.heap[b]?) => show Own w5.heap.size w' (.slice A2 qd.length c2) qd from own_more (ownsRow_keep ho2 (fun b hb => (h b (ownsRow_lt ho2 hb).2).trans (by rw [hwn]; exact heap_alloc_old wb _ (ownsRow_lt ho2 hb).2))) HBa.out.size)
  have HGB0 := Lib.hid (show w5.heap.size ≤ wb.heap.size from (By.ext HBa.out hb2).size)
  obtain ⟨qb, hpb⟩ : ∃ x, x = wb.heap.size := ⟨_, rfl⟩
  rw [← hpb] at HPR0 HPL0 HGB0
  have HWN := Lib.hid hwn
  have HqR := Lib.hid HPR0.out
  have HqL := Lib.hid HPL0.out
  have HqG := Lib.hid HGB0.out
  have Hw6 := Lib.hid (By.ext HB5.out hbn)
  have HJw6 := Lib.hid (HJ5.out.below hbn)
  clear ho2 hb2 hv2 hl2 hwn hpd hpl hcp hpx hbn HC HBa HPR0 HPL0 HGB0
  go_upto_region 8 with fail
  rw [← HWN.out, ← hpb]
  rw [← hpb] at HqK HqB
  clear HWN hpb
  obtain ⟨x0, x1, x2, x3, x4⟩ := pcells HqR.out
  have fx : ∀ q, w6.frozen? ⟨qb, q, none⟩ = false := fun q => frozen_of_row w6 _ q _ _ HqR.out
  obtain ⟨w7, hw7⟩ : ∃ x, x = w6.setCell ⟨qb, 2, none⟩ (.int .i64 1) := ⟨_, rfl⟩
  have HR7 := Lib.hid (show w7.heap[qb]? = some (.cells #[.int .u64 (o : Nat), .int .u64 (t : Nat), .int .i64 1, .bool ql, .slice A2 qd.length c2] tP (0, 0)) by rw [hw7]; exact pset2 HqR.out _)
  have hgp : g ≠ qb := by have := HJ5.out.lt; have := HqG.out; omega
  have HGQ := Lib.hid hgp
  have HJ7 := Lib.hid (show JAt w7 g ⟨i, t, pd⟩ by rw [hw7]; exact HJw6.out.keep (far_set w6 hgp 2 _))
  have hz7 : w7.heap.size = w6.heap.size := by rw [hw7, size_set]
  have HLq := Lib.hid (show Lies w7 qb A2 qd by rw [hw7]; exact HqL.out.setCell (Nat.le_refl _) _)
  have HBw7 := Lib.hid (show Below w.heap.size w w7 by rw [hw7]; exact Hw6.out.setCell (p := ⟨qb, 2, none⟩) (Nat.le_trans HB5.out.size HqG.out) _)
  have HO7 := Lib.hid (HqK.out w7 (fun b hb => by rw [hw7]; exact far_set w6 (Nat.ne_of_lt hb) 2 _))
  have HG5 := Lib.hid HJ5.out.lt
  have HW7 := Lib.hid hw7
  clear hgp hz7 hw7
  go_upto_region 9 with fail
  rw [← HW7.out]
  clear x0 x1 x2 x3 x4 fx HW7
  obtain ⟨x0, x1, x2, x3, x4⟩ := pcells HR7.out
  have HADD := Lib.hid (show Calls Try.prog 12 #[.pointer (some ⟨g, 0, none⟩), .agg #[.int .u64 (o : Nat), .int .u64 (t : Nat), .int .i64 1, .bool ql, .slice A2 qd.length c2]] w7 (AddPost g ⟨⟨i, t, pd⟩, 0, [], false, 12⟩ w7) by
    have h := add_any g ⟨i, t, pd⟩ ⟨o, t, 1, ql, qd⟩ A2 c2 w7 HJ7.out (Nat.le_trans HpX.out (by omega)) (HLq.out.more (Nat.le_of_lt (row_lt HR7.out)))
    rw [addR_gap _ o t ql qd HZ1.out HqX.out (fun h => HZ2.out h.1)] at h
    exact h)
  go_wp2_with fail
  refine HADD.out.mono ?_
  rintro e w8 ⟨A8, c8, rfl, hl8, hj8, hk8⟩
  dsimp only at hj8 ⊢
  have HJ8 := Lib.hid hj8
  have HB8 := Lib.hid (HBw7.out.trans (hk8.below HBw7.out.size (fun b hb => by rw [hb]; exact HG.out)))
  have HR8 := Lib.hid ((hk8.block _ (row_lt HR7.out) (fun e => HGQ.out e.symm)).trans HR7.out)
  have HO8 := Lib.hid (show Own w5.heap.size w8 (.slice A2 qd.length c2) qd from ownsRow_keep HO7.out (fun b hb => hk8.block b (ownsRow_lt HO7.out hb).2 (fun e => by have := (ownsRow_lt HO7.out hb).1; have := HG5.out; have e : b = g := e; omega)))
  clear hl8 hj8 hk8 HADD x0 x1 x2 x3 x4
  go_wp2_with fail
  refine (have_any g ⟨i, t, pd⟩ w8 HJ8.out).mono ?_
  rintro e w9 ⟨rfl, hb9⟩
  dsimp only
  have HJ9 := Lib.hid (HJ8.out.below hb9)
  have HB9 := Lib.hid (By.ext HB8.out hb9)
  have HR9 := Lib.hid ((hb9.block _ (row_lt HR8.out)).trans HR8.out)
  have HO9 := Lib.hid (HO8.out.kept hb9 (Nat.le_refl _))
  clear hb9
  go_upto_region 13 with fail
  obtain ⟨x0, x1, x2, x3, x4⟩ := pcells HR9.out
  have fx : ∀ q, w9.frozen? ⟨qb, q, none⟩ = false := fun q => frozen_of_row w9 _ q _ _ HR9.out
  obtain ⟨wx, hwx⟩ : ∃ x, x = (w9.setCell ⟨qb, 2, none⟩ (.int .i64 0)).setCell ⟨qb, 3, none⟩ (.bool false) := ⟨_, rfl⟩
  have HRx := Lib.hid (show wx.heap[qb]? = some (.cells #[.int .u64 (o : Nat), .int .u64 (t : Nat), .int .i64 0, .bool false, .slice A2 qd.length c2] tP (0, 0)) by rw [hwx]; exact pset (pset2 HR9.out _) _)
  have HJx := Lib.hid (show JAt wx g ⟨i, t, pd⟩ by rw [hwx]; exact HJ9.out.keep ((far_set _ HGQ.out 3 _).trans (far_set w9 HGQ.out 2 _)))
  have HOx := Lib.hid (show Own w5.heap.size wx (.slice A2 qd.length c2) qd from ownsRow_keep HO9.out (fun b hb => by
    rw [hwx]
    have hne := Nat.ne_of_lt (HqB.out b hb)
    exact (far_set _ hne 3 _).trans (far_set w9 hne 2 _)))
  have HBx := Lib.hid (show Below w.heap.size w wx by rw [hwx]; exact (HB9.out.setCell (p := ⟨qb, 2, none⟩) (Nat.le_trans HB5.out.size HqG.out) _).setCell (p := ⟨qb, 3, none⟩) (Nat.le_trans HB5.out.size HqG.out) _)
  have HWx := Lib.hid hwx
  clear hwx
  go_upto_region 14 with fail
  rw [← HWx.out]
  clear x0 x1 x2 x3 x4 fx HWx
  obtain ⟨x0, x1, x2, x3, x4⟩ := pcells HRx.out
  have HADD := Lib.hid (show Calls Try.prog 12 #[.pointer (some ⟨g, 0, none⟩), .agg #[.int .u64 (o : Nat), .int .u64 (t : Nat), .int .i64 0, .bool false, .slice A2 qd.length c2]] wx (AddPost g ⟨⟨o, t, qd⟩, qd.length, [], false, 0⟩ wx) by
    have h := add_any g ⟨i, t, pd⟩ ⟨o, t, 0, false, qd⟩ A2 c2 wx HJx.out (Nat.le_trans HpX.out (by omega)) (own_lies HOx.out)
    rw [addR_new _ o t qd HZ1.out HqX.out (fun h => HZ2.out h.1)] at h
    exact h)
  go_wp2_with fail
  refine HADD.out.mono ?_
  rintro e wy ⟨Ay, cy, rfl, hly, hjy, hky⟩
  dsimp only at hjy ⊢
  have HJy := Lib.hid hjy
  have HBy := Lib.hid (HBx.out.trans (hky.below HBx.out.size (fun b hb => by rw [hb]; exact HG.out)))
  have HRy := Lib.hid ((hky.block _ (row_lt HRx.out) (fun e => HGQ.out e.symm)).trans HRx.out)
  clear hly hjy hky HADD x0 x1 x2 x3 x4
  go_wp2_with fail
  refine (have_any g ⟨o, t, qd⟩ wy HJy.out).mono ?_
  rintro e wz ⟨rfl, hbz⟩
  dsimp only
  have HBz := Lib.hid (By.ext HBy.out hbz)
  obtain ⟨x0, x1, x2, x3, x4⟩ := pcells ((hbz.block _ (row_lt HRy.out)).trans HRy.out)
  clear hbz
  go_wp2
  go_ret
  exact ⟨rfl, HBz.out⟩
end Go.Proofs.Ytjafgkehkigclaa.Sn
