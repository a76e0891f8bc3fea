/- The law's act, kinds 4 and 5, as a contract of a call. -/
import Derived.Test.YtenaecpmmbigdaaPoO
import Derived.BigQuiet
import Derived.RegionTactic
namespace Go.Proofs.Ytenaecpmmbigdaa.Po
open Go.RowKit Go.Maps By Mp

theorem own_sameP (w : World) : (w.alloc (.cells #[] tPair)).ownsRow w.heap.size tPair 2 (.slice (some ⟨w.heap.size, 0, none⟩) 0 0) 0 [] :=
  ⟨by simp, .inr ⟨w.heap.size, 0, #[], rfl, Nat.le_refl _, heap_alloc_new w _, Nat.le_refl _, by decide, by simp, by simp⟩⟩
set_option maxRecDepth 100000 in
set_option maxHeartbeats 4000000 in
theorem act_4_bad (g r : Nat) (p q : P8) (S T : Nat → Prop) (M : Nat) (a b : Int) (hns : ¬ Sound8 a b) (A : Option Addr) (n c : Nat) (d : Bs) (w : World) (h : Two w g r p q S T) (hn : n = d.length) (hd : d.length ≤ 1048576) (hA : Lies w M A d) (hM : M ≤ w.heap.size) (hS : ∀ b, S b → M ≤ b) (hT : ∀ b, T b → M ≤ b) :
    Calls Try.prog 11 #[.pointer (some ⟨g, 0, none⟩), .pointer (some ⟨r, 0, none⟩), .agg #[.int .i64 4, .int .i64 a, .int .i64 b, .slice A n c]] w (BStep (p = q) g r p q S T w) := by
  have HNS := Lib.hid hns
  have HRV := Lib.hid (show cutR p a b = (p, 1) from if_neg hns)
  clear hns
  obtain ⟨w1, hw1⟩ : ∃ w1, w1 = w.alloc (.cells #[.int .i64 4, .int .i64 a, .int .i64 b, .slice A n c] tAct) := ⟨_, rfl⟩
  have hb1 : Below w.heap.size w w1 := by rw [hw1]; exact (Below.refl _ _).alloc (Nat.le_refl _) _
  have hr1 : w1.heap[w.heap.size]? = some (.cells #[.int .i64 4, .int .i64 a, .int .i64 b, .slice A n c] tAct (0, 0)) := by rw [hw1]; exact heap_alloc_new w _
  obtain ⟨c0, c1, c2, c3⟩ := acells hr1
  obtain ⟨ok, hok⟩ : ∃ ok, ok = decide (Sound8 a b) := ⟨_, rfl⟩
  have HH := Lib.hid h
  have HN := Lib.hid hn
  have HD := Lib.hid hd
  have HLA := Lib.hid hA
  have HM := Lib.hid hM
  have HSM := Lib.hid hS
  have HTM := Lib.hid hT
  have HR1 := Lib.hid hr1
  have HB1 := Lib.hid hb1
  have HW1 := Lib.hid hw1
  have HOK := Lib.hid hok
  have HEA := Lib.hid (rEnd_any a w1)
  clear h hn hd hA hM hS hT hr1 hb1 hw1 hok
  go_enter Try.func11, Try.ntmps11
  go_upto_region 1 with fail
  rw [← HW1.out]
  go_cut [7] (fun s wx => s = .bool ok ∧ Below w.heap.size w wx ∧ wx.heap[w.heap.size]? = some (.cells #[.int .i64 4, .int .i64 a, .int .i64 b, .slice A n c] tAct (0, 0)))
  case first =>
    by_cases ha : End8 a
    · rw [decide_eq_true ha] at HEA
      by_cases hb : End8 b
      · by_cases hab : a = b
        · have hq : (a != b) = false := by simp [hab]
          have HOV := Lib.hid (HOK.out.trans (decide_eq_false (fun e : Sound8 a b => e.2.2 hab)))
          clear hab
          go_wp2_with fail
          refine HEA.out.mono ?_
          rintro e w2 ⟨rfl, hb2⟩
          have HR2 := Lib.hid ((hb2.block _ (row_lt HR1.out)).trans HR1.out)
          have HB2 := Lib.hid (By.ext HB1.out hb2)
          obtain ⟨e0, e1, e2, e3⟩ := acells HR2.out
          have HEB := Lib.hid (rEnd_any b w2)
          rw [decide_eq_true hb] at HEB
          clear hb2 HEA
          go_wp2_with fail
          refine HEB.out.mono ?_
          rintro e w3 ⟨rfl, hb3⟩
          have HR3 := Lib.hid ((hb3.block _ (row_lt HR2.out)).trans HR2.out)
          have HB3 := Lib.hid (By.ext HB2.out hb3)
          obtain ⟨f0, f1, f2, f3⟩ := acells HR3.out
          clear hb3 HEB
          go_wp2
          go_meet
          exact ⟨by first | rw [HOV.out, hq] | rw [HOV.out], HB3.out, HR3.out⟩
        · have hq : (a != b) = true := bne_iff_ne.2 hab
          have HOV := Lib.hid (HOK.out.trans (decide_eq_true (show Sound8 a b from ⟨ha, hb, hab⟩)))
          clear hab
          go_wp2_with fail
          refine HEA.out.mono ?_
          rintro e w2 ⟨rfl, hb2⟩
          have HR2 := Lib.hid ((hb2.block _ (row_lt HR1.out)).trans HR1.out)
          have HB2 := Lib.hid (By.ext HB1.out hb2)
          obtain ⟨e0, e1, e2, e3⟩ := acells HR2.out
          have HEB := Lib.hid (rEnd_any b w2)
          rw [decide_eq_true hb] at HEB
          clear hb2 HEA
          go_wp2_with fail
          refine HEB.out.mono ?_
          rintro e w3 ⟨rfl, hb3⟩
          have HR3 := Lib.hid ((hb3.block _ (row_lt HR2.out)).trans HR2.out)
          have HB3 := Lib.hid (By.ext HB2.out hb3)
          obtain ⟨f0, f1, f2, f3⟩ := acells HR3.out
          clear hb3 HEB
          go_wp2
          go_meet
          exact ⟨by first | rw [HOV.out, hq] | rw [HOV.out], HB3.out, HR3.out⟩
      · have HOV := Lib.hid (HOK.out.trans (decide_eq_false (fun e : Sound8 a b => hb e.2.1)))
        go_wp2_with fail
        refine HEA.out.mono ?_
        rintro e w2 ⟨rfl, hb2⟩
        have HR2 := Lib.hid ((hb2.block _ (row_lt HR1.out)).trans HR1.out)
        have HB2 := Lib.hid (By.ext HB1.out hb2)
        obtain ⟨e0, e1, e2, e3⟩ := acells HR2.out
        have HEB := Lib.hid (rEnd_any b w2)
        rw [decide_eq_false hb] at HEB
        clear hb2 HEA
        go_wp2_with fail
        refine HEB.out.mono ?_
        rintro e w3 ⟨rfl, hb3⟩
        have HR3 := Lib.hid ((hb3.block _ (row_lt HR2.out)).trans HR2.out)
        have HB3 := Lib.hid (By.ext HB2.out hb3)
        obtain ⟨f0, f1, f2, f3⟩ := acells HR3.out
        clear hb3 HEB
        go_wp2
        go_meet
        exact ⟨by rw [HOV.out], HB3.out, HR3.out⟩
    · rw [decide_eq_false ha] at HEA
      have HOV := Lib.hid (HOK.out.trans (decide_eq_false (fun e : Sound8 a b => ha e.1)))
      go_wp2_with fail
      refine HEA.out.mono ?_
      rintro e w2 ⟨rfl, hb2⟩
      have HR2 := Lib.hid ((hb2.block _ (row_lt HR1.out)).trans HR1.out)
      have HB2 := Lib.hid (By.ext HB1.out hb2)
      obtain ⟨e0, e1, e2, e3⟩ := acells HR2.out
      clear hb2 HEA
      go_wp2
      go_meet
      exact ⟨by rw [HOV.out], HB2.out, HR2.out⟩
  obtain ⟨rfl, hb2, hx2⟩ := hcut
  obtain ⟨w2, rfl⟩ : ∃ w2, w2 = wc := ⟨_, rfl⟩
  clear c0 c1 c2 c3 HEA
  obtain ⟨c0, c1, c2, c3⟩ := acells hx2
  have HT2 := Lib.hid (HH.out.below hb2)
  have HB2 := Lib.hid hb2
  have HX2 := Lib.hid hx2
  have HZ := Lib.hid (show (∀ b, S b → b < w.heap.size) ∧ (∀ b, T b → b < w.heap.size) from ⟨fun b hb => HH.out.post.lt hb, fun b hb => HH.out.ref.lt hb⟩)
  have HLT := Lib.hid (row_lt hx2)
  clear hb2 hx2
  obtain rfl : ok = false := HOK.out.trans (decide_eq_false HNS.out)
  have HC := Lib.hid (cut_any g p S a b w2 HT2.out.post)
  rw [HRV.out] at HC
  go_wp2_with fail
  refine HC.out.mono ?_
  rintro e w3 ⟨rfl, S3, hp3, hs3, hk3⟩
  have ht3 := HT2.out.step hp3 hs3 hk3
  have hx3 := (hk3.block _ HLT.out (fun e => by have := HZ.out.1 _ e; omega)).trans HX2.out
  obtain ⟨e0, e1, e2, e3⟩ := acells hx3
  have HX3 := Lib.hid hx3
  have HT3 := Lib.hid ht3
  have HS3 := Lib.hid (show ∀ b, S3 b → S b ∨ w.heap.size ≤ b from fun b hb => (hs3 b hb).imp id (fun e => Nat.le_trans HB2.out.size e))
  have HK3 := Lib.hid ((Kept.of_below HB2.out).trans (hk3.mono (M' := fun b => S b ∨ T b) (fun _ _ e => .inl e)))
  clear hp3 hs3 hk3 ht3 hx3 HC c0 c1 c2 c3
  go_wp2
  go_ret
  exact bstep_of (w := w) HT3.out HS3.out (fun b hb => .inl hb) HK3.out (fun _ => rfl)
set_option maxRecDepth 100000 in
set_option maxHeartbeats 4000000 in
theorem act_4_in (g r : Nat) (p q : P8) (S T : Nat → Prop) (M : Nat) (a b : Int) (hso : Sound8 a b) (hin : (a, b) ∈ q.cuts) (A : Option Addr) (n c : Nat) (d : Bs) (w : World) (h : Two w g r p q S T) (hn : n = d.length) (hd : d.length ≤ 1048576) (hA : Lies w M A d) (hM : M ≤ w.heap.size) (hS : ∀ b, S b → M ≤ b) (hT : ∀ b, T b → M ≤ b) :
    Calls Try.prog 11 #[.pointer (some ⟨g, 0, none⟩), .pointer (some ⟨r, 0, none⟩), .agg #[.int .i64 4, .int .i64 a, .int .i64 b, .slice A n c]] w (BStep (p = q) g r (cutP p a b) q S T w) := by
  have HSO := Lib.hid hso
  have HRV := Lib.hid (show cutR p a b = (cutP p a b, 0) from if_pos hso)
  have HIN := Lib.hid hin
  clear hso hin
  obtain ⟨w1, hw1⟩ : ∃ w1, w1 = w.alloc (.cells #[.int .i64 4, .int .i64 a, .int .i64 b, .slice A n c] tAct) := ⟨_, rfl⟩
  have hb1 : Below w.heap.size w w1 := by rw [hw1]; exact (Below.refl _ _).alloc (Nat.le_refl _) _
  have hr1 : w1.heap[w.heap.size]? = some (.cells #[.int .i64 4, .int .i64 a, .int .i64 b, .slice A n c] tAct (0, 0)) := by rw [hw1]; exact heap_alloc_new w _
  obtain ⟨c0, c1, c2, c3⟩ := acells hr1
  obtain ⟨ok, hok⟩ : ∃ ok, ok = decide (Sound8 a b) := ⟨_, rfl⟩
  have HH := Lib.hid h
  have HN := Lib.hid hn
  have HD := Lib.hid hd
  have HLA := Lib.hid hA
  have HM := Lib.hid hM
  have HSM := Lib.hid hS
  have HTM := Lib.hid hT
  have HR1 := Lib.hid hr1
  have HB1 := Lib.hid hb1
  have HW1 := Lib.hid hw1
  have HOK := Lib.hid hok
  have HEA := Lib.hid (rEnd_any a w1)
  clear h hn hd hA hM hS hT hr1 hb1 hw1 hok
  go_enter Try.func11, Try.ntmps11
  go_upto_region 1 with fail
  rw [← HW1.out]
  go_cut [7] (fun s wx => s = .bool ok ∧ Below w.heap.size w wx ∧ wx.heap[w.heap.size]? = some (.cells #[.int .i64 4, .int .i64 a, .int .i64 b, .slice A n c] tAct (0, 0)))
  case first =>
    by_cases ha : End8 a
    · rw [decide_eq_true ha] at HEA
      by_cases hb : End8 b
      · by_cases hab : a = b
        · have hq : (a != b) = false := by simp [hab]
          have HOV := Lib.hid (HOK.out.trans (decide_eq_false (fun e : Sound8 a b => e.2.2 hab)))
          clear hab
          go_wp2_with fail
          refine HEA.out.mono ?_
          rintro e w2 ⟨rfl, hb2⟩
          have HR2 := Lib.hid ((hb2.block _ (row_lt HR1.out)).trans HR1.out)
          have HB2 := Lib.hid (By.ext HB1.out hb2)
          obtain ⟨e0, e1, e2, e3⟩ := acells HR2.out
          have HEB := Lib.hid (rEnd_any b w2)
          rw [decide_eq_true hb] at HEB
          clear hb2 HEA
          go_wp2_with fail
          refine HEB.out.mono ?_
          rintro e w3 ⟨rfl, hb3⟩
          have HR3 := Lib.hid ((hb3.block _ (row_lt HR2.out)).trans HR2.out)
          have HB3 := Lib.hid (By.ext HB2.out hb3)
          obtain ⟨f0, f1, f2, f3⟩ := acells HR3.out
          clear hb3 HEB
          go_wp2
          go_meet
          exact ⟨by first | rw [HOV.out, hq] | rw [HOV.out], HB3.out, HR3.out⟩
        · have hq : (a != b) = true := bne_iff_ne.2 hab
          have HOV := Lib.hid (HOK.out.trans (decide_eq_true (show Sound8 a b from ⟨ha, hb, hab⟩)))
          clear hab
          go_wp2_with fail
          refine HEA.out.mono ?_
          rintro e w2 ⟨rfl, hb2⟩
          have HR2 := Lib.hid ((hb2.block _ (row_lt HR1.out)).trans HR1.out)
          have HB2 := Lib.hid (By.ext HB1.out hb2)
          obtain ⟨e0, e1, e2, e3⟩ := acells HR2.out
          have HEB := Lib.hid (rEnd_any b w2)
          rw [decide_eq_true hb] at HEB
          clear hb2 HEA
          go_wp2_with fail
          refine HEB.out.mono ?_
          rintro e w3 ⟨rfl, hb3⟩
          have HR3 := Lib.hid ((hb3.block _ (row_lt HR2.out)).trans HR2.out)
          have HB3 := Lib.hid (By.ext HB2.out hb3)
          obtain ⟨f0, f1, f2, f3⟩ := acells HR3.out
          clear hb3 HEB
          go_wp2
          go_meet
          exact ⟨by first | rw [HOV.out, hq] | rw [HOV.out], HB3.out, HR3.out⟩
      · have HOV := Lib.hid (HOK.out.trans (decide_eq_false (fun e : Sound8 a b => hb e.2.1)))
        go_wp2_with fail
        refine HEA.out.mono ?_
        rintro e w2 ⟨rfl, hb2⟩
        have HR2 := Lib.hid ((hb2.block _ (row_lt HR1.out)).trans HR1.out)
        have HB2 := Lib.hid (By.ext HB1.out hb2)
        obtain ⟨e0, e1, e2, e3⟩ := acells HR2.out
        have HEB := Lib.hid (rEnd_any b w2)
        rw [decide_eq_false hb] at HEB
        clear hb2 HEA
        go_wp2_with fail
        refine HEB.out.mono ?_
        rintro e w3 ⟨rfl, hb3⟩
        have HR3 := Lib.hid ((hb3.block _ (row_lt HR2.out)).trans HR2.out)
        have HB3 := Lib.hid (By.ext HB2.out hb3)
        obtain ⟨f0, f1, f2, f3⟩ := acells HR3.out
        clear hb3 HEB
        go_wp2
        go_meet
        exact ⟨by rw [HOV.out], HB3.out, HR3.out⟩
    · rw [decide_eq_false ha] at HEA
      have HOV := Lib.hid (HOK.out.trans (decide_eq_false (fun e : Sound8 a b => ha e.1)))
      go_wp2_with fail
      refine HEA.out.mono ?_
      rintro e w2 ⟨rfl, hb2⟩
      have HR2 := Lib.hid ((hb2.block _ (row_lt HR1.out)).trans HR1.out)
      have HB2 := Lib.hid (By.ext HB1.out hb2)
      obtain ⟨e0, e1, e2, e3⟩ := acells HR2.out
      clear hb2 HEA
      go_wp2
      go_meet
      exact ⟨by rw [HOV.out], HB2.out, HR2.out⟩
  obtain ⟨rfl, hb2, hx2⟩ := hcut
  obtain ⟨w2, rfl⟩ : ∃ w2, w2 = wc := ⟨_, rfl⟩
  clear c0 c1 c2 c3 HEA
  obtain ⟨c0, c1, c2, c3⟩ := acells hx2
  have HT2 := Lib.hid (HH.out.below hb2)
  have HB2 := Lib.hid hb2
  have HX2 := Lib.hid hx2
  have HZ := Lib.hid (show (∀ b, S b → b < w.heap.size) ∧ (∀ b, T b → b < w.heap.size) from ⟨fun b hb => HH.out.post.lt hb, fun b hb => HH.out.ref.lt hb⟩)
  have HLT := Lib.hid (row_lt hx2)
  clear hb2 hx2
  obtain rfl : ok = true := HOK.out.trans (decide_eq_true HSO.out)
  have HC := Lib.hid (cut_any g p S a b w2 HT2.out.post)
  rw [HRV.out] at HC
  go_wp2_with fail
  refine HC.out.mono ?_
  rintro e w3 ⟨rfl, S3, hp3, hs3, hk3⟩
  have ht3 := HT2.out.step hp3 hs3 hk3
  have hx3 := (hk3.block _ HLT.out (fun e => by have := HZ.out.1 _ e; omega)).trans HX2.out
  obtain ⟨e0, e1, e2, e3⟩ := acells hx3
  have HX3 := Lib.hid hx3
  have HT3 := Lib.hid ht3
  have HS3 := Lib.hid (show ∀ b, S3 b → S b ∨ w.heap.size ≤ b from fun b hb => (hs3 b hb).imp id (fun e => Nat.le_trans HB2.out.size e))
  have HK3 := Lib.hid ((Kept.of_below HB2.out).trans (hk3.mono (M' := fun b => S b ∨ T b) (fun _ _ e => .inl e)))
  clear hp3 hs3 hk3 ht3 hx3 HC c0 c1 c2 c3
  have HQ := Lib.hid (rcut_any r q T a b w3 HT3.out.ref)
  go_wp2_with fail
  refine HQ.out.mono ?_
  rintro e w3x ⟨z, rfl, hz, hw⟩
  obtain rfl : w3 = w3x := hw.symm
  obtain ⟨k, rfl, hk, hk9⟩ : ∃ k : Nat, z = k ∧ q.cuts[k]? = some (a, b) ∧ k < 1089 := by
    rcases hz with ⟨_, h⟩ | h
    · exact absurd HIN.out h
    · exact h
  have hz0 : ¬ ((k : Int) < 0) := by omega
  clear hk hk9 HQ
  go_wp2
  go_ret
  exact bstep_of (w := w) HT3.out HS3.out (fun b hb => .inl hb) HK3.out (fun _ => rfl)
set_option maxRecDepth 100000 in
set_option maxHeartbeats 4000000 in
theorem act_4_new (g r : Nat) (p q : P8) (S T : Nat → Prop) (M : Nat) (a b : Int) (hso : Sound8 a b) (hin : (a, b) ∉ q.cuts) (A : Option Addr) (n c : Nat) (d : Bs) (w : World) (h : Two w g r p q S T) (hn : n = d.length) (hd : d.length ≤ 1048576) (hA : Lies w M A d) (hM : M ≤ w.heap.size) (hS : ∀ b, S b → M ≤ b) (hT : ∀ b, T b → M ≤ b) :
    Calls Try.prog 11 #[.pointer (some ⟨g, 0, none⟩), .pointer (some ⟨r, 0, none⟩), .agg #[.int .i64 4, .int .i64 a, .int .i64 b, .slice A n c]] w (BStep (p = q) g r (cutP p a b) (cutP q a b) S T w) := by
  have HSO := Lib.hid hso
  have HRV := Lib.hid (show cutR p a b = (cutP p a b, 0) from if_pos hso)
  have HIN := Lib.hid hin
  clear hso hin
  obtain ⟨w1, hw1⟩ : ∃ w1, w1 = w.alloc (.cells #[.int .i64 4, .int .i64 a, .int .i64 b, .slice A n c] tAct) := ⟨_, rfl⟩
  have hb1 : Below w.heap.size w w1 := by rw [hw1]; exact (Below.refl _ _).alloc (Nat.le_refl _) _
  have hr1 : w1.heap[w.heap.size]? = some (.cells #[.int .i64 4, .int .i64 a, .int .i64 b, .slice A n c] tAct (0, 0)) := by rw [hw1]; exact heap_alloc_new w _
  obtain ⟨c0, c1, c2, c3⟩ := acells hr1
  obtain ⟨ok, hok⟩ : ∃ ok, ok = decide (Sound8 a b) := ⟨_, rfl⟩
  have HH := Lib.hid h
  have HN := Lib.hid hn
  have HD := Lib.hid hd
  have HLA := Lib.hid hA
  have HM := Lib.hid hM
  have HSM := Lib.hid hS
  have HTM := Lib.hid hT
  have HR1 := Lib.hid hr1
  have HB1 := Lib.hid hb1
  have HW1 := Lib.hid hw1
  have HOK := Lib.hid hok
  have HEA := Lib.hid (rEnd_any a w1)
  clear h hn hd hA hM hS hT hr1 hb1 hw1 hok
  go_enter Try.func11, Try.ntmps11
  go_upto_region 1 with fail
  rw [← HW1.out]
  go_cut [7] (fun s wx => s = .bool ok ∧ Below w.heap.size w wx ∧ wx.heap[w.heap.size]? = some (.cells #[.int .i64 4, .int .i64 a, .int .i64 b, .slice A n c] tAct (0, 0)))
  case first =>
    by_cases ha : End8 a
    · rw [decide_eq_true ha] at HEA
      by_cases hb : End8 b
      · by_cases hab : a = b
        · have hq : (a != b) = false := by simp [hab]
          have HOV := Lib.hid (HOK.out.trans (decide_eq_false (fun e : Sound8 a b => e.2.2 hab)))
          clear hab
          go_wp2_with fail
          refine HEA.out.mono ?_
          rintro e w2 ⟨rfl, hb2⟩
          have HR2 := Lib.hid ((hb2.block _ (row_lt HR1.out)).trans HR1.out)
          have HB2 := Lib.hid (By.ext HB1.out hb2)
          obtain ⟨e0, e1, e2, e3⟩ := acells HR2.out
          have HEB := Lib.hid (rEnd_any b w2)
          rw [decide_eq_true hb] at HEB
          clear hb2 HEA
          go_wp2_with fail
          refine HEB.out.mono ?_
          rintro e w3 ⟨rfl, hb3⟩
          have HR3 := Lib.hid ((hb3.block _ (row_lt HR2.out)).trans HR2.out)
          have HB3 := Lib.hid (By.ext HB2.out hb3)
          obtain ⟨f0, f1, f2, f3⟩ := acells HR3.out
          clear hb3 HEB
          go_wp2
          go_meet
          exact ⟨by first | rw [HOV.out, hq] | rw [HOV.out], HB3.out, HR3.out⟩
        · have hq : (a != b) = true := bne_iff_ne.2 hab
          have HOV := Lib.hid (HOK.out.trans (decide_eq_true (show Sound8 a b from ⟨ha, hb, hab⟩)))
          clear hab
          go_wp2_with fail
          refine HEA.out.mono ?_
          rintro e w2 ⟨rfl, hb2⟩
          have HR2 := Lib.hid ((hb2.block _ (row_lt HR1.out)).trans HR1.out)
          have HB2 := Lib.hid (By.ext HB1.out hb2)
          obtain ⟨e0, e1, e2, e3⟩ := acells HR2.out
          have HEB := Lib.hid (rEnd_any b w2)
          rw [decide_eq_true hb] at HEB
          clear hb2 HEA
          go_wp2_with fail
          refine HEB.out.mono ?_
          rintro e w3 ⟨rfl, hb3⟩
          have HR3 := Lib.hid ((hb3.block _ (row_lt HR2.out)).trans HR2.out)
          have HB3 := Lib.hid (By.ext HB2.out hb3)
          obtain ⟨f0, f1, f2, f3⟩ := acells HR3.out
          clear hb3 HEB
          go_wp2
          go_meet
          exact ⟨by first | rw [HOV.out, hq] | rw [HOV.out], HB3.out, HR3.out⟩
      · have HOV := Lib.hid (HOK.out.trans (decide_eq_false (fun e : Sound8 a b => hb e.2.1)))
        go_wp2_with fail
        refine HEA.out.mono ?_
        rintro e w2 ⟨rfl, hb2⟩
        have HR2 := Lib.hid ((hb2.block _ (row_lt HR1.out)).trans HR1.out)
        have HB2 := Lib.hid (By.ext HB1.out hb2)
        obtain ⟨e0, e1, e2, e3⟩ := acells HR2.out
        have HEB := Lib.hid (rEnd_any b w2)
        rw [decide_eq_false hb] at HEB
        clear hb2 HEA
        go_wp2_with fail
        refine HEB.out.mono ?_
        rintro e w3 ⟨rfl, hb3⟩
        have HR3 := Lib.hid ((hb3.block _ (row_lt HR2.out)).trans HR2.out)
        have HB3 := Lib.hid (By.ext HB2.out hb3)
        obtain ⟨f0, f1, f2, f3⟩ := acells HR3.out
        clear hb3 HEB
        go_wp2
        go_meet
        exact ⟨by rw [HOV.out], HB3.out, HR3.out⟩
    · rw [decide_eq_false ha] at HEA
      have HOV := Lib.hid (HOK.out.trans (decide_eq_false (fun e : Sound8 a b => ha e.1)))
      go_wp2_with fail
      refine HEA.out.mono ?_
      rintro e w2 ⟨rfl, hb2⟩
      have HR2 := Lib.hid ((hb2.block _ (row_lt HR1.out)).trans HR1.out)
      have HB2 := Lib.hid (By.ext HB1.out hb2)
      obtain ⟨e0, e1, e2, e3⟩ := acells HR2.out
      clear hb2 HEA
      go_wp2
      go_meet
      exact ⟨by rw [HOV.out], HB2.out, HR2.out⟩
  obtain ⟨rfl, hb2, hx2⟩ := hcut
  obtain ⟨w2, rfl⟩ : ∃ w2, w2 = wc := ⟨_, rfl⟩
  clear c0 c1 c2 c3 HEA
  obtain ⟨c0, c1, c2, c3⟩ := acells hx2
  have HT2 := Lib.hid (HH.out.below hb2)
  have HB2 := Lib.hid hb2
  have HX2 := Lib.hid hx2
  have HZ := Lib.hid (show (∀ b, S b → b < w.heap.size) ∧ (∀ b, T b → b < w.heap.size) from ⟨fun b hb => HH.out.post.lt hb, fun b hb => HH.out.ref.lt hb⟩)
  have HLT := Lib.hid (row_lt hx2)
  clear hb2 hx2
  obtain rfl : ok = true := HOK.out.trans (decide_eq_true HSO.out)
  have HC := Lib.hid (cut_any g p S a b w2 HT2.out.post)
  rw [HRV.out] at HC
  go_wp2_with fail
  refine HC.out.mono ?_
  rintro e w3 ⟨rfl, S3, hp3, hs3, hk3⟩
  have ht3 := HT2.out.step hp3 hs3 hk3
  have hx3 := (hk3.block _ HLT.out (fun e => by have := HZ.out.1 _ e; omega)).trans HX2.out
  obtain ⟨e0, e1, e2, e3⟩ := acells hx3
  have HX3 := Lib.hid hx3
  have HT3 := Lib.hid ht3
  have HS3 := Lib.hid (show ∀ b, S3 b → S b ∨ w.heap.size ≤ b from fun b hb => (hs3 b hb).imp id (fun e => Nat.le_trans HB2.out.size e))
  have HK3 := Lib.hid ((Kept.of_below HB2.out).trans (hk3.mono (M' := fun b => S b ∨ T b) (fun _ _ e => .inl e)))
  clear hp3 hs3 hk3 ht3 hx3 HC c0 c1 c2 c3
  have HQ := Lib.hid (rcut_any r q T a b w3 HT3.out.ref)
  go_wp2_with fail
  refine HQ.out.mono ?_
  rintro e w3x ⟨z, rfl, hz, hw⟩
  obtain rfl : w3 = w3x := hw.symm
  obtain rfl : z = -1 := by
    rcases hz with ⟨h, _⟩ | ⟨k, _, h, _⟩
    · exact h
    · exact absurd (List.mem_of_getElem? h) HIN.out
  clear hz
  clear HQ
  go_upto_region 21 with fail
  obtain ⟨lv, cv, dv, h3⟩ := HT3.out.ref
  obtain ⟨Ac, cc, hcv⟩ := ownsRow_form h3.cuts
  obtain ⟨p0, p1, p2⟩ := h3.cells
  rw [hcv] at p2
  have hba : Below w3.heap.size w3 (w3.alloc (.cells #[.int .i64 a, .int .i64 b] tPair)).drew := ((Below.refl _ _).alloc (Nat.le_refl _) _).drew
  have ha := h3.below hba
  obtain ⟨r0, r1, r2⟩ := ha.cells
  rw [hcv] at r2
  obtain ⟨f0, f1, f2, f3⟩ := acells ((hba.block _ (row_lt HX3.out)).trans HX3.out)
  have HH3 := Lib.hid h3
  have HCV := Lib.hid hcv
  have HBA := Lib.hid hba
  have HOW := Lib.hid ha.cuts
  have HRA := Lib.hid ha.row
  have HNC := Lib.hid (fresh_cells w3 [.int .i64 a, .int .i64 b] tPair)
  have HN1 := Lib.hid (show ∀ u ∈ [Value.int .i64 a, .int .i64 b], u.oneCell' = true by intro u hu; simp only [List.mem_cons, List.not_mem_nil, or_false] at hu; rcases hu with rfl | rfl <;> rfl)
  have HNN := Lib.hid (show q.cuts.length + 1 ≤ 1073741824 by have := few_cuts h3.ok.nodup h3.ok.ends; omega)
  have HVG := Lib.hid (row_apart h3.cuts h3.row tRP_neP)
  clear h3 hcv hba ha
  go_region_law (refine step_appG Try.underlying29 pairInfo rfl (by decide) (by decide) rfl (.tmp 135) (.tmp 141) rfl 0 (.slice Ac q.cuts.length cc) q.cuts.length (pRow q.cuts) rfl (HCV.out ▸ HOW.out) (some ⟨w3.heap.size, 0, none⟩) 1 1 rfl [.int .i64 a, .int .i64 b] rfl HNC.out HN1.out HNN.out (Nat.zero_le _) ?_; intro v8 w8 ho8 hg8 hv8
                 obtain ⟨A8, c8, rfl⟩ := ownsRow_form ho8
                 rw [← HCV.out] at hg8 hv8
                 have hr8 := (hg8.block r (row_lt HRA.out) (fun e => HVG.out e.symm)).trans HRA.out
                 have hc8 : w8.cell? ⟨r, 2, none⟩ = some cv := by rw [cell_of_row w8 r 2 _ _ _ hr8]; rfl
                 have hf8 : w8.frozen? ⟨r, 2, none⟩ = false := frozen_of_row w8 r 2 _ _ hr8
                 have HO8 := Lib.hid ho8
                 have HG8 := Lib.hid hg8
                 have HV8 := Lib.hid hv8
                 have HR8 := Lib.hid hr8
                 clear ho8 hg8 hv8 hr8)
  all_goals
    go_wp2
    go_ret
    obtain ⟨hq8, hk8⟩ := ref_cutadd HH3.out HBA.out HSO.out.1 HSO.out.2.1 HIN.out HO8.out rfl HG8.out HV8.out HR8.out
    exact bstep_of (w := w) (HT3.out.rstep hq8 (fun q hq => hq.imp id And.left) hk8) HS3.out (fun b hb => hb.imp id (fun e => Nat.le_trans HK3.out.size e.1)) (HK3.out.trans (hk8.mono (M' := fun b => S b ∨ T b) (fun _ _ e => .inr e))) (fun _ => rfl)
set_option maxRecDepth 100000 in
set_option maxHeartbeats 4000000 in
theorem act_5_bad (g r : Nat) (p q : P8) (S T : Nat → Prop) (M : Nat) (a b : Int) (hns : ¬ Sound8 a b) (A : Option Addr) (n c : Nat) (d : Bs) (w : World) (h : Two w g r p q S T) (hn : n = d.length) (hd : d.length ≤ 1048576) (hA : Lies w M A d) (hM : M ≤ w.heap.size) (hS : ∀ b, S b → M ≤ b) (hT : ∀ b, T b → M ≤ b) :
    Calls Try.prog 11 #[.pointer (some ⟨g, 0, none⟩), .pointer (some ⟨r, 0, none⟩), .agg #[.int .i64 5, .int .i64 a, .int .i64 b, .slice A n c]] w (BStep (p = q) g r p q S T w) := by
  have HNS := Lib.hid hns
  have HRV := Lib.hid (show healR p a b = (p, 1) from if_neg hns)
  clear hns
  obtain ⟨w1, hw1⟩ : ∃ w1, w1 = w.alloc (.cells #[.int .i64 5, .int .i64 a, .int .i64 b, .slice A n c] tAct) := ⟨_, rfl⟩
  have hb1 : Below w.heap.size w w1 := by rw [hw1]; exact (Below.refl _ _).alloc (Nat.le_refl _) _
  have hr1 : w1.heap[w.heap.size]? = some (.cells #[.int .i64 5, .int .i64 a, .int .i64 b, .slice A n c] tAct (0, 0)) := by rw [hw1]; exact heap_alloc_new w _
  obtain ⟨c0, c1, c2, c3⟩ := acells hr1
  obtain ⟨ok, hok⟩ : ∃ ok, ok = decide (Sound8 a b) := ⟨_, rfl⟩
  have HH := Lib.hid h
  have HN := Lib.hid hn
  have HD := Lib.hid hd
  have HLA := Lib.hid hA
  have HM := Lib.hid hM
  have HSM := Lib.hid hS
  have HTM := Lib.hid hT
  have HR1 := Lib.hid hr1
  have HB1 := Lib.hid hb1
  have HW1 := Lib.hid hw1
  have HOK := Lib.hid hok
  have HEA := Lib.hid (rEnd_any a w1)
  clear h hn hd hA hM hS hT hr1 hb1 hw1 hok
  go_enter Try.func11, Try.ntmps11
  go_upto_region 1 with fail
  rw [← HW1.out]
  go_cut [7] (fun s wx => s = .bool ok ∧ Below w.heap.size w wx ∧ wx.heap[w.heap.size]? = some (.cells #[.int .i64 5, .int .i64 a, .int .i64 b, .slice A n c] tAct (0, 0)))
  case first =>
    by_cases ha : End8 a
    · rw [decide_eq_true ha] at HEA
      by_cases hb : End8 b
      · by_cases hab : a = b
        · have hq : (a != b) = false := by simp [hab]
          have HOV := Lib.hid (HOK.out.trans (decide_eq_false (fun e : Sound8 a b => e.2.2 hab)))
          clear hab
          go_wp2_with fail
          refine HEA.out.mono ?_
          rintro e w2 ⟨rfl, hb2⟩
          have HR2 := Lib.hid ((hb2.block _ (row_lt HR1.out)).trans HR1.out)
          have HB2 := Lib.hid (By.ext HB1.out hb2)
          obtain ⟨e0, e1, e2, e3⟩ := acells HR2.out
          have HEB := Lib.hid (rEnd_any b w2)
          rw [decide_eq_true hb] at HEB
          clear hb2 HEA
          go_wp2_with fail
          refine HEB.out.mono ?_
          rintro e w3 ⟨rfl, hb3⟩
          have HR3 := Lib.hid ((hb3.block _ (row_lt HR2.out)).trans HR2.out)
          have HB3 := Lib.hid (By.ext HB2.out hb3)
          obtain ⟨f0, f1, f2, f3⟩ := acells HR3.out
          clear hb3 HEB
          go_wp2
          go_meet
          exact ⟨by first | rw [HOV.out, hq] | rw [HOV.out], HB3.out, HR3.out⟩
        · have hq : (a != b) = true := bne_iff_ne.2 hab
          have HOV := Lib.hid (HOK.out.trans (decide_eq_true (show Sound8 a b from ⟨ha, hb, hab⟩)))
          clear hab
          go_wp2_with fail
          refine HEA.out.mono ?_
          rintro e w2 ⟨rfl, hb2⟩
          have HR2 := Lib.hid ((hb2.block _ (row_lt HR1.out)).trans HR1.out)
          have HB2 := Lib.hid (By.ext HB1.out hb2)
          obtain ⟨e0, e1, e2, e3⟩ := acells HR2.out
          have HEB := Lib.hid (rEnd_any b w2)
          rw [decide_eq_true hb] at HEB
          clear hb2 HEA
          go_wp2_with fail
          refine HEB.out.mono ?_
          rintro e w3 ⟨rfl, hb3⟩
          have HR3 := Lib.hid ((hb3.block _ (row_lt HR2.out)).trans HR2.out)
          have HB3 := Lib.hid (By.ext HB2.out hb3)
          obtain ⟨f0, f1, f2, f3⟩ := acells HR3.out
          clear hb3 HEB
          go_wp2
          go_meet
          exact ⟨by first | rw [HOV.out, hq] | rw [HOV.out], HB3.out, HR3.out⟩
      · have HOV := Lib.hid (HOK.out.trans (decide_eq_false (fun e : Sound8 a b => hb e.2.1)))
        go_wp2_with fail
        refine HEA.out.mono ?_
        rintro e w2 ⟨rfl, hb2⟩
        have HR2 := Lib.hid ((hb2.block _ (row_lt HR1.out)).trans HR1.out)
        have HB2 := Lib.hid (By.ext HB1.out hb2)
        obtain ⟨e0, e1, e2, e3⟩ := acells HR2.out
        have HEB := Lib.hid (rEnd_any b w2)
        rw [decide_eq_false hb] at HEB
        clear hb2 HEA
        go_wp2_with fail
        refine HEB.out.mono ?_
        rintro e w3 ⟨rfl, hb3⟩
        have HR3 := Lib.hid ((hb3.block _ (row_lt HR2.out)).trans HR2.out)
        have HB3 := Lib.hid (By.ext HB2.out hb3)
        obtain ⟨f0, f1, f2, f3⟩ := acells HR3.out
        clear hb3 HEB
        go_wp2
        go_meet
        exact ⟨by rw [HOV.out], HB3.out, HR3.out⟩
    · rw [decide_eq_false ha] at HEA
      have HOV := Lib.hid (HOK.out.trans (decide_eq_false (fun e : Sound8 a b => ha e.1)))
      go_wp2_with fail
      refine HEA.out.mono ?_
      rintro e w2 ⟨rfl, hb2⟩
      have HR2 := Lib.hid ((hb2.block _ (row_lt HR1.out)).trans HR1.out)
      have HB2 := Lib.hid (By.ext HB1.out hb2)
      obtain ⟨e0, e1, e2, e3⟩ := acells HR2.out
      clear hb2 HEA
      go_wp2
      go_meet
      exact ⟨by rw [HOV.out], HB2.out, HR2.out⟩
  obtain ⟨rfl, hb2, hx2⟩ := hcut
  obtain ⟨w2, rfl⟩ : ∃ w2, w2 = wc := ⟨_, rfl⟩
  clear c0 c1 c2 c3 HEA
  obtain ⟨c0, c1, c2, c3⟩ := acells hx2
  have HT2 := Lib.hid (HH.out.below hb2)
  have HB2 := Lib.hid hb2
  have HX2 := Lib.hid hx2
  have HZ := Lib.hid (show (∀ b, S b → b < w.heap.size) ∧ (∀ b, T b → b < w.heap.size) from ⟨fun b hb => HH.out.post.lt hb, fun b hb => HH.out.ref.lt hb⟩)
  have HLT := Lib.hid (row_lt hx2)
  clear hb2 hx2
  obtain rfl : ok = false := HOK.out.trans (decide_eq_false HNS.out)
  have HC := Lib.hid (heal_any g p S a b w2 HT2.out.post)
  rw [HRV.out] at HC
  go_wp2_with fail
  refine HC.out.mono ?_
  rintro e w3 ⟨rfl, S3, hp3, hs3, hk3⟩
  have ht3 := HT2.out.step hp3 hs3 hk3
  have hx3 := (hk3.block _ HLT.out (fun e => by have := HZ.out.1 _ e; omega)).trans HX2.out
  obtain ⟨e0, e1, e2, e3⟩ := acells hx3
  have HX3 := Lib.hid hx3
  have HT3 := Lib.hid ht3
  have HS3 := Lib.hid (show ∀ b, S3 b → S b ∨ w.heap.size ≤ b from fun b hb => (hs3 b hb).imp id (fun e => Nat.le_trans HB2.out.size e))
  have HK3 := Lib.hid ((Kept.of_below HB2.out).trans (hk3.mono (M' := fun b => S b ∨ T b) (fun _ _ e => .inl e)))
  clear hp3 hs3 hk3 ht3 hx3 HC c0 c1 c2 c3
  go_wp2
  go_ret
  exact bstep_of (w := w) HT3.out HS3.out (fun b hb => .inl hb) HK3.out (fun _ => rfl)
set_option maxRecDepth 100000 in
set_option maxHeartbeats 4000000 in
theorem act_5_not (g r : Nat) (p q : P8) (S T : Nat → Prop) (M : Nat) (a b : Int) (hso : Sound8 a b) (hin : (a, b) ∉ q.cuts) (A : Option Addr) (n c : Nat) (d : Bs) (w : World) (h : Two w g r p q S T) (hn : n = d.length) (hd : d.length ≤ 1048576) (hA : Lies w M A d) (hM : M ≤ w.heap.size) (hS : ∀ b, S b → M ≤ b) (hT : ∀ b, T b → M ≤ b) :
    Calls Try.prog 11 #[.pointer (some ⟨g, 0, none⟩), .pointer (some ⟨r, 0, none⟩), .agg #[.int .i64 5, .int .i64 a, .int .i64 b, .slice A n c]] w (BStep (p = q) g r (healP p a b) q S T w) := by
  have HSO := Lib.hid hso
  have HRV := Lib.hid (show healR p a b = (healP p a b, 0) from if_pos hso)
  have HIN := Lib.hid hin
  clear hso hin
  obtain ⟨w1, hw1⟩ : ∃ w1, w1 = w.alloc (.cells #[.int .i64 5, .int .i64 a, .int .i64 b, .slice A n c] tAct) := ⟨_, rfl⟩
  have hb1 : Below w.heap.size w w1 := by rw [hw1]; exact (Below.refl _ _).alloc (Nat.le_refl _) _
  have hr1 : w1.heap[w.heap.size]? = some (.cells #[.int .i64 5, .int .i64 a, .int .i64 b, .slice A n c] tAct (0, 0)) := by rw [hw1]; exact heap_alloc_new w _
  obtain ⟨c0, c1, c2, c3⟩ := acells hr1
  obtain ⟨ok, hok⟩ : ∃ ok, ok = decide (Sound8 a b) := ⟨_, rfl⟩
  have HH := Lib.hid h
  have HN := Lib.hid hn
  have HD := Lib.hid hd
  have HLA := Lib.hid hA
  have HM := Lib.hid hM
  have HSM := Lib.hid hS
  have HTM := Lib.hid hT
  have HR1 := Lib.hid hr1
  have HB1 := Lib.hid hb1
  have HW1 := Lib.hid hw1
  have HOK := Lib.hid hok
  have HEA := Lib.hid (rEnd_any a w1)
  clear h hn hd hA hM hS hT hr1 hb1 hw1 hok
  go_enter Try.func11, Try.ntmps11
  go_upto_region 1 with fail
  rw [← HW1.out]
  go_cut [7] (fun s wx => s = .bool ok ∧ Below w.heap.size w wx ∧ wx.heap[w.heap.size]? = some (.cells #[.int .i64 5, .int .i64 a, .int .i64 b, .slice A n c] tAct (0, 0)))
  case first =>
    by_cases ha : End8 a
    · rw [decide_eq_true ha] at HEA
      by_cases hb : End8 b
      · by_cases hab : a = b
        · have hq : (a != b) = false := by simp [hab]
          have HOV := Lib.hid (HOK.out.trans (decide_eq_false (fun e : Sound8 a b => e.2.2 hab)))
          clear hab
          go_wp2_with fail
          refine HEA.out.mono ?_
          rintro e w2 ⟨rfl, hb2⟩
          have HR2 := Lib.hid ((hb2.block _ (row_lt HR1.out)).trans HR1.out)
          have HB2 := Lib.hid (By.ext HB1.out hb2)
          obtain ⟨e0, e1, e2, e3⟩ := acells HR2.out
          have HEB := Lib.hid (rEnd_any b w2)
          rw [decide_eq_true hb] at HEB
          clear hb2 HEA
          go_wp2_with fail
          refine HEB.out.mono ?_
          rintro e w3 ⟨rfl, hb3⟩
          have HR3 := Lib.hid ((hb3.block _ (row_lt HR2.out)).trans HR2.out)
          have HB3 := Lib.hid (By.ext HB2.out hb3)
          obtain ⟨f0, f1, f2, f3⟩ := acells HR3.out
          clear hb3 HEB
          go_wp2
          go_meet
          exact ⟨by first | rw [HOV.out, hq] | rw [HOV.out], HB3.out, HR3.out⟩
        · have hq : (a != b) = true := bne_iff_ne.2 hab
          have HOV := Lib.hid (HOK.out.trans (decide_eq_true (show Sound8 a b from ⟨ha, hb, hab⟩)))
          clear hab
          go_wp2_with fail
          refine HEA.out.mono ?_
          rintro e w2 ⟨rfl, hb2⟩
          have HR2 := Lib.hid ((hb2.block _ (row_lt HR1.out)).trans HR1.out)
          have HB2 := Lib.hid (By.ext HB1.out hb2)
          obtain ⟨e0, e1, e2, e3⟩ := acells HR2.out
          have HEB := Lib.hid (rEnd_any b w2)
          rw [decide_eq_true hb] at HEB
          clear hb2 HEA
          go_wp2_with fail
          refine HEB.out.mono ?_
          rintro e w3 ⟨rfl, hb3⟩
          have HR3 := Lib.hid ((hb3.block _ (row_lt HR2.out)).trans HR2.out)
          have HB3 := Lib.hid (By.ext HB2.out hb3)
          obtain ⟨f0, f1, f2, f3⟩ := acells HR3.out
          clear hb3 HEB
          go_wp2
          go_meet
          exact ⟨by first | rw [HOV.out, hq] | rw [HOV.out], HB3.out, HR3.out⟩
      · have HOV := Lib.hid (HOK.out.trans (decide_eq_false (fun e : Sound8 a b => hb e.2.1)))
        go_wp2_with fail
        refine HEA.out.mono ?_
        rintro e w2 ⟨rfl, hb2⟩
        have HR2 := Lib.hid ((hb2.block _ (row_lt HR1.out)).trans HR1.out)
        have HB2 := Lib.hid (By.ext HB1.out hb2)
        obtain ⟨e0, e1, e2, e3⟩ := acells HR2.out
        have HEB := Lib.hid (rEnd_any b w2)
        rw [decide_eq_false hb] at HEB
        clear hb2 HEA
        go_wp2_with fail
        refine HEB.out.mono ?_
        rintro e w3 ⟨rfl, hb3⟩
        have HR3 := Lib.hid ((hb3.block _ (row_lt HR2.out)).trans HR2.out)
        have HB3 := Lib.hid (By.ext HB2.out hb3)
        obtain ⟨f0, f1, f2, f3⟩ := acells HR3.out
        clear hb3 HEB
        go_wp2
        go_meet
        exact ⟨by rw [HOV.out], HB3.out, HR3.out⟩
    · rw [decide_eq_false ha] at HEA
      have HOV := Lib.hid (HOK.out.trans (decide_eq_false (fun e : Sound8 a b => ha e.1)))
      go_wp2_with fail
      refine HEA.out.mono ?_
      rintro e w2 ⟨rfl, hb2⟩
      have HR2 := Lib.hid ((hb2.block _ (row_lt HR1.out)).trans HR1.out)
      have HB2 := Lib.hid (By.ext HB1.out hb2)
      obtain ⟨e0, e1, e2, e3⟩ := acells HR2.out
      clear hb2 HEA
      go_wp2
      go_meet
      exact ⟨by rw [HOV.out], HB2.out, HR2.out⟩
  obtain ⟨rfl, hb2, hx2⟩ := hcut
  obtain ⟨w2, rfl⟩ : ∃ w2, w2 = wc := ⟨_, rfl⟩
  clear c0 c1 c2 c3 HEA
  obtain ⟨c0, c1, c2, c3⟩ := acells hx2
  have HT2 := Lib.hid (HH.out.below hb2)
  have HB2 := Lib.hid hb2
  have HX2 := Lib.hid hx2
  have HZ := Lib.hid (show (∀ b, S b → b < w.heap.size) ∧ (∀ b, T b → b < w.heap.size) from ⟨fun b hb => HH.out.post.lt hb, fun b hb => HH.out.ref.lt hb⟩)
  have HLT := Lib.hid (row_lt hx2)
  clear hb2 hx2
  obtain rfl : ok = true := HOK.out.trans (decide_eq_true HSO.out)
  have HC := Lib.hid (heal_any g p S a b w2 HT2.out.post)
  rw [HRV.out] at HC
  go_wp2_with fail
  refine HC.out.mono ?_
  rintro e w3 ⟨rfl, S3, hp3, hs3, hk3⟩
  have ht3 := HT2.out.step hp3 hs3 hk3
  have hx3 := (hk3.block _ HLT.out (fun e => by have := HZ.out.1 _ e; omega)).trans HX2.out
  obtain ⟨e0, e1, e2, e3⟩ := acells hx3
  have HX3 := Lib.hid hx3
  have HT3 := Lib.hid ht3
  have HS3 := Lib.hid (show ∀ b, S3 b → S b ∨ w.heap.size ≤ b from fun b hb => (hs3 b hb).imp id (fun e => Nat.le_trans HB2.out.size e))
  have HK3 := Lib.hid ((Kept.of_below HB2.out).trans (hk3.mono (M' := fun b => S b ∨ T b) (fun _ _ e => .inl e)))
  clear hp3 hs3 hk3 ht3 hx3 HC c0 c1 c2 c3
  have HQ := Lib.hid (rcut_any r q T a b w3 HT3.out.ref)
  go_wp2_with fail
  refine HQ.out.mono ?_
  rintro e w3x ⟨z, rfl, hz, hw⟩
  obtain rfl : w3 = w3x := hw.symm
  obtain rfl : z = -1 := by
    rcases hz with ⟨h, _⟩ | ⟨k, _, h, _⟩
    · exact h
    · exact absurd (List.mem_of_getElem? h) HIN.out
  clear hz
  have hz0 : ¬ ((0 : Int) ≤ -1) := by omega
  clear HQ
  go_wp2
  go_ret
  exact bstep_of (w := w) HT3.out HS3.out (fun b hb => .inl hb) HK3.out (fun _ => rfl)
set_option maxRecDepth 100000 in
set_option maxHeartbeats 4000000 in
theorem act_5_in (g r : Nat) (p q : P8) (S T : Nat → Prop) (M : Nat) (a b : Int) (hso : Sound8 a b) (hin : (a, b) ∈ q.cuts) (A : Option Addr) (n c : Nat) (d : Bs) (w : World) (h : Two w g r p q S T) (hn : n = d.length) (hd : d.length ≤ 1048576) (hA : Lies w M A d) (hM : M ≤ w.heap.size) (hS : ∀ b, S b → M ≤ b) (hT : ∀ b, T b → M ≤ b) :
    Calls Try.prog 11 #[.pointer (some ⟨g, 0, none⟩), .pointer (some ⟨r, 0, none⟩), .agg #[.int .i64 5, .int .i64 a, .int .i64 b, .slice A n c]] w (BStep (p = q) g r (healP p a b) (healP q a b) S T w) := by
  have HSO := Lib.hid hso
  have HRV := Lib.hid (show healR p a b = (healP p a b, 0) from if_pos hso)
  have HIN := Lib.hid hin
  clear hso hin
  obtain ⟨w1, hw1⟩ : ∃ w1, w1 = w.alloc (.cells #[.int .i64 5, .int .i64 a, .int .i64 b, .slice A n c] tAct) := ⟨_, rfl⟩
  have hb1 : Below w.heap.size w w1 := by rw [hw1]; exact (Below.refl _ _).alloc (Nat.le_refl _) _
  have hr1 : w1.heap[w.heap.size]? = some (.cells #[.int .i64 5, .int .i64 a, .int .i64 b, .slice A n c] tAct (0, 0)) := by rw [hw1]; exact heap_alloc_new w _
  obtain ⟨c0, c1, c2, c3⟩ := acells hr1
  obtain ⟨ok, hok⟩ : ∃ ok, ok = decide (Sound8 a b) := ⟨_, rfl⟩
  have HH := Lib.hid h
  have HN := Lib.hid hn
  have HD := Lib.hid hd
  have HLA := Lib.hid hA
  have HM := Lib.hid hM
  have HSM := Lib.hid hS
  have HTM := Lib.hid hT
  have HR1 := Lib.hid hr1
  have HB1 := Lib.hid hb1
  have HW1 := Lib.hid hw1
  have HOK := Lib.hid hok
  have HEA := Lib.hid (rEnd_any a w1)
  clear h hn hd hA hM hS hT hr1 hb1 hw1 hok
  go_enter Try.func11, Try.ntmps11
  go_upto_region 1 with fail
  rw [← HW1.out]
  go_cut [7] (fun s wx => s = .bool ok ∧ Below w.heap.size w wx ∧ wx.heap[w.heap.size]? = some (.cells #[.int .i64 5, .int .i64 a, .int .i64 b, .slice A n c] tAct (0, 0)))
  case first =>
    by_cases ha : End8 a
    · rw [decide_eq_true ha] at HEA
      by_cases hb : End8 b
      · by_cases hab : a = b
        · have hq : (a != b) = false := by simp [hab]
          have HOV := Lib.hid (HOK.out.trans (decide_eq_false (fun e : Sound8 a b => e.2.2 hab)))
          clear hab
          go_wp2_with fail
          refine HEA.out.mono ?_
          rintro e w2 ⟨rfl, hb2⟩
          have HR2 := Lib.hid ((hb2.block _ (row_lt HR1.out)).trans HR1.out)
          have HB2 := Lib.hid (By.ext HB1.out hb2)
          obtain ⟨e0, e1, e2, e3⟩ := acells HR2.out
          have HEB := Lib.hid (rEnd_any b w2)
          rw [decide_eq_true hb] at HEB
          clear hb2 HEA
          go_wp2_with fail
          refine HEB.out.mono ?_
          rintro e w3 ⟨rfl, hb3⟩
          have HR3 := Lib.hid ((hb3.block _ (row_lt HR2.out)).trans HR2.out)
          have HB3 := Lib.hid (By.ext HB2.out hb3)
          obtain ⟨f0, f1, f2, f3⟩ := acells HR3.out
          clear hb3 HEB
          go_wp2
          go_meet
          exact ⟨by first | rw [HOV.out, hq] | rw [HOV.out], HB3.out, HR3.out⟩
        · have hq : (a != b) = true := bne_iff_ne.2 hab
          have HOV := Lib.hid (HOK.out.trans (decide_eq_true (show Sound8 a b from ⟨ha, hb, hab⟩)))
          clear hab
          go_wp2_with fail
          refine HEA.out.mono ?_
          rintro e w2 ⟨rfl, hb2⟩
          have HR2 := Lib.hid ((hb2.block _ (row_lt HR1.out)).trans HR1.out)
          have HB2 := Lib.hid (By.ext HB1.out hb2)
          obtain ⟨e0, e1, e2, e3⟩ := acells HR2.out
          have HEB := Lib.hid (rEnd_any b w2)
          rw [decide_eq_true hb] at HEB
          clear hb2 HEA
          go_wp2_with fail
          refine HEB.out.mono ?_
          rintro e w3 ⟨rfl, hb3⟩
          have HR3 := Lib.hid ((hb3.block _ (row_lt HR2.out)).trans HR2.out)
          have HB3 := Lib.hid (By.ext HB2.out hb3)
          obtain ⟨f0, f1, f2, f3⟩ := acells HR3.out
          clear hb3 HEB
          go_wp2
          go_meet
          exact ⟨by first | rw [HOV.out, hq] | rw [HOV.out], HB3.out, HR3.out⟩
      · have HOV := Lib.hid (HOK.out.trans (decide_eq_false (fun e : Sound8 a b => hb e.2.1)))
        go_wp2_with fail
        refine HEA.out.mono ?_
        rintro e w2 ⟨rfl, hb2⟩
        have HR2 := Lib.hid ((hb2.block _ (row_lt HR1.out)).trans HR1.out)
        have HB2 := Lib.hid (By.ext HB1.out hb2)
        obtain ⟨e0, e1, e2, e3⟩ := acells HR2.out
        have HEB := Lib.hid (rEnd_any b w2)
        rw [decide_eq_false hb] at HEB
        clear hb2 HEA
        go_wp2_with fail
        refine HEB.out.mono ?_
        rintro e w3 ⟨rfl, hb3⟩
        have HR3 := Lib.hid ((hb3.block _ (row_lt HR2.out)).trans HR2.out)
        have HB3 := Lib.hid (By.ext HB2.out hb3)
        obtain ⟨f0, f1, f2, f3⟩ := acells HR3.out
        clear hb3 HEB
        go_wp2
        go_meet
        exact ⟨by rw [HOV.out], HB3.out, HR3.out⟩
    · rw [decide_eq_false ha] at HEA
      have HOV := Lib.hid (HOK.out.trans (decide_eq_false (fun e : Sound8 a b => ha e.1)))
      go_wp2_with fail
      refine HEA.out.mono ?_
      rintro e w2 ⟨rfl, hb2⟩
      have HR2 := Lib.hid ((hb2.block _ (row_lt HR1.out)).trans HR1.out)
      have HB2 := Lib.hid (By.ext HB1.out hb2)
      obtain ⟨e0, e1, e2, e3⟩ := acells HR2.out
      clear hb2 HEA
      go_wp2
      go_meet
      exact ⟨by rw [HOV.out], HB2.out, HR2.out⟩
  obtain ⟨rfl, hb2, hx2⟩ := hcut
  obtain ⟨w2, rfl⟩ : ∃ w2, w2 = wc := ⟨_, rfl⟩
  clear c0 c1 c2 c3 HEA
  obtain ⟨c0, c1, c2, c3⟩ := acells hx2
  have HT2 := Lib.hid (HH.out.below hb2)
  have HB2 := Lib.hid hb2
  have HX2 := Lib.hid hx2
  have HZ := Lib.hid (show (∀ b, S b → b < w.heap.size) ∧ (∀ b, T b → b < w.heap.size) from ⟨fun b hb => HH.out.post.lt hb, fun b hb => HH.out.ref.lt hb⟩)
  have HLT := Lib.hid (row_lt hx2)
  clear hb2 hx2
  obtain rfl : ok = true := HOK.out.trans (decide_eq_true HSO.out)
  have HC := Lib.hid (heal_any g p S a b w2 HT2.out.post)
  rw [HRV.out] at HC
  go_wp2_with fail
  refine HC.out.mono ?_
  rintro e w3 ⟨rfl, S3, hp3, hs3, hk3⟩
  have ht3 := HT2.out.step hp3 hs3 hk3
  have hx3 := (hk3.block _ HLT.out (fun e => by have := HZ.out.1 _ e; omega)).trans HX2.out
  obtain ⟨e0, e1, e2, e3⟩ := acells hx3
  have HX3 := Lib.hid hx3
  have HT3 := Lib.hid ht3
  have HS3 := Lib.hid (show ∀ b, S3 b → S b ∨ w.heap.size ≤ b from fun b hb => (hs3 b hb).imp id (fun e => Nat.le_trans HB2.out.size e))
  have HK3 := Lib.hid ((Kept.of_below HB2.out).trans (hk3.mono (M' := fun b => S b ∨ T b) (fun _ _ e => .inl e)))
  clear hp3 hs3 hk3 ht3 hx3 HC c0 c1 c2 c3
  have HQ := Lib.hid (rcut_any r q T a b w3 HT3.out.ref)
  go_wp2_with fail
  refine HQ.out.mono ?_
  rintro e w3x ⟨z, rfl, hz, hw⟩
  obtain rfl : w3 = w3x := hw.symm
  obtain ⟨k, rfl, hk, hk9⟩ : ∃ k : Nat, z = k ∧ q.cuts[k]? = some (a, b) ∧ k < 1089 := by
    rcases hz with ⟨_, h⟩ | h
    · exact absurd HIN.out h
    · exact h
  clear HQ hz
  obtain ⟨lv, cv, dv, h3⟩ := HT3.out.ref
  have hkl := (List.getElem?_eq_some_iff.1 hk).1
  have hz0 : (0 : Int) ≤ (k : Int) := by omega
  have hk4 : (k : Int) < 1089 := by omega
  obtain ⟨bc, cc, hcv, -, -⟩ := World.ownsRow.form h3.cuts (by omega)
  obtain ⟨p0, p1, p2⟩ := h3.cells
  rw [hcv] at p2
  have HNCC := Lib.hid (own_cap (hcv ▸ h3.cuts))
  have hlo := fun w' : World => run_loG Try.underlying29 pairSize w' bc q.cuts.length cc k (by have := HNCC.out; omega)
  obtain ⟨t, ht⟩ : ∃ t, t = q.cuts.length - (k + 1) := ⟨_, rfl⟩
  have hhi : ∀ w' : World, (Instr.slice tPairs (.slice (some ⟨bc, 0, none⟩) q.cuts.length cc) (some (.int .i64 ((k : Int) + 1))) none none).run Try.prog w' = .ok (.slice (some (cutG bc cc (k + 1) 2)) t (cc - (k + 1))) w' := fun w' => by
    rw [ht]; exact run_hiG Try.underlying29 pairSize w' bc q.cuts.length cc (k + 1) _ (by omega) (by omega)
  have HO3 := Lib.hid (show w3.ownsRow 0 tPair 2 (.slice (some ⟨bc, 0, none⟩) q.cuts.length cc) q.cuts.length (pRow q.cuts) from hcv ▸ h3.cuts)
  have HFL := Lib.hid (show ((pRow q.cuts).take (k * 2)).length = k * 2 by rw [List.length_take, pRow_length]; omega)
  have HRL := Lib.hid (show ((pRow q.cuts).drop ((k + 1) * 2)).length = t * 2 by rw [List.length_drop, pRow_length, ht]; omega)
  have HBO := Lib.hid (few_cuts h3.ok.nodup h3.ok.ends)
  have HKL := Lib.hid hkl
  have HTT := Lib.hid ht
  have HH3 := Lib.hid h3
  have HCV := Lib.hid hcv
  have HKQ := Lib.hid hk
  have hba : Below w3.heap.size w3 (w3.alloc (.cells #[] tPair)) := (Below.refl _ _).alloc (Nat.le_refl _) _
  obtain ⟨-, -, l2⟩ := (h3.below hba).cells
  rw [hcv] at l2
  have HBA := Lib.hid hba
  clear h3 hcv hba hkl ht hk hk9
  go_upto_region 29 with fail
  go_upto_region 30 with (at_builtin; refine wpList_appG Try.underlying29 pairInfo rfl (by decide) (by decide) rfl (.tmp 167) (.tmp 173) rfl w3.heap.size (.slice (some ⟨w3.heap.size, 0, none⟩) 0 0) 0 [] rfl (own_sameP w3) (some ⟨bc, 0, none⟩) k cc rfl ((pRow q.cuts).take (k * 2)) HFL.out (fun _ => ⟨_, rfl, front_cells (ownsRow_keep HO3.out (fun q hq => HBA.out.block q (ownsRow_lt HO3.out hq).2))⟩) (fun u hu => pRow_one q.cuts u (List.mem_of_mem_take hu)) (by have := HBO.out; have := HKL.out; omega) HBA.out.size ?_; intro v4 w4 ho4 hg4 hv4)
  have HB4 := Lib.hid (show Below w3.heap.size w3 w4 from HBA.out.trans (grown_below hg4 HBA.out.size (fun q hq => by
    have hq : some w3.heap.size = some q := hq
    injection hq with hq
    omega)))
  rw [List.nil_append, Nat.zero_add] at ho4
  have HO4 := Lib.hid ho4
  obtain ⟨-, -, m2⟩ := (HH3.out.below HB4.out).cells
  rw [HCV.out] at m2
  clear ho4 hg4 hv4 l2 p0 p1 p2 e0 e1 e2 e3
  go_upto_region 31 with (at_builtin; refine wpList_appG Try.underlying29 pairInfo rfl (by decide) (by decide) rfl (.tmp 176) (.tmp 183) rfl w3.heap.size v4 k _ rfl HO4.out (some (cutG bc cc (k + 1) 2)) t (cc - (k + 1)) rfl ((pRow q.cuts).drop ((k + 1) * 2)) HRL.out (fun _ => ⟨_, rfl, rest_cells (ownsRow_keep HO3.out (fun q hq => HB4.out.block q (ownsRow_lt HO3.out hq).2)) (by have := HKL.out; omega)⟩) (fun u hu => pRow_one q.cuts u (List.mem_of_mem_drop hu)) (by have := HBO.out; have := HKL.out; have := HTT.out; omega) HB4.out.size ?_; intro v5 w5 ho5 hg5 hv5
                          obtain ⟨A5, cA5, rfl⟩ := ownsRow_form ho5
                          have hb5 : Below w3.heap.size w3 w5 := HB4.out.trans (grown_below hg5 HB4.out.size (fun q hq => (ownsRow_lt HO4.out hq).1))
                          have hr5 := HH3.out.below hb5
                          have HO5 := Lib.hid ho5
                          have HB5 := Lib.hid hb5
                          have hc5 : w5.cell? ⟨r, 2, none⟩ = some cv := hr5.cells.2.2
                          have hf5 : w5.frozen? ⟨r, 2, none⟩ = false := frozen_of_row w5 r 2 _ _ hr5.row
                          clear ho5 hg5 hv5 hb5 hr5)
  obtain ⟨hq8, hk8⟩ := ref_cutdel HH3.out (Below.refl _ _) HB5.out HKQ.out HO5.out (by rw [HTT.out])
  have HQ8 := Lib.hid hq8
  have HK8 := Lib.hid hk8
  clear hq8 hk8
  go_wp2
  go_ret
  exact bstep_of (w := w) (HT3.out.rstep HQ8.out (fun q hq => hq.imp id And.left) HK8.out) HS3.out (fun b hb => hb.imp id (fun e => Nat.le_trans HK3.out.size e.1)) (HK3.out.trans (HK8.out.mono (M' := fun b => S b ∨ T b) (fun _ _ e => .inr e))) (fun _ => rfl)
end Go.Proofs.Ytenaecpmmbigdaa.Po
