/- The law's act, kind 3, as a contract of a call. -/
import Derived.Test.YtenaecpmmbigdaaPoO
import Derived.BigQuiet
import Derived.RegionTactic
namespace Go.Proofs.Ytenaecpmmbigdaa.Po
open Go.RowKit Go.Maps By Mp

theorem fresh {P C : World → Prop} {w : World} (h : C w) (hK : ∀ w', C w' → P w') : P w := hK w h
set_option maxRecDepth 100000 in
set_option maxHeartbeats 4000000 in
theorem act_3_out (g r : Nat) (p q : P8) (S T : Nat → Prop) (M : Nat) (a b : Int) (P1 : P8) (E1 : Int) (hP1 : twinR p a = (P1, E1)) (hE : p = q → E1 = 8) (hout : a < 0 ∨ (q.l.length : Int) ≤ a) (A : Option Addr) (n c : Nat) (d : Bs) (w : World) (h : Two w g r p q S T) (hn : n = d.length) (hd : d.length ≤ 1048576) (hA : Lies w M A d) (hM : M ≤ w.heap.size) (hS : ∀ b, S b → M ≤ b) (hT : ∀ b, T b → M ≤ b) :
    Calls Try.prog 11 #[.pointer (some ⟨g, 0, none⟩), .pointer (some ⟨r, 0, none⟩), .agg #[.int .i64 3, .int .i64 a, .int .i64 b, .slice A n c]] w (BStep (p = q) g r P1 q S T w) := by
  have HP1 := Lib.hid hP1
  have HE := Lib.hid hE
  clear hP1 hE
  have HOUT := Lib.hid hout
  clear hout
  obtain ⟨w1, hw1⟩ : ∃ w1, w1 = w.alloc (.cells #[.int .i64 3, .int .i64 a, .int .i64 b, .slice A n c] tAct) := ⟨_, rfl⟩
  have hb1 : Below w.heap.size w w1 := by rw [hw1]; exact (Below.refl _ _).alloc (Nat.le_refl _) _
  have hr1 : w1.heap[w.heap.size]? = some (.cells #[.int .i64 3, .int .i64 a, .int .i64 b, .slice A n c] tAct (0, 0)) := by rw [hw1]; exact heap_alloc_new w _
  obtain ⟨c0, c1, c2, c3⟩ := acells hr1
  obtain ⟨ok, hok⟩ : ∃ ok, ok = decide (Sound8 a b) := ⟨_, rfl⟩
  have HH := Lib.hid h
  have HN := Lib.hid hn
  have HD := Lib.hid hd
  have HLA := Lib.hid hA
  have HM := Lib.hid hM
  have HSM := Lib.hid hS
  have HTM := Lib.hid hT
  have HR1 := Lib.hid hr1
  have HB1 := Lib.hid hb1
  have HW1 := Lib.hid hw1
  have HOK := Lib.hid hok
  have HEA := Lib.hid (rEnd_any a w1)
  clear h hn hd hA hM hS hT hr1 hb1 hw1 hok
  go_enter Try.func11, Try.ntmps11
  go_upto_region 1 with fail
  rw [← HW1.out]
  go_cut [7] (fun s wx => s = .bool ok ∧ Below w.heap.size w wx ∧ wx.heap[w.heap.size]? = some (.cells #[.int .i64 3, .int .i64 a, .int .i64 b, .slice A n c] tAct (0, 0)))
  case first =>
    by_cases ha : End8 a
    · rw [decide_eq_true ha] at HEA
      by_cases hb : End8 b
      · by_cases hab : a = b
        · have hq : (a != b) = false := by simp [hab]
          have HOV := Lib.hid (HOK.out.trans (decide_eq_false (fun e : Sound8 a b => e.2.2 hab)))
          clear hab
          go_wp2_with fail
          refine HEA.out.mono ?_
          rintro e w2 ⟨rfl, hb2⟩
          have HR2 := Lib.hid ((hb2.block _ (row_lt HR1.out)).trans HR1.out)
          have HB2 := Lib.hid (By.ext HB1.out hb2)
          obtain ⟨e0, e1, e2, e3⟩ := acells HR2.out
          have HEB := Lib.hid (rEnd_any b w2)
          rw [decide_eq_true hb] at HEB
          clear hb2 HEA
          go_wp2_with fail
          refine HEB.out.mono ?_
          rintro e w3 ⟨rfl, hb3⟩
          have HR3 := Lib.hid ((hb3.block _ (row_lt HR2.out)).trans HR2.out)
          have HB3 := Lib.hid (By.ext HB2.out hb3)
          obtain ⟨f0, f1, f2, f3⟩ := acells HR3.out
          clear hb3 HEB
          go_wp2
          go_meet
          exact ⟨by first | rw [HOV.out, hq] | rw [HOV.out], HB3.out, HR3.out⟩
        · have hq : (a != b) = true := bne_iff_ne.2 hab
          have HOV := Lib.hid (HOK.out.trans (decide_eq_true (show Sound8 a b from ⟨ha, hb, hab⟩)))
          clear hab
          go_wp2_with fail
          refine HEA.out.mono ?_
          rintro e w2 ⟨rfl, hb2⟩
          have HR2 := Lib.hid ((hb2.block _ (row_lt HR1.out)).trans HR1.out)
          have HB2 := Lib.hid (By.ext HB1.out hb2)
          obtain ⟨e0, e1, e2, e3⟩ := acells HR2.out
          have HEB := Lib.hid (rEnd_any b w2)
          rw [decide_eq_true hb] at HEB
          clear hb2 HEA
          go_wp2_with fail
          refine HEB.out.mono ?_
          rintro e w3 ⟨rfl, hb3⟩
          have HR3 := Lib.hid ((hb3.block _ (row_lt HR2.out)).trans HR2.out)
          have HB3 := Lib.hid (By.ext HB2.out hb3)
          obtain ⟨f0, f1, f2, f3⟩ := acells HR3.out
          clear hb3 HEB
          go_wp2
          go_meet
          exact ⟨by first | rw [HOV.out, hq] | rw [HOV.out], HB3.out, HR3.out⟩
      · have HOV := Lib.hid (HOK.out.trans (decide_eq_false (fun e : Sound8 a b => hb e.2.1)))
        go_wp2_with fail
        refine HEA.out.mono ?_
        rintro e w2 ⟨rfl, hb2⟩
        have HR2 := Lib.hid ((hb2.block _ (row_lt HR1.out)).trans HR1.out)
        have HB2 := Lib.hid (By.ext HB1.out hb2)
        obtain ⟨e0, e1, e2, e3⟩ := acells HR2.out
        have HEB := Lib.hid (rEnd_any b w2)
        rw [decide_eq_false hb] at HEB
        clear hb2 HEA
        go_wp2_with fail
        refine HEB.out.mono ?_
        rintro e w3 ⟨rfl, hb3⟩
        have HR3 := Lib.hid ((hb3.block _ (row_lt HR2.out)).trans HR2.out)
        have HB3 := Lib.hid (By.ext HB2.out hb3)
        obtain ⟨f0, f1, f2, f3⟩ := acells HR3.out
        clear hb3 HEB
        go_wp2
        go_meet
        exact ⟨by rw [HOV.out], HB3.out, HR3.out⟩
    · rw [decide_eq_false ha] at HEA
      have HOV := Lib.hid (HOK.out.trans (decide_eq_false (fun e : Sound8 a b => ha e.1)))
      go_wp2_with fail
      refine HEA.out.mono ?_
      rintro e w2 ⟨rfl, hb2⟩
      have HR2 := Lib.hid ((hb2.block _ (row_lt HR1.out)).trans HR1.out)
      have HB2 := Lib.hid (By.ext HB1.out hb2)
      obtain ⟨e0, e1, e2, e3⟩ := acells HR2.out
      clear hb2 HEA
      go_wp2
      go_meet
      exact ⟨by rw [HOV.out], HB2.out, HR2.out⟩
  obtain ⟨rfl, hb2, hx2⟩ := hcut
  obtain ⟨w2, rfl⟩ : ∃ w2, w2 = wc := ⟨_, rfl⟩
  clear c0 c1 c2 c3 HEA
  obtain ⟨c0, c1, c2, c3⟩ := acells hx2
  have HT2 := Lib.hid (HH.out.below hb2)
  have HB2 := Lib.hid hb2
  have HX2 := Lib.hid hx2
  have HZ := Lib.hid (show (∀ b, S b → b < w.heap.size) ∧ (∀ b, T b → b < w.heap.size) from ⟨fun b hb => HH.out.post.lt hb, fun b hb => HH.out.ref.lt hb⟩)
  have HLT := Lib.hid (row_lt hx2)
  clear hb2 hx2
  have HC := Lib.hid (twin_any g p S a w2 HT2.out.post)
  rw [HP1.out] at HC
  go_wp2_with fail
  refine HC.out.mono ?_
  rintro e w3 ⟨rfl, S3, hp3, hs3, hk3⟩
  have ht3 := HT2.out.step hp3 hs3 hk3
  have hx3 := (hk3.block _ HLT.out (fun e => by have := HZ.out.1 _ e; omega)).trans HX2.out
  obtain ⟨e0, e1, e2, e3⟩ := acells hx3
  obtain ⟨lv, cv, dv, hr3⟩ := ht3.ref
  obtain ⟨Al, cl, hlv⟩ := ownsRow_form hr3.list
  obtain ⟨r0, r1, -⟩ := hr3.cells
  rw [hlv] at r1
  have HX3 := Lib.hid hx3
  have HT3 := Lib.hid ht3
  have HR3 := Lib.hid hr3
  have HLV := Lib.hid hlv
  have HS3 := Lib.hid (show ∀ b, S3 b → S b ∨ w.heap.size ≤ b from fun b hb => (hs3 b hb).imp id (fun e => Nat.le_trans HB2.out.size e))
  have HK3 := Lib.hid ((Kept.of_below HB2.out).trans (hk3.mono (M' := fun b => S b ∨ T b) (fun _ _ e => .inl e)))
  clear hp3 hs3 hk3 ht3 hx3 hr3 hlv HC c0 c1 c2 c3
  go_upto_region 9 with fail
  by_cases h0 : a < 0
  · have hd : decide (a < 0) = true := decide_eq_true h0
    go_quiet (fail)
    go_wp2
    go_ret
    exact bstep_of (w := w) (HT3.out.below (below_drewN (Below.refl _ _) _)) HS3.out (fun b hb => .inl hb) (HK3.out.trans (Kept.of_below (below_drewN (Below.refl _ _) _))) (fun e => beq_iff_eq.2 (HE.out e))
  · have hd : decide (a < 0) = false := decide_eq_false h0
    have hd2 : decide ((q.l.length : Int) ≤ a) = true := decide_eq_true (HOUT.out.resolve_left h0)
    go_quiet (fail)
    go_wp2
    go_ret
    exact bstep_of (w := w) (HT3.out.below (below_drewN (Below.refl _ _) _)) HS3.out (fun b hb => .inl hb) (HK3.out.trans (Kept.of_below (below_drewN (Below.refl _ _) _))) (fun e => beq_iff_eq.2 (HE.out e))
set_option maxRecDepth 100000 in
set_option maxHeartbeats 4000000 in
theorem act_3_full (g r : Nat) (p q : P8) (S T : Nat → Prop) (M : Nat) (P1 : P8) (E1 : Int) (k : Nat) (hP1 : twinR p (k : Int) = (P1, E1)) (hE : p = q → E1 = 10) (hkl : k < q.l.length) (hfull : q.room ≤ (q.l.length : Int)) (b : Int) (A : Option Addr) (n c : Nat) (d : Bs) (w : World) (h : Two w g r p q S T) (hn : n = d.length) (hd : d.length ≤ 1048576) (hA : Lies w M A d) (hM : M ≤ w.heap.size) (hS : ∀ b, S b → M ≤ b) (hT : ∀ b, T b → M ≤ b) :
    Calls Try.prog 11 #[.pointer (some ⟨g, 0, none⟩), .pointer (some ⟨r, 0, none⟩), .agg #[.int .i64 3, .int .i64 (k : Int), .int .i64 b, .slice A n c]] w (BStep (p = q) g r P1 q S T w) := by
  have HP1 := Lib.hid hP1
  have HE := Lib.hid hE
  clear hP1 hE
  have HKL := Lib.hid hkl
  clear hkl
  obtain ⟨w1, hw1⟩ : ∃ w1, w1 = w.alloc (.cells #[.int .i64 3, .int .i64 (k : Int), .int .i64 b, .slice A n c] tAct) := ⟨_, rfl⟩
  have hb1 : Below w.heap.size w w1 := by rw [hw1]; exact (Below.refl _ _).alloc (Nat.le_refl _) _
  have hr1 : w1.heap[w.heap.size]? = some (.cells #[.int .i64 3, .int .i64 (k : Int), .int .i64 b, .slice A n c] tAct (0, 0)) := by rw [hw1]; exact heap_alloc_new w _
  obtain ⟨c0, c1, c2, c3⟩ := acells hr1
  obtain ⟨ok, hok⟩ : ∃ ok, ok = decide (Sound8 (k : Int) b) := ⟨_, rfl⟩
  have HH := Lib.hid h
  have HN := Lib.hid hn
  have HD := Lib.hid hd
  have HLA := Lib.hid hA
  have HM := Lib.hid hM
  have HSM := Lib.hid hS
  have HTM := Lib.hid hT
  have HR1 := Lib.hid hr1
  have HB1 := Lib.hid hb1
  have HW1 := Lib.hid hw1
  have HOK := Lib.hid hok
  have HEA := Lib.hid (rEnd_any (k : Int) w1)
  clear h hn hd hA hM hS hT hr1 hb1 hw1 hok
  go_enter Try.func11, Try.ntmps11
  go_upto_region 1 with fail
  rw [← HW1.out]
  go_cut [7] (fun s wx => s = .bool ok ∧ Below w.heap.size w wx ∧ wx.heap[w.heap.size]? = some (.cells #[.int .i64 3, .int .i64 (k : Int), .int .i64 b, .slice A n c] tAct (0, 0)))
  case first =>
    by_cases ha : End8 (k : Int)
    · rw [decide_eq_true ha] at HEA
      by_cases hb : End8 b
      · by_cases hab : (k : Int) = b
        · have hq : ((k : Int) != b) = false := by simp [hab]
          have HOV := Lib.hid (HOK.out.trans (decide_eq_false (fun e : Sound8 (k : Int) b => e.2.2 hab)))
          clear hab
          go_wp2_with fail
          refine HEA.out.mono ?_
          rintro e w2 ⟨rfl, hb2⟩
          have HR2 := Lib.hid ((hb2.block _ (row_lt HR1.out)).trans HR1.out)
          have HB2 := Lib.hid (By.ext HB1.out hb2)
          obtain ⟨e0, e1, e2, e3⟩ := acells HR2.out
          have HEB := Lib.hid (rEnd_any b w2)
          rw [decide_eq_true hb] at HEB
          clear hb2 HEA
          go_wp2_with fail
          refine HEB.out.mono ?_
          rintro e w3 ⟨rfl, hb3⟩
          have HR3 := Lib.hid ((hb3.block _ (row_lt HR2.out)).trans HR2.out)
          have HB3 := Lib.hid (By.ext HB2.out hb3)
          obtain ⟨f0, f1, f2, f3⟩ := acells HR3.out
          clear hb3 HEB
          go_wp2
          go_meet
          exact ⟨by first | rw [HOV.out, hq] | rw [HOV.out], HB3.out, HR3.out⟩
        · have hq : ((k : Int) != b) = true := bne_iff_ne.2 hab
          have HOV := Lib.hid (HOK.out.trans (decide_eq_true (show Sound8 (k : Int) b from ⟨ha, hb, hab⟩)))
          clear hab
          go_wp2_with fail
          refine HEA.out.mono ?_
          rintro e w2 ⟨rfl, hb2⟩
          have HR2 := Lib.hid ((hb2.block _ (row_lt HR1.out)).trans HR1.out)
          have HB2 := Lib.hid (By.ext HB1.out hb2)
          obtain ⟨e0, e1, e2, e3⟩ := acells HR2.out
          have HEB := Lib.hid (rEnd_any b w2)
          rw [decide_eq_true hb] at HEB
          clear hb2 HEA
          go_wp2_with fail
          refine HEB.out.mono ?_
          rintro e w3 ⟨rfl, hb3⟩
          have HR3 := Lib.hid ((hb3.block _ (row_lt HR2.out)).trans HR2.out)
          have HB3 := Lib.hid (By.ext HB2.out hb3)
          obtain ⟨f0, f1, f2, f3⟩ := acells HR3.out
          clear hb3 HEB
          go_wp2
          go_meet
          exact ⟨by first | rw [HOV.out, hq] | rw [HOV.out], HB3.out, HR3.out⟩
      · have HOV := Lib.hid (HOK.out.trans (decide_eq_false (fun e : Sound8 (k : Int) b => hb e.2.1)))
        go_wp2_with fail
        refine HEA.out.mono ?_
        rintro e w2 ⟨rfl, hb2⟩
        have HR2 := Lib.hid ((hb2.block _ (row_lt HR1.out)).trans HR1.out)
        have HB2 := Lib.hid (By.ext HB1.out hb2)
        obtain ⟨e0, e1, e2, e3⟩ := acells HR2.out
        have HEB := Lib.hid (rEnd_any b w2)
        rw [decide_eq_false hb] at HEB
        clear hb2 HEA
        go_wp2_with fail
        refine HEB.out.mono ?_
        rintro e w3 ⟨rfl, hb3⟩
        have HR3 := Lib.hid ((hb3.block _ (row_lt HR2.out)).trans HR2.out)
        have HB3 := Lib.hid (By.ext HB2.out hb3)
        obtain ⟨f0, f1, f2, f3⟩ := acells HR3.out
        clear hb3 HEB
        go_wp2
        go_meet
        exact ⟨by rw [HOV.out], HB3.out, HR3.out⟩
    · rw [decide_eq_false ha] at HEA
      have HOV := Lib.hid (HOK.out.trans (decide_eq_false (fun e : Sound8 (k : Int) b => ha e.1)))
      go_wp2_with fail
      refine HEA.out.mono ?_
      rintro e w2 ⟨rfl, hb2⟩
      have HR2 := Lib.hid ((hb2.block _ (row_lt HR1.out)).trans HR1.out)
      have HB2 := Lib.hid (By.ext HB1.out hb2)
      obtain ⟨e0, e1, e2, e3⟩ := acells HR2.out
      clear hb2 HEA
      go_wp2
      go_meet
      exact ⟨by rw [HOV.out], HB2.out, HR2.out⟩
  obtain ⟨rfl, hb2, hx2⟩ := hcut
  obtain ⟨w2, rfl⟩ : ∃ w2, w2 = wc := ⟨_, rfl⟩
  clear c0 c1 c2 c3 HEA
  obtain ⟨c0, c1, c2, c3⟩ := acells hx2
  have HT2 := Lib.hid (HH.out.below hb2)
  have HB2 := Lib.hid hb2
  have HX2 := Lib.hid hx2
  have HZ := Lib.hid (show (∀ b, S b → b < w.heap.size) ∧ (∀ b, T b → b < w.heap.size) from ⟨fun b hb => HH.out.post.lt hb, fun b hb => HH.out.ref.lt hb⟩)
  have HLT := Lib.hid (row_lt hx2)
  clear hb2 hx2
  have HC := Lib.hid (twin_any g p S (k : Int) w2 HT2.out.post)
  rw [HP1.out] at HC
  go_wp2_with fail
  refine HC.out.mono ?_
  rintro e w3 ⟨rfl, S3, hp3, hs3, hk3⟩
  have ht3 := HT2.out.step hp3 hs3 hk3
  have hx3 := (hk3.block _ HLT.out (fun e => by have := HZ.out.1 _ e; omega)).trans HX2.out
  obtain ⟨e0, e1, e2, e3⟩ := acells hx3
  obtain ⟨lv, cv, dv, hr3⟩ := ht3.ref
  obtain ⟨Al, cl, hlv⟩ := ownsRow_form hr3.list
  obtain ⟨r0, r1, -⟩ := hr3.cells
  rw [hlv] at r1
  have HX3 := Lib.hid hx3
  have HT3 := Lib.hid ht3
  have HR3 := Lib.hid hr3
  have HLV := Lib.hid hlv
  have HS3 := Lib.hid (show ∀ b, S3 b → S b ∨ w.heap.size ≤ b from fun b hb => (hs3 b hb).imp id (fun e => Nat.le_trans HB2.out.size e))
  have HK3 := Lib.hid ((Kept.of_below HB2.out).trans (hk3.mono (M' := fun b => S b ∨ T b) (fun _ _ e => .inl e)))
  clear hp3 hs3 hk3 ht3 hx3 hr3 hlv HC c0 c1 c2 c3
  have hdn : decide ((k : Int) < 0) = false := decide_eq_false (by omega)
  have hdl : decide ((q.l.length : Int) ≤ (k : Int)) = false := decide_eq_false (by have := HKL.out; omega)
  have hdk : ¬ q.l.length ≤ k := by have := HKL.out; omega
  go_upto_region 9 with fail
  go_quiet (fail)
  go_upto_region 11 with fail
  refine fresh (P := fun wx => Code.wp _ _ _ _ wx) (C := fun wx => Below w3.heap.size w3 wx) (below_drewN (Below.refl _ _) _) ?_
  intro w4 hb4
  have hr4 := HR3.out.below hb4
  obtain ⟨q0, q1, -⟩ := hr4.cells
  rw [HLV.out] at q1
  have HB4 := Lib.hid hb4
  clear hb4 hr4 e0 e1 e2 e3 r0 r1
  go_quiet (fail)
  go_wp2
  go_ret
  exact bstep_of (w := w) ((HT3.out.below HB4.out).below (below_drewN (Below.refl _ _) _)) HS3.out (fun b hb => .inl hb) (HK3.out.trans (Kept.of_below (HB4.out.trans (below_drewN (Below.refl _ _) _)))) (fun e => beq_iff_eq.2 (HE.out e))
set_option maxRecDepth 100000 in
set_option maxHeartbeats 4000000 in
theorem act_3_add (g r : Nat) (p q : P8) (S T : Nat → Prop) (M : Nat) (P1 : P8) (E1 : Int) (k : Nat) (y : L8) (hP1 : twinR p (k : Int) = (P1, E1)) (hE : p = q → E1 = 0) (hkq : q.l[k]? = some y) (hfree : (q.l.length : Int) < q.room) (b : Int) (A : Option Addr) (n c : Nat) (d : Bs) (w : World) (h : Two w g r p q S T) (hn : n = d.length) (hd : d.length ≤ 1048576) (hA : Lies w M A d) (hM : M ≤ w.heap.size) (hS : ∀ b, S b → M ≤ b) (hT : ∀ b, T b → M ≤ b) :
    Calls Try.prog 11 #[.pointer (some ⟨g, 0, none⟩), .pointer (some ⟨r, 0, none⟩), .agg #[.int .i64 3, .int .i64 (k : Int), .int .i64 b, .slice A n c]] w (BStep (p = q) g r P1 { q with l := q.l ++ [y] } S T w) := by
  have HP1 := Lib.hid hP1
  have HE := Lib.hid hE
  clear hP1 hE
  have HKQ := Lib.hid hkq
  have HKL := Lib.hid (List.getElem?_eq_some_iff.1 hkq).1
  have HFREE := Lib.hid hfree
  clear hkq
  obtain ⟨w1, hw1⟩ : ∃ w1, w1 = w.alloc (.cells #[.int .i64 3, .int .i64 (k : Int), .int .i64 b, .slice A n c] tAct) := ⟨_, rfl⟩
  have hb1 : Below w.heap.size w w1 := by rw [hw1]; exact (Below.refl _ _).alloc (Nat.le_refl _) _
  have hr1 : w1.heap[w.heap.size]? = some (.cells #[.int .i64 3, .int .i64 (k : Int), .int .i64 b, .slice A n c] tAct (0, 0)) := by rw [hw1]; exact heap_alloc_new w _
  obtain ⟨c0, c1, c2, c3⟩ := acells hr1
  obtain ⟨ok, hok⟩ : ∃ ok, ok = decide (Sound8 (k : Int) b) := ⟨_, rfl⟩
  have HH := Lib.hid h
  have HN := Lib.hid hn
  have HD := Lib.hid hd
  have HLA := Lib.hid hA
  have HM := Lib.hid hM
  have HSM := Lib.hid hS
  have HTM := Lib.hid hT
  have HR1 := Lib.hid hr1
  have HB1 := Lib.hid hb1
  have HW1 := Lib.hid hw1
  have HOK := Lib.hid hok
  have HEA := Lib.hid (rEnd_any (k : Int) w1)
  clear h hn hd hA hM hS hT hr1 hb1 hw1 hok
  go_enter Try.func11, Try.ntmps11
  go_upto_region 1 with fail
  rw [← HW1.out]
  go_cut [7] (fun s wx => s = .bool ok ∧ Below w.heap.size w wx ∧ wx.heap[w.heap.size]? = some (.cells #[.int .i64 3, .int .i64 (k : Int), .int .i64 b, .slice A n c] tAct (0, 0)))
  case first =>
    by_cases ha : End8 (k : Int)
    · rw [decide_eq_true ha] at HEA
      by_cases hb : End8 b
      · by_cases hab : (k : Int) = b
        · have hq : ((k : Int) != b) = false := by simp [hab]
          have HOV := Lib.hid (HOK.out.trans (decide_eq_false (fun e : Sound8 (k : Int) b => e.2.2 hab)))
          clear hab
          go_wp2_with fail
          refine HEA.out.mono ?_
          rintro e w2 ⟨rfl, hb2⟩
          have HR2 := Lib.hid ((hb2.block _ (row_lt HR1.out)).trans HR1.out)
          have HB2 := Lib.hid (By.ext HB1.out hb2)
          obtain ⟨e0, e1, e2, e3⟩ := acells HR2.out
          have HEB := Lib.hid (rEnd_any b w2)
          rw [decide_eq_true hb] at HEB
          clear hb2 HEA
          go_wp2_with fail
          refine HEB.out.mono ?_
          rintro e w3 ⟨rfl, hb3⟩
          have HR3 := Lib.hid ((hb3.block _ (row_lt HR2.out)).trans HR2.out)
          have HB3 := Lib.hid (By.ext HB2.out hb3)
          obtain ⟨f0, f1, f2, f3⟩ := acells HR3.out
          clear hb3 HEB
          go_wp2
          go_meet
          exact ⟨by first | rw [HOV.out, hq] | rw [HOV.out], HB3.out, HR3.out⟩
        · have hq : ((k : Int) != b) = true := bne_iff_ne.2 hab
          have HOV := Lib.hid (HOK.out.trans (decide_eq_true (show Sound8 (k : Int) b from ⟨ha, hb, hab⟩)))
          clear hab
          go_wp2_with fail
          refine HEA.out.mono ?_
          rintro e w2 ⟨rfl, hb2⟩
          have HR2 := Lib.hid ((hb2.block _ (row_lt HR1.out)).trans HR1.out)
          have HB2 := Lib.hid (By.ext HB1.out hb2)
          obtain ⟨e0, e1, e2, e3⟩ := acells HR2.out
          have HEB := Lib.hid (rEnd_any b w2)
          rw [decide_eq_true hb] at HEB
          clear hb2 HEA
          go_wp2_with fail
          refine HEB.out.mono ?_
          rintro e w3 ⟨rfl, hb3⟩
          have HR3 := Lib.hid ((hb3.block _ (row_lt HR2.out)).trans HR2.out)
          have HB3 := Lib.hid (By.ext HB2.out hb3)
          obtain ⟨f0, f1, f2, f3⟩ := acells HR3.out
          clear hb3 HEB
          go_wp2
          go_meet
          exact ⟨by first | rw [HOV.out, hq] | rw [HOV.out], HB3.out, HR3.out⟩
      · have HOV := Lib.hid (HOK.out.trans (decide_eq_false (fun e : Sound8 (k : Int) b => hb e.2.1)))
        go_wp2_with fail
        refine HEA.out.mono ?_
        rintro e w2 ⟨rfl, hb2⟩
        have HR2 := Lib.hid ((hb2.block _ (row_lt HR1.out)).trans HR1.out)
        have HB2 := Lib.hid (By.ext HB1.out hb2)
        obtain ⟨e0, e1, e2, e3⟩ := acells HR2.out
        have HEB := Lib.hid (rEnd_any b w2)
        rw [decide_eq_false hb] at HEB
        clear hb2 HEA
        go_wp2_with fail
        refine HEB.out.mono ?_
        rintro e w3 ⟨rfl, hb3⟩
        have HR3 := Lib.hid ((hb3.block _ (row_lt HR2.out)).trans HR2.out)
        have HB3 := Lib.hid (By.ext HB2.out hb3)
        obtain ⟨f0, f1, f2, f3⟩ := acells HR3.out
        clear hb3 HEB
        go_wp2
        go_meet
        exact ⟨by rw [HOV.out], HB3.out, HR3.out⟩
    · rw [decide_eq_false ha] at HEA
      have HOV := Lib.hid (HOK.out.trans (decide_eq_false (fun e : Sound8 (k : Int) b => ha e.1)))
      go_wp2_with fail
      refine HEA.out.mono ?_
      rintro e w2 ⟨rfl, hb2⟩
      have HR2 := Lib.hid ((hb2.block _ (row_lt HR1.out)).trans HR1.out)
      have HB2 := Lib.hid (By.ext HB1.out hb2)
      obtain ⟨e0, e1, e2, e3⟩ := acells HR2.out
      clear hb2 HEA
      go_wp2
      go_meet
      exact ⟨by rw [HOV.out], HB2.out, HR2.out⟩
  obtain ⟨rfl, hb2, hx2⟩ := hcut
  obtain ⟨w2, rfl⟩ : ∃ w2, w2 = wc := ⟨_, rfl⟩
  clear c0 c1 c2 c3 HEA
  obtain ⟨c0, c1, c2, c3⟩ := acells hx2
  have HT2 := Lib.hid (HH.out.below hb2)
  have HB2 := Lib.hid hb2
  have HX2 := Lib.hid hx2
  have HZ := Lib.hid (show (∀ b, S b → b < w.heap.size) ∧ (∀ b, T b → b < w.heap.size) from ⟨fun b hb => HH.out.post.lt hb, fun b hb => HH.out.ref.lt hb⟩)
  have HLT := Lib.hid (row_lt hx2)
  clear hb2 hx2
  have HC := Lib.hid (twin_any g p S (k : Int) w2 HT2.out.post)
  rw [HP1.out] at HC
  go_wp2_with fail
  refine HC.out.mono ?_
  rintro e w3 ⟨rfl, S3, hp3, hs3, hk3⟩
  have ht3 := HT2.out.step hp3 hs3 hk3
  have hx3 := (hk3.block _ HLT.out (fun e => by have := HZ.out.1 _ e; omega)).trans HX2.out
  obtain ⟨e0, e1, e2, e3⟩ := acells hx3
  obtain ⟨lv, cv, dv, hr3⟩ := ht3.ref
  obtain ⟨Al, cl, hlv⟩ := ownsRow_form hr3.list
  obtain ⟨r0, r1, -⟩ := hr3.cells
  rw [hlv] at r1
  have HX3 := Lib.hid hx3
  have HT3 := Lib.hid ht3
  have HR3 := Lib.hid hr3
  have HLV := Lib.hid hlv
  have HS3 := Lib.hid (show ∀ b, S3 b → S b ∨ w.heap.size ≤ b from fun b hb => (hs3 b hb).imp id (fun e => Nat.le_trans HB2.out.size e))
  have HK3 := Lib.hid ((Kept.of_below HB2.out).trans (hk3.mono (M' := fun b => S b ∨ T b) (fun _ _ e => .inl e)))
  clear hp3 hs3 hk3 ht3 hx3 hr3 hlv HC c0 c1 c2 c3
  have hdn : decide ((k : Int) < 0) = false := decide_eq_false (by omega)
  have hdl : decide ((q.l.length : Int) ≤ (k : Int)) = false := decide_eq_false (by have := HKL.out; omega)
  have hdk : ¬ q.l.length ≤ k := by have := HKL.out; omega
  go_upto_region 9 with fail
  go_quiet (fail)
  go_upto_region 11 with fail
  refine fresh (P := fun wx => Code.wp _ _ _ _ wx) (C := fun wx => Below w3.heap.size w3 wx) (below_drewN (Below.refl _ _) _) ?_
  intro w4 hb4
  have hr4 := HR3.out.below hb4
  obtain ⟨q0, q1, -⟩ := hr4.cells
  rw [HLV.out] at q1
  have HB4 := Lib.hid hb4
  clear hb4 hr4 e0 e1 e2 e3 r0 r1
  go_quiet (fail)
  go_upto_region 13 with fail
  refine fresh (P := fun wx => Code.wp _ _ _ _ wx) (C := fun wx => Below w3.heap.size w3 wx) (HB4.out.trans (below_drewN (Below.refl _ _) _)) ?_
  intro w5 hb5
  have hr5 := HR3.out.below hb5
  have hx5 := (hb5.block _ (row_lt HX3.out)).trans HX3.out
  obtain ⟨bl, cl2, Av, cy, hlv5, hdv, d0, d1, d2, hoy, hly⟩ := hr5.letter HKQ.out
  obtain ⟨rfl, rfl⟩ : Al = some ⟨bl, 0, none⟩ ∧ cl = cl2 := by have h1 := HLV.out.symm.trans hlv5; injection h1 with h1 h2 h3; exact ⟨h1, h3⟩
  obtain ⟨q0, q1, -⟩ := hr5.cells
  rw [HLV.out] at q1
  obtain ⟨e0, e1, e2, e3⟩ := acells hx5
  have hba : Below w5.heap.size w5 (w5.alloc (.cells #[.int .i64 0, .int .i64 0, .slice none 0 0] tRL)).drew := ((Below.refl _ _).alloc (Nat.le_refl _) _).drew
  have hra := hr5.below hba
  obtain ⟨p0, p1, -⟩ := hra.cells
  rw [HLV.out] at p1
  obtain ⟨f0, f1, f2, f3⟩ := acells ((hba.block _ (row_lt hx5)).trans hx5)
  have g0 := (hba.cell (p := ⟨bl, k * 3, none⟩) (hr5.lt bl (hr5.sl bl (by rw [HLV.out]; rfl)))).trans d0
  have g1 := (hba.cell (p := ⟨bl, k * 3 + 1, none⟩) (hr5.lt bl (hr5.sl bl (by rw [HLV.out]; rfl)))).trans d1
  have g2 := (hba.cell (p := ⟨bl, k * 3 + 2, none⟩) (hr5.lt bl (hr5.sl bl (by rw [HLV.out]; rfl)))).trans d2
  have hki : (k : Int) < (q.l.length : Int) := by have := HKL.out; omega
  have HB5 := Lib.hid hb5
  have HR5 := Lib.hid hr5
  have HOY := Lib.hid hoy
  have HDV := Lib.hid hdv
  clear hb5 hr5 hx5 hba hra hlv5 hdv hoy hly
  go_region
  all_goals
    go_upto_region 14 with fail
    obtain ⟨w6, hw6⟩ : ∃ w6, w6 = (w5.alloc (.cells #[.int .i64 y.a, .int .i64 y.b, .slice Av y.d.length cy] tRL)).drew := ⟨_, rfl⟩
    have hb6 : Below w5.heap.size w5 w6 := by rw [hw6]; exact ((Below.refl _ _).alloc (Nat.le_refl _) _).drew
    have hx6 : w6.heap[w5.heap.size]? = some (.cells #[.int .i64 y.a, .int .i64 y.b, .slice Av y.d.length cy] tRL (0, 0)) := by rw [hw6]; exact heap_alloc_new w5 _
    have h6 := HR5.out.below hb6
    rw [← hw6]
    clear d0 d1 d2 q0 q1 e0 e1 e2 e3 p0 p1 f0 f1 f2 f3 g0 g1 g2
    obtain ⟨c0, c1, c2⟩ := h6.cells
    rw [HLV.out] at c1
    have hbb : Below w6.heap.size w6 (w6.alloc (.cells #[.int .i64 y.a, .int .i64 y.b, .slice Av y.d.length cy] tRL)).drew := ((Below.refl _ _).alloc (Nat.le_refl _) _).drew
    have h7 := h6.below hbb
    obtain ⟨d0, d1, d2⟩ := h7.cells
    rw [HLV.out] at d1
    obtain ⟨e0, e1, e2⟩ := lcells hx6
    obtain ⟨f0, f1, f2⟩ := lcells ((hbb.block _ (row_lt hx6)).trans hx6)
    have HH6 := Lib.hid h6
    have HB6 := Lib.hid (By.ext HB5.out (hb6.mono (Nat.le_refl _)))
    have HOW := Lib.hid h7.list
    have HRA := Lib.hid h7.row
    have HBB := Lib.hid hbb
    have HNC := Lib.hid (fresh_cells w6 (rC y (.slice Av y.d.length cy)) tRL)
    have HN1 := Lib.hid (rC_one y Av y.d.length cy)
    have HNN := Lib.hid (show q.l.length + 1 ≤ 1073741824 by have := h6.ok.few; have := h6.ok.room.2; omega)
    have HVG := Lib.hid (row_apart h6.list h6.row tRP_neL)
    have HOY6 := Lib.hid (show Own 0 w6 (.slice Av y.d.length cy) y.d from ownsRow_keep HOY.out (fun b hb => hb6.block b (ownsRow_lt HOY.out hb).2))
    have HDS := Lib.hid (HR5.out.data k y _ HKQ.out HDV.out).2
    clear hw6 hb6 hx6 h6 hbb h7
    go_region_law (refine step_appG Try.underlying28 rletInfo rfl (by decide) (by decide) rfl (.tmp 104) (.tmp 106) rfl 0 (.slice (some ⟨bl, 0, none⟩) q.l.length cl) q.l.length (rRow q.l dv) rfl (HLV.out ▸ HOW.out) (some ⟨w6.heap.size, 0, none⟩) 1 1 rfl (rC y (.slice Av y.d.length cy)) rfl HNC.out HN1.out HNN.out (Nat.zero_le _) ?_; intro v8 w8 ho8 hg8 hv8
                   obtain ⟨A8, c8, rfl⟩ := ownsRow_form ho8
                   rw [← HLV.out] at hg8 hv8
                   have hr8 := (hg8.block r (row_lt HRA.out) (fun e => HVG.out e.symm)).trans HRA.out
                   have hc8 : w8.cell? ⟨r, 1, none⟩ = some lv := by rw [cell_of_row w8 r 1 _ _ _ hr8]; rfl
                   have hf8 : w8.frozen? ⟨r, 1, none⟩ = false := frozen_of_row w8 r 1 _ _ hr8
                   have HO8 := Lib.hid ho8
                   have HG8 := Lib.hid hg8
                   have HV8 := Lib.hid hv8
                   have HR8 := Lib.hid hr8
                   clear ho8 hg8 hv8 hr8)
    all_goals
      go_wp2
      go_ret
      obtain ⟨-, T8, hq8, ht8, hk8⟩ := rstep_add (r := .bool true) (HR5.out.ok.lets y (List.mem_of_getElem? HKQ.out)) HFREE.out HH6.out HB6.out (fun b hb => HT3.out.ref.lt hb) HBB.out (ownsRow_keep HOY6.out (fun b hb => HBB.out.block b (ownsRow_lt HOY6.out hb).2)) (fun b hb => .inl (HDS.out b hb)) HO8.out rfl HG8.out HV8.out HR8.out
      exact bstep_of (w := w) (HT3.out.rstep hq8 ht8 hk8) HS3.out (fun b hb => (ht8 b hb).imp id (fun e => Nat.le_trans HK3.out.size e)) (HK3.out.trans (hk8.mono (M' := fun b => S b ∨ T b) (fun _ _ e => .inr e))) (fun e => beq_iff_eq.2 (HE.out e))
end Go.Proofs.Ytenaecpmmbigdaa.Po
