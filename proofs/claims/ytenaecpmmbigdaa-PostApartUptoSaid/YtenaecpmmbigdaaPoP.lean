/- The law's act, kinds 1, 2, 6 and others, as a contract of a call. -/
import Derived.Test.YtenaecpmmbigdaaPoO
import Derived.BigQuiet
import Derived.RegionTactic
namespace Go.Proofs.Ytenaecpmmbigdaa.Po
open Go.RowKit Go.Maps By Mp

set_option maxRecDepth 100000 in
set_option maxHeartbeats 4000000 in
theorem act_1 (g r : Nat) (p q : P8) (S T : Nat → Prop) (M : Nat) (a b : Int) (A : Option Addr) (n c : Nat) (d : Bs) (w : World) (h : Two w g r p q S T) (hn : n = d.length) (hd : d.length ≤ 1048576) (hA : Lies w M A d) (hM : M ≤ w.heap.size) (hS : ∀ b, S b → M ≤ b) (hT : ∀ b, T b → M ≤ b) :
    Calls Try.prog 11 #[.pointer (some ⟨g, 0, none⟩), .pointer (some ⟨r, 0, none⟩), .agg #[.int .i64 1, .int .i64 a, .int .i64 b, .slice A n c]] w (BStep (p = q) g r (sendR p a b d).1 (sendR q a b d).1 S T w) := by
  obtain ⟨P1, E1, hP1⟩ : ∃ P1 E1, sendR p a b d = (P1, E1) := ⟨_, _, rfl⟩
  obtain ⟨Q1, E2, hQ1⟩ : ∃ Q1 E2, sendR q a b d = (Q1, E2) := ⟨_, _, rfl⟩
  rw [hP1, hQ1]
  dsimp only
  have HP1 := Lib.hid hP1
  have HQ1 := Lib.hid hQ1
  clear hP1 hQ1
  obtain ⟨w1, hw1⟩ : ∃ w1, w1 = w.alloc (.cells #[.int .i64 1, .int .i64 a, .int .i64 b, .slice A n c] tAct) := ⟨_, rfl⟩
  have hb1 : Below w.heap.size w w1 := by rw [hw1]; exact (Below.refl _ _).alloc (Nat.le_refl _) _
  have hr1 : w1.heap[w.heap.size]? = some (.cells #[.int .i64 1, .int .i64 a, .int .i64 b, .slice A n c] tAct (0, 0)) := by rw [hw1]; exact heap_alloc_new w _
  obtain ⟨c0, c1, c2, c3⟩ := acells hr1
  obtain ⟨ok, hok⟩ : ∃ ok, ok = decide (Sound8 a b) := ⟨_, rfl⟩
  have HH := Lib.hid h
  have HN := Lib.hid hn
  have HD := Lib.hid hd
  have HLA := Lib.hid hA
  have HM := Lib.hid hM
  have HSM := Lib.hid hS
  have HTM := Lib.hid hT
  have HR1 := Lib.hid hr1
  have HB1 := Lib.hid hb1
  have HW1 := Lib.hid hw1
  have HOK := Lib.hid hok
  have HEA := Lib.hid (rEnd_any a w1)
  clear h hn hd hA hM hS hT hr1 hb1 hw1 hok
  go_enter Try.func11, Try.ntmps11
  go_upto_region 1 with fail
  rw [← HW1.out]
  go_cut [7] (fun s wx => s = .bool ok ∧ Below w.heap.size w wx ∧ wx.heap[w.heap.size]? = some (.cells #[.int .i64 1, .int .i64 a, .int .i64 b, .slice A n c] tAct (0, 0)))
  case first =>
    by_cases ha : End8 a
    · rw [decide_eq_true ha] at HEA
      by_cases hb : End8 b
      · by_cases hab : a = b
        · have hq : (a != b) = false := by simp [hab]
          have HOV := Lib.hid (HOK.out.trans (decide_eq_false (fun e : Sound8 a b => e.2.2 hab)))
          clear hab
          go_wp2_with fail
          refine HEA.out.mono ?_
          rintro e w2 ⟨rfl, hb2⟩
          have HR2 := Lib.hid ((hb2.block _ (row_lt HR1.out)).trans HR1.out)
          have HB2 := Lib.hid (By.ext HB1.out hb2)
          obtain ⟨e0, e1, e2, e3⟩ := acells HR2.out
          have HEB := Lib.hid (rEnd_any b w2)
          rw [decide_eq_true hb] at HEB
          clear hb2 HEA
          go_wp2_with fail
          refine HEB.out.mono ?_
          rintro e w3 ⟨rfl, hb3⟩
          have HR3 := Lib.hid ((hb3.block _ (row_lt HR2.out)).trans HR2.out)
          have HB3 := Lib.hid (By.ext HB2.out hb3)
          obtain ⟨f0, f1, f2, f3⟩ := acells HR3.out
          clear hb3 HEB
          go_wp2
          go_meet
          exact ⟨by first | rw [HOV.out, hq] | rw [HOV.out], HB3.out, HR3.out⟩
        · have hq : (a != b) = true := bne_iff_ne.2 hab
          have HOV := Lib.hid (HOK.out.trans (decide_eq_true (show Sound8 a b from ⟨ha, hb, hab⟩)))
          clear hab
          go_wp2_with fail
          refine HEA.out.mono ?_
          rintro e w2 ⟨rfl, hb2⟩
          have HR2 := Lib.hid ((hb2.block _ (row_lt HR1.out)).trans HR1.out)
          have HB2 := Lib.hid (By.ext HB1.out hb2)
          obtain ⟨e0, e1, e2, e3⟩ := acells HR2.out
          have HEB := Lib.hid (rEnd_any b w2)
          rw [decide_eq_true hb] at HEB
          clear hb2 HEA
          go_wp2_with fail
          refine HEB.out.mono ?_
          rintro e w3 ⟨rfl, hb3⟩
          have HR3 := Lib.hid ((hb3.block _ (row_lt HR2.out)).trans HR2.out)
          have HB3 := Lib.hid (By.ext HB2.out hb3)
          obtain ⟨f0, f1, f2, f3⟩ := acells HR3.out
          clear hb3 HEB
          go_wp2
          go_meet
          exact ⟨by first | rw [HOV.out, hq] | rw [HOV.out], HB3.out, HR3.out⟩
      · have HOV := Lib.hid (HOK.out.trans (decide_eq_false (fun e : Sound8 a b => hb e.2.1)))
        go_wp2_with fail
        refine HEA.out.mono ?_
        rintro e w2 ⟨rfl, hb2⟩
        have HR2 := Lib.hid ((hb2.block _ (row_lt HR1.out)).trans HR1.out)
        have HB2 := Lib.hid (By.ext HB1.out hb2)
        obtain ⟨e0, e1, e2, e3⟩ := acells HR2.out
        have HEB := Lib.hid (rEnd_any b w2)
        rw [decide_eq_false hb] at HEB
        clear hb2 HEA
        go_wp2_with fail
        refine HEB.out.mono ?_
        rintro e w3 ⟨rfl, hb3⟩
        have HR3 := Lib.hid ((hb3.block _ (row_lt HR2.out)).trans HR2.out)
        have HB3 := Lib.hid (By.ext HB2.out hb3)
        obtain ⟨f0, f1, f2, f3⟩ := acells HR3.out
        clear hb3 HEB
        go_wp2
        go_meet
        exact ⟨by rw [HOV.out], HB3.out, HR3.out⟩
    · rw [decide_eq_false ha] at HEA
      have HOV := Lib.hid (HOK.out.trans (decide_eq_false (fun e : Sound8 a b => ha e.1)))
      go_wp2_with fail
      refine HEA.out.mono ?_
      rintro e w2 ⟨rfl, hb2⟩
      have HR2 := Lib.hid ((hb2.block _ (row_lt HR1.out)).trans HR1.out)
      have HB2 := Lib.hid (By.ext HB1.out hb2)
      obtain ⟨e0, e1, e2, e3⟩ := acells HR2.out
      clear hb2 HEA
      go_wp2
      go_meet
      exact ⟨by rw [HOV.out], HB2.out, HR2.out⟩
  obtain ⟨rfl, hb2, hx2⟩ := hcut
  obtain ⟨w2, rfl⟩ : ∃ w2, w2 = wc := ⟨_, rfl⟩
  clear c0 c1 c2 c3 HEA
  obtain ⟨c0, c1, c2, c3⟩ := acells hx2
  have HT2 := Lib.hid (HH.out.below hb2)
  have HB2 := Lib.hid hb2
  have HX2 := Lib.hid hx2
  have HZ := Lib.hid (show (∀ b, S b → b < w.heap.size) ∧ (∀ b, T b → b < w.heap.size) from ⟨fun b hb => HH.out.post.lt hb, fun b hb => HH.out.ref.lt hb⟩)
  have HLT := Lib.hid (row_lt hx2)
  clear hb2 hx2
  have hba : Below w2.heap.size w2 (w2.alloc (.cells #[] 5)).drew := ((Below.refl _ _).alloc (Nat.le_refl _) _).drew
  obtain ⟨d0, d1, d2, d3⟩ := acells ((hba.block _ HLT.out).trans HX2.out)
  have HBA := Lib.hid hba
  have HOWN := Lib.hid (show Own w2.heap.size (w2.alloc (.cells #[] 5)).drew (.slice (some ⟨w2.heap.size, 0, none⟩) 0 0) [] from Own.made w2 w2.heap.size #[] 0 (Nat.le_refl _) (by decide) rfl)
  have HLD := Lib.hid (show Lies (w2.alloc (.cells #[] 5)).drew M A d from HLA.out.below ((HB2.out.trans (hba.mono HB2.out.size)).mono HM.out))
  clear hba
  go_upto_region 4 with fail
  have cD : w2.drew.cell? ⟨w.heap.size, 1, none⟩ = some (.int .i64 a) ∧ w2.drew.cell? ⟨w.heap.size, 2, none⟩ = some (.int .i64 b) ∧ w2.drew.cell? ⟨w.heap.size, 3, none⟩ = some (.slice A n c) := ⟨c1, c2, c3⟩
  have dD : (w2.alloc (.cells #[] 5)).cell? ⟨w.heap.size, 1, none⟩ = some (.int .i64 a) ∧ (w2.alloc (.cells #[] 5)).cell? ⟨w.heap.size, 2, none⟩ = some (.int .i64 b) ∧ (w2.alloc (.cells #[] 5)).cell? ⟨w.heap.size, 3, none⟩ = some (.slice A n c) := ⟨d1, d2, d3⟩
  have HCC := Lib.hid (And.intro c1 (And.intro c2 c3))
  have HDD := Lib.hid (And.intro d1 (And.intro d2 d3))
  have HCD := Lib.hid cD
  have HDE := Lib.hid dD
  clear cD dD
  go_region_held3 (fun w' => w'.cell? ⟨w.heap.size, 1, none⟩ = some (.int .i64 a) ∧ w'.cell? ⟨w.heap.size, 2, none⟩ = some (.int .i64 b) ∧ w'.cell? ⟨w.heap.size, 3, none⟩ = some (.slice A n c))
    (first
      | with_reducible assumption
      | with_reducible exact HCC.out
      | with_reducible exact HCD.out
      | with_reducible exact HDD.out
      | with_reducible exact HDE.out
      | with_reducible exact HEE.out
      | with_reducible exact HII.out
      | with_reducible exact HJJ.out)
    (first
    | (refine step_appB rfl (.tmp 38) (.tmp 40) rfl (v := .slice (some ⟨w2.heap.size, 0, none⟩) 0 0) (by simp [Act.eval]) HOWN.out (A := A) (m := n) (c := c) (by simp [Act.eval]) HN.out HLD.out (by have := HD.out; show 0 + d.length ≤ _; omega) HBA.out.size ?_
       intro v3 w3 ho3 hb3 hg3
       rw [List.nil_append] at ho3
       obtain ⟨A3, c3x, hv3, -, -, -, hl3, -⟩ := ho3.form
       subst hv3
       have hb23 : Below w2.heap.size w2 w3 := HBA.out.trans hb3
       have hx3 := (hb23.block _ HLT.out).trans HX2.out
       obtain ⟨e0, e1, e2, e3⟩ := acells hx3
       have HSND := Lib.hid (send_any g p S a b A3 d.length c3x d w3 (HT2.out.post.below hb23) rfl hl3)
       rw [HP1.out] at HSND
       have HEE := Lib.hid (And.intro e1 (And.intro e2 e3))
       have HX3 := Lib.hid hx3
       have HB3 := Lib.hid (By.ext HB2.out hb23)
       have HT3 := Lib.hid (HT2.out.below hb23)
       clear ho3 hb3 hg3 hb23 hx3 hl3)
    | (go_at_call 13; refine HSND.out.mono ?_; rintro e w4 ⟨rfl, S4, hp4, hs4, hk4⟩
       have hx4 := (hk4.block _ (row_lt HX3.out) (fun e => by have := HZ.out.1 _ e; omega)).trans HX3.out
       obtain ⟨i0, i1, i2, i3⟩ := acells hx4
       have hM4 : Below M w w4 := (HB3.out.mono HM.out).trans (hk4.below (Nat.le_trans HM.out HB3.out.size) HSM.out)
       have HT4 := Lib.hid (HT3.out.step hp4 hs4 hk4)
       have HRSD := Lib.hid (rsend_any r q T a b A n c d w4 HT4.out.ref HN.out ((HLA.out.below hM4).more (Nat.le_trans HM.out hM4.size)))
       rw [HQ1.out] at HRSD
       have HS4 := Lib.hid (show ∀ b, S4 b → S b ∨ w.heap.size ≤ b from fun b hb => (hs4 b hb).imp id (fun e => Nat.le_trans HB3.out.size e))
       have HK4 := Lib.hid ((Kept.of_below HB3.out).trans (hk4.mono (M' := fun b => S b ∨ T b) (fun _ _ e => .inl e)))
       have HII := Lib.hid (And.intro i1 (And.intro i2 i3))
       have HX4 := Lib.hid hx4
       clear hx4 hM4 hp4 hs4 hk4)
    | (go_at_call 23; refine HRSD.out.mono ?_; rintro e w5 ⟨rfl, T5, hq5, ht5, hk5⟩
       obtain ⟨j0, j1, j2, j3⟩ := acells ((hk5.block _ (row_lt HX4.out) (fun e => by have := HZ.out.2 _ e; omega)).trans HX4.out)
       have HJJ := Lib.hid (And.intro j1 (And.intro j2 j3))
       have HFIN := Lib.hid (fun v => bstep_of (v := v) (w := w) (HT4.out.rstep hq5 ht5 hk5) HS4.out (fun b hb => (ht5 b hb).imp id (fun e => Nat.le_trans HK4.out.size e)) (HK4.out.trans (hk5.mono (M' := fun b => S b ∨ T b) (fun _ _ e => .inr e))) (ok := p = q))
       clear hq5 ht5 hk5))
  all_goals
    go_wp2
    go_ret
    exact HFIN.out _ (fun e => by
      have h1 := HP1.out
      rw [e, HQ1.out] at h1
      injection h1 with _ h1
      rw [h1]; exact beq_self_eq_true _)
set_option maxRecDepth 100000 in
set_option maxHeartbeats 4000000 in
theorem act_2 (g r : Nat) (p q : P8) (S T : Nat → Prop) (M : Nat) (a b : Int) (A : Option Addr) (n c : Nat) (d : Bs) (w : World) (h : Two w g r p q S T) (hn : n = d.length) (hd : d.length ≤ 1048576) (hA : Lies w M A d) (hM : M ≤ w.heap.size) (hS : ∀ b, S b → M ≤ b) (hT : ∀ b, T b → M ≤ b) :
    Calls Try.prog 11 #[.pointer (some ⟨g, 0, none⟩), .pointer (some ⟨r, 0, none⟩), .agg #[.int .i64 2, .int .i64 a, .int .i64 b, .slice A n c]] w (BStep (p = q) g r (lookP p a true).1 (lookQ q a true) S T w) := by
  obtain ⟨w1, hw1⟩ : ∃ w1, w1 = w.alloc (.cells #[.int .i64 2, .int .i64 a, .int .i64 b, .slice A n c] tAct) := ⟨_, rfl⟩
  have hb1 : Below w.heap.size w w1 := by rw [hw1]; exact (Below.refl _ _).alloc (Nat.le_refl _) _
  have hr1 : w1.heap[w.heap.size]? = some (.cells #[.int .i64 2, .int .i64 a, .int .i64 b, .slice A n c] tAct (0, 0)) := by rw [hw1]; exact heap_alloc_new w _
  obtain ⟨c0, c1, c2, c3⟩ := acells hr1
  obtain ⟨ok, hok⟩ : ∃ ok, ok = decide (Sound8 a b) := ⟨_, rfl⟩
  have HH := Lib.hid h
  have HN := Lib.hid hn
  have HD := Lib.hid hd
  have HLA := Lib.hid hA
  have HM := Lib.hid hM
  have HSM := Lib.hid hS
  have HTM := Lib.hid hT
  have HR1 := Lib.hid hr1
  have HB1 := Lib.hid hb1
  have HW1 := Lib.hid hw1
  have HOK := Lib.hid hok
  have HEA := Lib.hid (rEnd_any a w1)
  clear h hn hd hA hM hS hT hr1 hb1 hw1 hok
  go_enter Try.func11, Try.ntmps11
  go_upto_region 1 with fail
  rw [← HW1.out]
  go_cut [7] (fun s wx => s = .bool ok ∧ Below w.heap.size w wx ∧ wx.heap[w.heap.size]? = some (.cells #[.int .i64 2, .int .i64 a, .int .i64 b, .slice A n c] tAct (0, 0)))
  case first =>
    by_cases ha : End8 a
    · rw [decide_eq_true ha] at HEA
      by_cases hb : End8 b
      · by_cases hab : a = b
        · have hq : (a != b) = false := by simp [hab]
          have HOV := Lib.hid (HOK.out.trans (decide_eq_false (fun e : Sound8 a b => e.2.2 hab)))
          clear hab
          go_wp2_with fail
          refine HEA.out.mono ?_
          rintro e w2 ⟨rfl, hb2⟩
          have HR2 := Lib.hid ((hb2.block _ (row_lt HR1.out)).trans HR1.out)
          have HB2 := Lib.hid (By.ext HB1.out hb2)
          obtain ⟨e0, e1, e2, e3⟩ := acells HR2.out
          have HEB := Lib.hid (rEnd_any b w2)
          rw [decide_eq_true hb] at HEB
          clear hb2 HEA
          go_wp2_with fail
          refine HEB.out.mono ?_
          rintro e w3 ⟨rfl, hb3⟩
          have HR3 := Lib.hid ((hb3.block _ (row_lt HR2.out)).trans HR2.out)
          have HB3 := Lib.hid (By.ext HB2.out hb3)
          obtain ⟨f0, f1, f2, f3⟩ := acells HR3.out
          clear hb3 HEB
          go_wp2
          go_meet
          exact ⟨by first | rw [HOV.out, hq] | rw [HOV.out], HB3.out, HR3.out⟩
        · have hq : (a != b) = true := bne_iff_ne.2 hab
          have HOV := Lib.hid (HOK.out.trans (decide_eq_true (show Sound8 a b from ⟨ha, hb, hab⟩)))
          clear hab
          go_wp2_with fail
          refine HEA.out.mono ?_
          rintro e w2 ⟨rfl, hb2⟩
          have HR2 := Lib.hid ((hb2.block _ (row_lt HR1.out)).trans HR1.out)
          have HB2 := Lib.hid (By.ext HB1.out hb2)
          obtain ⟨e0, e1, e2, e3⟩ := acells HR2.out
          have HEB := Lib.hid (rEnd_any b w2)
          rw [decide_eq_true hb] at HEB
          clear hb2 HEA
          go_wp2_with fail
          refine HEB.out.mono ?_
          rintro e w3 ⟨rfl, hb3⟩
          have HR3 := Lib.hid ((hb3.block _ (row_lt HR2.out)).trans HR2.out)
          have HB3 := Lib.hid (By.ext HB2.out hb3)
          obtain ⟨f0, f1, f2, f3⟩ := acells HR3.out
          clear hb3 HEB
          go_wp2
          go_meet
          exact ⟨by first | rw [HOV.out, hq] | rw [HOV.out], HB3.out, HR3.out⟩
      · have HOV := Lib.hid (HOK.out.trans (decide_eq_false (fun e : Sound8 a b => hb e.2.1)))
        go_wp2_with fail
        refine HEA.out.mono ?_
        rintro e w2 ⟨rfl, hb2⟩
        have HR2 := Lib.hid ((hb2.block _ (row_lt HR1.out)).trans HR1.out)
        have HB2 := Lib.hid (By.ext HB1.out hb2)
        obtain ⟨e0, e1, e2, e3⟩ := acells HR2.out
        have HEB := Lib.hid (rEnd_any b w2)
        rw [decide_eq_false hb] at HEB
        clear hb2 HEA
        go_wp2_with fail
        refine HEB.out.mono ?_
        rintro e w3 ⟨rfl, hb3⟩
        have HR3 := Lib.hid ((hb3.block _ (row_lt HR2.out)).trans HR2.out)
        have HB3 := Lib.hid (By.ext HB2.out hb3)
        obtain ⟨f0, f1, f2, f3⟩ := acells HR3.out
        clear hb3 HEB
        go_wp2
        go_meet
        exact ⟨by rw [HOV.out], HB3.out, HR3.out⟩
    · rw [decide_eq_false ha] at HEA
      have HOV := Lib.hid (HOK.out.trans (decide_eq_false (fun e : Sound8 a b => ha e.1)))
      go_wp2_with fail
      refine HEA.out.mono ?_
      rintro e w2 ⟨rfl, hb2⟩
      have HR2 := Lib.hid ((hb2.block _ (row_lt HR1.out)).trans HR1.out)
      have HB2 := Lib.hid (By.ext HB1.out hb2)
      obtain ⟨e0, e1, e2, e3⟩ := acells HR2.out
      clear hb2 HEA
      go_wp2
      go_meet
      exact ⟨by rw [HOV.out], HB2.out, HR2.out⟩
  obtain ⟨rfl, hb2, hx2⟩ := hcut
  obtain ⟨w2, rfl⟩ : ∃ w2, w2 = wc := ⟨_, rfl⟩
  clear c0 c1 c2 c3 HEA
  obtain ⟨c0, c1, c2, c3⟩ := acells hx2
  have HT2 := Lib.hid (HH.out.below hb2)
  have HB2 := Lib.hid hb2
  have HX2 := Lib.hid hx2
  have HZ := Lib.hid (show (∀ b, S b → b < w.heap.size) ∧ (∀ b, T b → b < w.heap.size) from ⟨fun b hb => HH.out.post.lt hb, fun b hb => HH.out.ref.lt hb⟩)
  have HLT := Lib.hid (row_lt hx2)
  clear hb2 hx2
  have HLK := Lib.hid (look_any g r p q S T a true w2 HT2.out)
  go_wp2_with fail
  refine HLK.out.mono ?_
  rintro e w3 ⟨bb, rfl, hv, S3, T3, ht3, hs3, hr3, hk3⟩
  have HFIN := Lib.hid (bstep_of (w := w) ht3 (fun b hb => (hs3 b hb).imp id (fun e => Nat.le_trans HB2.out.size e)) (fun b hb => (hr3 b hb).imp id (fun e => Nat.le_trans HB2.out.size e)) ((Kept.of_below HB2.out).trans hk3) hv)
  clear ht3 hs3 hr3 hk3 hv HLK
  go_wp2
  go_ret
  exact HFIN.out
set_option maxRecDepth 100000 in
set_option maxHeartbeats 4000000 in
theorem act_6 (g r : Nat) (p q : P8) (S T : Nat → Prop) (M : Nat) (a b : Int) (A : Option Addr) (n c : Nat) (d : Bs) (w : World) (h : Two w g r p q S T) (hn : n = d.length) (hd : d.length ≤ 1048576) (hA : Lies w M A d) (hM : M ≤ w.heap.size) (hS : ∀ b, S b → M ≤ b) (hT : ∀ b, T b → M ≤ b) :
    Calls Try.prog 11 #[.pointer (some ⟨g, 0, none⟩), .pointer (some ⟨r, 0, none⟩), .agg #[.int .i64 6, .int .i64 a, .int .i64 b, .slice A n c]] w (BStep (p = q) g r p q S T w) := by
  obtain ⟨w1, hw1⟩ : ∃ w1, w1 = w.alloc (.cells #[.int .i64 6, .int .i64 a, .int .i64 b, .slice A n c] tAct) := ⟨_, rfl⟩
  have hb1 : Below w.heap.size w w1 := by rw [hw1]; exact (Below.refl _ _).alloc (Nat.le_refl _) _
  have hr1 : w1.heap[w.heap.size]? = some (.cells #[.int .i64 6, .int .i64 a, .int .i64 b, .slice A n c] tAct (0, 0)) := by rw [hw1]; exact heap_alloc_new w _
  obtain ⟨c0, c1, c2, c3⟩ := acells hr1
  obtain ⟨ok, hok⟩ : ∃ ok, ok = decide (Sound8 a b) := ⟨_, rfl⟩
  have HH := Lib.hid h
  have HN := Lib.hid hn
  have HD := Lib.hid hd
  have HLA := Lib.hid hA
  have HM := Lib.hid hM
  have HSM := Lib.hid hS
  have HTM := Lib.hid hT
  have HR1 := Lib.hid hr1
  have HB1 := Lib.hid hb1
  have HW1 := Lib.hid hw1
  have HOK := Lib.hid hok
  have HEA := Lib.hid (rEnd_any a w1)
  clear h hn hd hA hM hS hT hr1 hb1 hw1 hok
  go_enter Try.func11, Try.ntmps11
  go_upto_region 1 with fail
  rw [← HW1.out]
  go_cut [7] (fun s wx => s = .bool ok ∧ Below w.heap.size w wx ∧ wx.heap[w.heap.size]? = some (.cells #[.int .i64 6, .int .i64 a, .int .i64 b, .slice A n c] tAct (0, 0)))
  case first =>
    by_cases ha : End8 a
    · rw [decide_eq_true ha] at HEA
      by_cases hb : End8 b
      · by_cases hab : a = b
        · have hq : (a != b) = false := by simp [hab]
          have HOV := Lib.hid (HOK.out.trans (decide_eq_false (fun e : Sound8 a b => e.2.2 hab)))
          clear hab
          go_wp2_with fail
          refine HEA.out.mono ?_
          rintro e w2 ⟨rfl, hb2⟩
          have HR2 := Lib.hid ((hb2.block _ (row_lt HR1.out)).trans HR1.out)
          have HB2 := Lib.hid (By.ext HB1.out hb2)
          obtain ⟨e0, e1, e2, e3⟩ := acells HR2.out
          have HEB := Lib.hid (rEnd_any b w2)
          rw [decide_eq_true hb] at HEB
          clear hb2 HEA
          go_wp2_with fail
          refine HEB.out.mono ?_
          rintro e w3 ⟨rfl, hb3⟩
          have HR3 := Lib.hid ((hb3.block _ (row_lt HR2.out)).trans HR2.out)
          have HB3 := Lib.hid (By.ext HB2.out hb3)
          obtain ⟨f0, f1, f2, f3⟩ := acells HR3.out
          clear hb3 HEB
          go_wp2
          go_meet
          exact ⟨by first | rw [HOV.out, hq] | rw [HOV.out], HB3.out, HR3.out⟩
        · have hq : (a != b) = true := bne_iff_ne.2 hab
          have HOV := Lib.hid (HOK.out.trans (decide_eq_true (show Sound8 a b from ⟨ha, hb, hab⟩)))
          clear hab
          go_wp2_with fail
          refine HEA.out.mono ?_
          rintro e w2 ⟨rfl, hb2⟩
          have HR2 := Lib.hid ((hb2.block _ (row_lt HR1.out)).trans HR1.out)
          have HB2 := Lib.hid (By.ext HB1.out hb2)
          obtain ⟨e0, e1, e2, e3⟩ := acells HR2.out
          have HEB := Lib.hid (rEnd_any b w2)
          rw [decide_eq_true hb] at HEB
          clear hb2 HEA
          go_wp2_with fail
          refine HEB.out.mono ?_
          rintro e w3 ⟨rfl, hb3⟩
          have HR3 := Lib.hid ((hb3.block _ (row_lt HR2.out)).trans HR2.out)
          have HB3 := Lib.hid (By.ext HB2.out hb3)
          obtain ⟨f0, f1, f2, f3⟩ := acells HR3.out
          clear hb3 HEB
          go_wp2
          go_meet
          exact ⟨by first | rw [HOV.out, hq] | rw [HOV.out], HB3.out, HR3.out⟩
      · have HOV := Lib.hid (HOK.out.trans (decide_eq_false (fun e : Sound8 a b => hb e.2.1)))
        go_wp2_with fail
        refine HEA.out.mono ?_
        rintro e w2 ⟨rfl, hb2⟩
        have HR2 := Lib.hid ((hb2.block _ (row_lt HR1.out)).trans HR1.out)
        have HB2 := Lib.hid (By.ext HB1.out hb2)
        obtain ⟨e0, e1, e2, e3⟩ := acells HR2.out
        have HEB := Lib.hid (rEnd_any b w2)
        rw [decide_eq_false hb] at HEB
        clear hb2 HEA
        go_wp2_with fail
        refine HEB.out.mono ?_
        rintro e w3 ⟨rfl, hb3⟩
        have HR3 := Lib.hid ((hb3.block _ (row_lt HR2.out)).trans HR2.out)
        have HB3 := Lib.hid (By.ext HB2.out hb3)
        obtain ⟨f0, f1, f2, f3⟩ := acells HR3.out
        clear hb3 HEB
        go_wp2
        go_meet
        exact ⟨by rw [HOV.out], HB3.out, HR3.out⟩
    · rw [decide_eq_false ha] at HEA
      have HOV := Lib.hid (HOK.out.trans (decide_eq_false (fun e : Sound8 a b => ha e.1)))
      go_wp2_with fail
      refine HEA.out.mono ?_
      rintro e w2 ⟨rfl, hb2⟩
      have HR2 := Lib.hid ((hb2.block _ (row_lt HR1.out)).trans HR1.out)
      have HB2 := Lib.hid (By.ext HB1.out hb2)
      obtain ⟨e0, e1, e2, e3⟩ := acells HR2.out
      clear hb2 HEA
      go_wp2
      go_meet
      exact ⟨by rw [HOV.out], HB2.out, HR2.out⟩
  obtain ⟨rfl, hb2, hx2⟩ := hcut
  obtain ⟨w2, rfl⟩ : ∃ w2, w2 = wc := ⟨_, rfl⟩
  clear c0 c1 c2 c3 HEA
  obtain ⟨c0, c1, c2, c3⟩ := acells hx2
  have HT2 := Lib.hid (HH.out.below hb2)
  have HB2 := Lib.hid hb2
  have HX2 := Lib.hid hx2
  have HZ := Lib.hid (show (∀ b, S b → b < w.heap.size) ∧ (∀ b, T b → b < w.heap.size) from ⟨fun b hb => HH.out.post.lt hb, fun b hb => HH.out.ref.lt hb⟩)
  have HLT := Lib.hid (row_lt hx2)
  clear hb2 hx2
  go_wp2
  go_ret
  exact bstep_of (w := w) HT2.out (fun b hb => .inl hb) (fun b hb => .inl hb) (Kept.of_below HB2.out) (fun _ => rfl)
set_option maxRecDepth 100000 in
set_option maxHeartbeats 4000000 in
theorem act_o (g r : Nat) (p q : P8) (S T : Nat → Prop) (M : Nat) (kd : Int) (k1 : (kd == 1) = false) (k2 : (kd == 2) = false) (k3 : (kd == 3) = false) (k4 : (kd == 4) = false) (k5 : (kd == 5) = false) (k6 : (kd == 6) = false) (a b : Int) (A : Option Addr) (n c : Nat) (d : Bs) (w : World) (h : Two w g r p q S T) (hn : n = d.length) (hd : d.length ≤ 1048576) (hA : Lies w M A d) (hM : M ≤ w.heap.size) (hS : ∀ b, S b → M ≤ b) (hT : ∀ b, T b → M ≤ b) :
    Calls Try.prog 11 #[.pointer (some ⟨g, 0, none⟩), .pointer (some ⟨r, 0, none⟩), .agg #[.int .i64 kd, .int .i64 a, .int .i64 b, .slice A n c]] w (BStep (p = q) g r (lookP p a false).1 (lookQ q a false) S T w) := by
  obtain ⟨w1, hw1⟩ : ∃ w1, w1 = w.alloc (.cells #[.int .i64 kd, .int .i64 a, .int .i64 b, .slice A n c] tAct) := ⟨_, rfl⟩
  have hb1 : Below w.heap.size w w1 := by rw [hw1]; exact (Below.refl _ _).alloc (Nat.le_refl _) _
  have hr1 : w1.heap[w.heap.size]? = some (.cells #[.int .i64 kd, .int .i64 a, .int .i64 b, .slice A n c] tAct (0, 0)) := by rw [hw1]; exact heap_alloc_new w _
  obtain ⟨c0, c1, c2, c3⟩ := acells hr1
  obtain ⟨ok, hok⟩ : ∃ ok, ok = decide (Sound8 a b) := ⟨_, rfl⟩
  have HH := Lib.hid h
  have HN := Lib.hid hn
  have HD := Lib.hid hd
  have HLA := Lib.hid hA
  have HM := Lib.hid hM
  have HSM := Lib.hid hS
  have HTM := Lib.hid hT
  have HR1 := Lib.hid hr1
  have HB1 := Lib.hid hb1
  have HW1 := Lib.hid hw1
  have HOK := Lib.hid hok
  have HEA := Lib.hid (rEnd_any a w1)
  clear h hn hd hA hM hS hT hr1 hb1 hw1 hok
  go_enter Try.func11, Try.ntmps11
  go_upto_region 1 with fail
  rw [← HW1.out]
  go_cut [7] (fun s wx => s = .bool ok ∧ Below w.heap.size w wx ∧ wx.heap[w.heap.size]? = some (.cells #[.int .i64 kd, .int .i64 a, .int .i64 b, .slice A n c] tAct (0, 0)))
  case first =>
    by_cases ha : End8 a
    · rw [decide_eq_true ha] at HEA
      by_cases hb : End8 b
      · by_cases hab : a = b
        · have hq : (a != b) = false := by simp [hab]
          have HOV := Lib.hid (HOK.out.trans (decide_eq_false (fun e : Sound8 a b => e.2.2 hab)))
          clear hab
          go_wp2_with fail
          refine HEA.out.mono ?_
          rintro e w2 ⟨rfl, hb2⟩
          have HR2 := Lib.hid ((hb2.block _ (row_lt HR1.out)).trans HR1.out)
          have HB2 := Lib.hid (By.ext HB1.out hb2)
          obtain ⟨e0, e1, e2, e3⟩ := acells HR2.out
          have HEB := Lib.hid (rEnd_any b w2)
          rw [decide_eq_true hb] at HEB
          clear hb2 HEA
          go_wp2_with fail
          refine HEB.out.mono ?_
          rintro e w3 ⟨rfl, hb3⟩
          have HR3 := Lib.hid ((hb3.block _ (row_lt HR2.out)).trans HR2.out)
          have HB3 := Lib.hid (By.ext HB2.out hb3)
          obtain ⟨f0, f1, f2, f3⟩ := acells HR3.out
          clear hb3 HEB
          go_wp2
          go_meet
          exact ⟨by first | rw [HOV.out, hq] | rw [HOV.out], HB3.out, HR3.out⟩
        · have hq : (a != b) = true := bne_iff_ne.2 hab
          have HOV := Lib.hid (HOK.out.trans (decide_eq_true (show Sound8 a b from ⟨ha, hb, hab⟩)))
          clear hab
          go_wp2_with fail
          refine HEA.out.mono ?_
          rintro e w2 ⟨rfl, hb2⟩
          have HR2 := Lib.hid ((hb2.block _ (row_lt HR1.out)).trans HR1.out)
          have HB2 := Lib.hid (By.ext HB1.out hb2)
          obtain ⟨e0, e1, e2, e3⟩ := acells HR2.out
          have HEB := Lib.hid (rEnd_any b w2)
          rw [decide_eq_true hb] at HEB
          clear hb2 HEA
          go_wp2_with fail
          refine HEB.out.mono ?_
          rintro e w3 ⟨rfl, hb3⟩
          have HR3 := Lib.hid ((hb3.block _ (row_lt HR2.out)).trans HR2.out)
          have HB3 := Lib.hid (By.ext HB2.out hb3)
          obtain ⟨f0, f1, f2, f3⟩ := acells HR3.out
          clear hb3 HEB
          go_wp2
          go_meet
          exact ⟨by first | rw [HOV.out, hq] | rw [HOV.out], HB3.out, HR3.out⟩
      · have HOV := Lib.hid (HOK.out.trans (decide_eq_false (fun e : Sound8 a b => hb e.2.1)))
        go_wp2_with fail
        refine HEA.out.mono ?_
        rintro e w2 ⟨rfl, hb2⟩
        have HR2 := Lib.hid ((hb2.block _ (row_lt HR1.out)).trans HR1.out)
        have HB2 := Lib.hid (By.ext HB1.out hb2)
        obtain ⟨e0, e1, e2, e3⟩ := acells HR2.out
        have HEB := Lib.hid (rEnd_any b w2)
        rw [decide_eq_false hb] at HEB
        clear hb2 HEA
        go_wp2_with fail
        refine HEB.out.mono ?_
        rintro e w3 ⟨rfl, hb3⟩
        have HR3 := Lib.hid ((hb3.block _ (row_lt HR2.out)).trans HR2.out)
        have HB3 := Lib.hid (By.ext HB2.out hb3)
        obtain ⟨f0, f1, f2, f3⟩ := acells HR3.out
        clear hb3 HEB
        go_wp2
        go_meet
        exact ⟨by rw [HOV.out], HB3.out, HR3.out⟩
    · rw [decide_eq_false ha] at HEA
      have HOV := Lib.hid (HOK.out.trans (decide_eq_false (fun e : Sound8 a b => ha e.1)))
      go_wp2_with fail
      refine HEA.out.mono ?_
      rintro e w2 ⟨rfl, hb2⟩
      have HR2 := Lib.hid ((hb2.block _ (row_lt HR1.out)).trans HR1.out)
      have HB2 := Lib.hid (By.ext HB1.out hb2)
      obtain ⟨e0, e1, e2, e3⟩ := acells HR2.out
      clear hb2 HEA
      go_wp2
      go_meet
      exact ⟨by rw [HOV.out], HB2.out, HR2.out⟩
  obtain ⟨rfl, hb2, hx2⟩ := hcut
  obtain ⟨w2, rfl⟩ : ∃ w2, w2 = wc := ⟨_, rfl⟩
  clear c0 c1 c2 c3 HEA
  obtain ⟨c0, c1, c2, c3⟩ := acells hx2
  have HT2 := Lib.hid (HH.out.below hb2)
  have HB2 := Lib.hid hb2
  have HX2 := Lib.hid hx2
  have HZ := Lib.hid (show (∀ b, S b → b < w.heap.size) ∧ (∀ b, T b → b < w.heap.size) from ⟨fun b hb => HH.out.post.lt hb, fun b hb => HH.out.ref.lt hb⟩)
  have HLT := Lib.hid (row_lt hx2)
  clear hb2 hx2
  have HLK := Lib.hid (look_any g r p q S T a false w2 HT2.out)
  go_wp2_with fail
  refine HLK.out.mono ?_
  rintro e w3 ⟨bb, rfl, hv, S3, T3, ht3, hs3, hr3, hk3⟩
  have HFIN := Lib.hid (bstep_of (w := w) ht3 (fun b hb => (hs3 b hb).imp id (fun e => Nat.le_trans HB2.out.size e)) (fun b hb => (hr3 b hb).imp id (fun e => Nat.le_trans HB2.out.size e)) ((Kept.of_below HB2.out).trans hk3) hv)
  clear ht3 hs3 hr3 hk3 hv HLK
  go_wp2
  go_ret
  exact HFIN.out
end Go.Proofs.Ytenaecpmmbigdaa.Po
