/- The walk of SlotKeeps. -/
import Derived.Test.YtjnmolpopjapnaaDoorSoK
import Derived.Deep.CutBlock
namespace Go.Proofs.YtjnmolpopjapnaaDoor.So
open Go.RowKit Go.Maps By Mp Dk

theorem sys_set {w : World} {g d : Nat} {nm : Bs} {s : DS} {S : Nat → Prop} (h : Sys w g d nm s S) {p : Addr} (hg : p.block ≠ g) (hS : ¬ S p.block) (u : Value) : Sys (w.setCell p u) g d nm s S :=
  h.keep ((Kept.refl (fun b => b = p.block) w).setCell (p := p) (fun _ => rfl) u) (fun b hb => by rw [hb]; exact ⟨hg, hS⟩)
theorem lies_far {w w' : World} {B : Nat} {A : Option Addr} {l : Bs} (h : Lies w B A l) (hb : Below w.heap.size w w') (hB : B ≤ w.heap.size) : Lies w' w'.heap.size A l := (h.keep (fun p hp => hb.cell (Nat.lt_of_lt_of_le hp hB))).more (Nat.le_trans hB hb.size)
set_option maxRecDepth 100000 in
set_option maxHeartbeats 8000000 in
theorem slotKeeps_any (A : Option Addr) (n c : Nat) (D : Bs) (w : World) (hn : n = D.length) (hm : n ≤ 1048576) (hA : Lies w w.heap.size A D) : Calls Tryd.prog 8 #[.slice A n c] w (True_ w) := by
  have HN := Lib.hid (new_any 400000 w rfl)
  have HA := Lib.hid hA
  have HL := Lib.hid hn
  have HM := Lib.hid hm
  have q1 := slotTest
  have hn0 : (0 : Int) ≤ (n : Int) := by omega
  have hn1 : (n : Int) ≤ 1048576 := by omega
  clear hA hn hm
  go_enter Tryd.func8, Tryd.ntmps8
  go_wp2_with fail
  refine HN.out.mono ?_
  rintro e w1 ⟨d, S, rfl, hd1, hS1, hb1⟩
  have HB1 := Lib.hid hb1
  have HS1 := Lib.hid hS1
  have HD1 := Lib.hid hd1
  have HOP := Lib.hid (sopen_any d (newDS 400000) S [118] w1 hd1 rfl rfl)
  clear HN hd1 hS1 hb1
  go_wp2_with fail
  refine HOP.out.mono ?_
  rintro e w2 ⟨g, rfl, hs2, hg2, hb2⟩
  have HY2 := Lib.hid (sys_new HD1.out hs2 hg2 hb2)
  have HB2 := Lib.hid (By.ext HB1.out hb2)
  have HG2 := Lib.hid (show w.heap.size ≤ g by have := HB1.out.size; omega)
  have HAN := Lib.hid (fun w' => answers_any w')
  clear HOP hs2 hg2 hb2
  by_cases h6 : 65520 < n
  · have h6i : (65520 : Int) < (n : Int) := by omega
    clear h6
    go_wp2_with fail
    refine (HAN.out _).mono ?_
    rintro e w3 ⟨rfl, hb3⟩
    have HB3 := Lib.hid (By.ext HB2.out hb3)
    clear hb3
    go_wp2_with fail
    refine (HAN.out _).mono ?_
    rintro e w4 ⟨rfl, hb4⟩
    have HB4 := Lib.hid (By.ext HB3.out hb4)
    clear hb4
    go_wp2
    go_ret
    exact ⟨rfl, HB4.out⟩
  · have h6i : ¬ ((65520 : Int) < (n : Int)) := by omega
    have H6 := Lib.hid h6
    clear h6
    go_wp2_with fail
    refine (HAN.out _).mono ?_
    rintro e w3 ⟨rfl, hb3⟩
    have HB3 := Lib.hid (By.ext HB2.out hb3)
    have HY3 := Lib.hid (HY2.out.below hb3)
    have HA3 := Lib.hid (lies_far HA.out HB3.out (Nat.le_refl _))
    clear hb3
    go_wp2_with (at_builtin; refine wpList_app rfl (.tmp 35) (.tmp 36) rfl rfl (By.Own.made w3 w3.heap.size #[] 0 (Nat.le_refl _) (by decide) rfl) rfl HL.out ((HA3.out.alloc (Nat.le_refl _) _)) (by have := HL.out; simp; omega) (by simp) ?_; intro v4 w4 ho4 hb4 hg4)
    obtain ⟨A4, c4, hv4, -⟩ := ho4.form
    subst hv4
    have HO4 := Lib.hid (show Own w3.heap.size w4 (.slice A4 n c4) D from by have h := ho4; rw [List.nil_append, ← HL.out] at h; exact h)
    have hb34 : Below w3.heap.size w3 w4 := (nAlloc (Below.refl _ _) (Nat.le_refl _) (.cells #[] 5)).trans hb4
    have HB4 := Lib.hid (By.ext HB3.out hb34)
    have HY4 := Lib.hid (HY3.out.below hb34)
    have HZ4 := Lib.hid (show (∀ b, S b → b < w3.heap.size) ∧ g < w3.heap.size from ⟨(dlt HY3.out.disk).1, HY3.out.slot.lt⟩)
    have HSV := Lib.hid (save_ok g d [118] [] 400000 S D A4 n c4 w4 HY4.out rfl (by decide) (notAll_nil _) (by have := HL.out; have := H6.out; omega) (by have := HL.out; have := H6.out; simp [fsize]; omega) HL.out
      ((LiesS.own HO4.out).keep (fun _ _ => rfl) (fun b hb => ⟨fun e => by have := HZ4.out.1 b e; omega, hb.2⟩)))
    rw [List.nil_append, ← HL.out]
    clear ho4 hb4 hg4 hb34
    go_wp2_with fail
    refine HSV.out.mono ?_
    rintro e w5 ⟨rfl, G, S5, hsv, hy5, hS5, hk5⟩
    have HV := Lib.hid (saved_val (next_lt _) (show D.length ≤ 65520 by have := HL.out; have := H6.out; omega) hsv)
    have HY5 := Lib.hid hy5
    have HB5 := Lib.hid (show Below w.heap.size w w5 from HB4.out.trans (hk5.below HB4.out.size (fun b hb => by
      rcases hb with hb | hb
      · exact HS1.out b hb |> fun h => h
      · rw [hb]; exact HG2.out)))
    have HQ := Lib.hid (show ∀ b, (Value.slice A4 n c4).ownBlock = some b → b ≠ g ∧ ¬ S5 b ∧ w.heap.size ≤ b from fun b hb => by
      have h1 := ownsRow_lt HO4.out hb
      refine ⟨fun e => by have := HZ4.out.2; omega, fun e => ?_, by have := HB3.out.size; omega⟩
      rcases hS5 b e with h | h
      · have := HZ4.out.1 b h; omega
      · omega)
    have HO5 := Lib.hid (show Own w3.heap.size w5 (.slice A4 n c4) D from ownsRow_keep HO4.out (fun b hb => hk5.block b (ownsRow_lt HO4.out hb).2 (fun e => by
      have h1 := ownsRow_lt HO4.out hb
      rcases e with e | e
      · have := HZ4.out.1 b e; omega
      · have := HZ4.out.2; omega)))
    clear hsv hy5 hS5 hk5 HSV
    go_upto_block 0 with fail
    go_cut [9] (fun _ wx => Sys wx g d [118] (lev G 400000 0) S5 ∧ Below w.heap.size w wx)
    case first =>
      go_wp2
      go_loopw [9] (fun i wr => ∃ (k : Nat) (lq : Bs), k ≤ n ∧ i = .int .i64 (k : Int) ∧ lq.length = n ∧ Own w3.heap.size wr (.slice A4 n c4) lq ∧ Sys wr g d [118] (lev G 400000 0) S5 ∧ Below w.heap.size w wr) (fun i _ => n - (intOf i).toNat)
      case atStart => exact ⟨0, D, Nat.zero_le _, rfl, HL.out.symm, HO5.out, HY5.out, HB5.out⟩
      case round =>
        obtain ⟨k, lq, hk, rfl, hlq, hoq, hdq, hbq⟩ := hrel
        have HOQ := Lib.hid hoq
        have HDQ := Lib.hid hdq
        have HBQ := Lib.hid hbq
        have HLQ := Lib.hid hlq
        clear hlq hoq hdq hbq
        by_cases hlt : k < n
        · obtain ⟨qb, hqe, hq1, hq2, -⟩ := own_head HOQ.out (show 0 < n by omega)
          subst hqe
          have hcl := own_cell HOQ.out (j := k) (by have := HLQ.out; omega)
          have hfz := own_free HOQ.out HLQ.out.symm k
          have hst := (own_set HOQ.out HLQ.out.symm k 99).1
          have HST := Lib.hid hst
          have hqq := HQ.out qb rfl
          have HDS := Lib.hid (sys_set HDQ.out (p := ⟨qb, k, none⟩) hqq.1 hqq.2.1 (bv 99))
          have HBS := Lib.hid (HBQ.out.setCell (p := ⟨qb, k, none⟩) hqq.2.2 (bv 99))
          clear hst hq1 hq2 hqq
          go_wp2
          go_roundw
          case rel => exact ⟨k + 1, _, by omega, by go_num, by rw [List.length_set]; exact HLQ.out, HST.out, HDS.out, HBS.out⟩
          case measure => simp [intOf]; omega
        · have hki : ¬ ((k : Int) < (n : Int)) := by omega
          go_wp2
          go_meet
          exact ⟨HDQ.out, HBQ.out⟩
    obtain ⟨hyc, hbc⟩ := hcut
    have hlo := load_any g d [118] (lev G 400000 0) S5 wc hyc.slot hyc.disk rfl rfl
    rw [show fileOf (lev G 400000 0).files [118] = fileOf G [118] from rfl, show loadE (fileOf G [118]) = 0 by unfold loadE; rw [HV.out.2.1]; rfl, show loadB (fileOf G [118]) = D by unfold loadB; rw [HV.out.2.1]; rfl] at hlo
    have HLO := Lib.hid hlo
    have HYC := Lib.hid hyc
    have HBC := Lib.hid hbc
    clear hyc hbc hlo
    go_wp2_with fail
    refine HLO.out.mono ?_
    rintro e w7 ⟨v7, rfl, ho7, hb7⟩
    obtain ⟨A7, c7, hv7, _, _, _, hl7, _⟩ := ho7.form
    have HO7 := Lib.hid (show Own wc.heap.size w7 (.slice A7 n c7) D by rw [hv7, ← HL.out] at ho7; exact ho7)
    rw [← HL.out] at hv7
    subst hv7
    have HB7 := Lib.hid (By.ext HBC.out hb7)
    have HY7 := Lib.hid (HYC.out.below hb7)
    have htx := run_text w7 (n := n) c7 HL.out hl7
    have htd := run_text w7 (n := n) c HL.out (lies_far HA.out HB7.out (Nat.le_refl _))
    have htl : ((str D).toList == (str D).toList) = true := by rw [strToList]; simp
    have HQ7 := Lib.hid (show ∀ b, (Value.slice A7 n c7).ownBlock = some b → b ≠ g ∧ ¬ S5 b ∧ w.heap.size ≤ b from fun b hb => by
      have h1 := ownsRow_lt HO7.out hb
      refine ⟨fun e => by have := HYC.out.slot.lt; omega, fun e => by have := (dlt HYC.out.disk).1 b e; omega, by have := HBC.out.size; omega⟩)
    clear ho7 hb7 hl7 HLO
    go_upto_block 2 with fail
    clear htx htd htl
    go_cut [13] (fun _ wx => Sys wx g d [118] (lev G 400000 0) S5 ∧ Below w.heap.size w wx)
    case first =>
      go_wp2
      go_loopw [13] (fun i wr => ∃ (k : Nat) (lq : Bs), k ≤ n ∧ i = .int .i64 (k : Int) ∧ lq.length = n ∧ Own wc.heap.size wr (.slice A7 n c7) lq ∧ Sys wr g d [118] (lev G 400000 0) S5 ∧ Below w.heap.size w wr) (fun i _ => n - (intOf i).toNat)
      case atStart => exact ⟨0, D, Nat.zero_le _, rfl, HL.out.symm, HO7.out, HY7.out, HB7.out⟩
      case round =>
        obtain ⟨k, lq, hk, rfl, hlq, hoq, hdq, hbq⟩ := hrel
        have HOQ := Lib.hid hoq
        have HDQ := Lib.hid hdq
        have HBQ := Lib.hid hbq
        have HLQ := Lib.hid hlq
        clear hlq hoq hdq hbq
        by_cases hlt : k < n
        · obtain ⟨qb, hqe, hq1, hq2, -⟩ := own_head HOQ.out (show 0 < n by omega)
          subst hqe
          have hcl := own_cell HOQ.out (j := k) (by have := HLQ.out; omega)
          have hfz := own_free HOQ.out HLQ.out.symm k
          have hst := (own_set HOQ.out HLQ.out.symm k 98).1
          have HST := Lib.hid hst
          have hqq := HQ7.out qb rfl
          have HDS := Lib.hid (sys_set HDQ.out (p := ⟨qb, k, none⟩) hqq.1 hqq.2.1 (bv 98))
          have HBS := Lib.hid (HBQ.out.setCell (p := ⟨qb, k, none⟩) hqq.2.2 (bv 98))
          clear hst hq1 hq2 hqq
          go_wp2
          go_roundw
          case rel => exact ⟨k + 1, _, by omega, by go_num, by rw [List.length_set]; exact HLQ.out, HST.out, HDS.out, HBS.out⟩
          case measure => simp [intOf]; omega
        · have hki : ¬ ((k : Int) < (n : Int)) := by omega
          go_wp2
          go_meet
          exact ⟨HDQ.out, HBQ.out⟩
    obtain ⟨hyx, hbx⟩ := hcut
    have hhs := has_any g d [118] (lev G 400000 0) S5 D A n c true _ hyx.slot hyx.disk rfl rfl HL.out (lies_far HA.out hbx (Nat.le_refl _))
    rw [show fileOf (lev G 400000 0).files [118] = fileOf G [118] from rfl, show hasB (fileOf G [118]) D true = true by unfold hasB; rw [HV.out.2.1]; simp] at hhs
    have HHS := Lib.hid hhs
    have HBX := Lib.hid hbx
    clear hyx hbx hhs
    go_wp2_with fail
    refine HHS.out.mono ?_
    rintro e w9 ⟨rfl, hb9⟩
    have HB9 := Lib.hid (By.ext HBX.out hb9)
    clear hb9
    go_wp2
    go_ret
    exact ⟨rfl, HB9.out⟩
end Go.Proofs.YtjnmolpopjapnaaDoor.So
