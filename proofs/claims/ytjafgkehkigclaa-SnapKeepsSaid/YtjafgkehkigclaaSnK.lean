/- SnapKeeps' walk. -/
import Derived.Test.YtjafgkehkigclaaSnJ
namespace Go.Proofs.Ytjafgkehkigclaa.Sn
open Go.RowKit By

theorem addR_end (x : Bs) (hx : x.length ≤ 256) : addR ⟨1, 1, x⟩ ⟨1, 1, (x.length : Int), true, []⟩ = ⟨⟨0, 0, []⟩, x.length, x, true, 0⟩ := by
  have hh : hasD ⟨1, 1, x⟩ 1 1 = x := if_pos ⟨rfl, rfl⟩
  have hl : laidD x x.length true [] = x := by
    unfold laidD
    rw [if_neg (fun h => by cases h.2), List.take_length, List.append_nil]
  unfold addR
  dsimp only
  rw [if_neg (by simp), hh, if_neg (by omega)]
  rw [show ((x.length : Int)).toNat = x.length by omega, hl, if_neg (by omega)]
  rfl
/-- Bytes of the call's own are set one by one. -/
def Worn (base : Nat) (v : Value) (n : Nat) (w wr : World) : Prop := Kept (fun b => v.ownBlock = some b) w wr ∧ ∃ lq : Bs, lq.length = n ∧ Own base wr v lq
theorem Worn.start {base : Nat} {v : Value} {n : Nat} {w : World} {l : Bs} (h : Own base w v l) (hn : l.length = n) : Worn base v n w w := ⟨Kept.refl _ _, l, hn, h⟩
set_option maxRecDepth 100000 in
set_option maxHeartbeats 6400000 in
theorem snapKeeps_any (A : Option Addr) (n c : Nat) (l : Bs) (w : World) (hn : n = l.length) (hc : n ≤ c) (hm : n ≤ 140737488351232) (hA : Lies w w.heap.size A l) :
    Calls Try.prog 7 #[.slice A n c] w (True_ w) := by
  have HN := Lib.hid hn
  have HM := Lib.hid hm
  have HA := Lib.hid hA
  have HC0 := Lib.hid hc
  have q1 := ptrTest
  clear hn hm hA hc
  go_enter Try.func7, Try.ntmps7
  go_wp2_with fail
  refine (new_any w).mono ?_
  rintro e w1 ⟨rfl, hj1, hb1, hz1⟩
  obtain ⟨g, hg⟩ : ∃ g, g = w.heap.size := ⟨_, rfl⟩
  rw [← hg] at hj1 hz1 ⊢
  have HB1 := Lib.hid hb1
  have HJ1 := Lib.hid hj1
  have HG := Lib.hid (show w.heap.size ≤ g from Nat.le_of_eq hg.symm)
  clear hg hj1 hb1 hz1
  go_wp2_with fail
  refine (answers_any w1).mono ?_
  rintro e w2 ⟨rfl, hb2⟩
  have HB2 := Lib.hid (By.ext HB1.out hb2)
  have HJ2 := Lib.hid (HJ1.out.below hb2)
  clear hb2
  go_wp2_with (at_builtin; refine wpList_app rfl (.tmp 31) (.tmp 32) rfl rfl (snoc_own w2 w2.heap.size (Nat.le_refl _)) rfl HN.out ((lext HA.out HB2.out).alloc (Nat.le_refl _) _) (by have := HN.out; have := HM.out; simp; omega) (by simp) ?_
               intro v3 w3 ho3 hb3 hg3
               rw [List.nil_append] at ho3
               obtain ⟨A3, c3, hv3, hc3, -, -, hl3, -⟩ := ho3.form
               rw [← HN.out] at hv3
               subst hv3
               have hb23 : Below w2.heap.size w2 w3 := (nAlloc (Below.refl _ _) (Nat.le_refl _) _).trans hb3
               have HB3 := Lib.hid (By.ext HB2.out hb23)
               have HJ3 := Lib.hid (HJ2.out.below hb23)
               have HO3 := Lib.hid ho3
               have HC := Lib.hid (show Calls Try.prog 8 #[.int .u64 1, .int .u64 1, .slice A3 n c3, .int .i64 0] w3 (CutPost (cutP l 1 1 0) 0 w3) from cut_in 1 1 A3 n c3 0 l w3 HN.out (by rw [HN.out]; exact hc3) (Nat.zero_le _) (by have := HM.out; omega) hl3)
               clear ho3 hb3 hg3 hc3 hl3 hb23)
  refine HC.out.mono ?_
  rintro e w4 ⟨A4, c4, rfl, ho4, hb4⟩
  obtain ⟨x, hx⟩ : ∃ x, x = (l.drop 0).take 256 := ⟨_, rfl⟩
  obtain ⟨pl, hpl⟩ : ∃ x, x = decide (l.length ≤ 0 + 256) := ⟨_, rfl⟩
  have hcp : cutP l 1 1 0 = ⟨1, 1, 0, pl, x⟩ := by unfold cutP; rw [hx, hpl]; rfl
  have hxl : x.length = min n 256 := by rw [hx, HN.out]; simp; omega
  have hxt : x = l.take x.length := by
    rw [hxl, hx, HN.out]; simp only [List.drop_zero]
    rcases Nat.le_total l.length 256 with h | h
    · rw [Nat.min_eq_left h, List.take_length, List.take_of_length_le h]
    · rw [Nat.min_eq_right h]
  rw [hcp] at ho4 ⊢
  dsimp only [pC] at ho4 ⊢
  obtain ⟨k, hk⟩ : ∃ k, k = x.length := ⟨_, rfl⟩
  rw [← hk] at hxl hxt ho4 ⊢
  have HX := Lib.hid hk
  have HXL := Lib.hid hxl
  have HXT := Lib.hid hxt
  obtain ⟨w5, hw5⟩ : ∃ w5, w5 = w4.alloc (.cells #[.int .u64 1, .int .u64 1, .int .i64 0, .bool pl, .slice A4 k c4] tP) := ⟨_, rfl⟩
  have hb35 : Below w3.heap.size w3 w5 := by rw [hw5]; exact nAlloc hb4 (Nat.le_refl _) _
  obtain ⟨pb, hpb⟩ : ∃ b, b = w4.heap.size := ⟨_, rfl⟩
  have HB5 := Lib.hid (By.ext HB3.out hb35)
  have HJ5 := Lib.hid (HJ3.out.below hb35)
  have HI5 := Lib.hid (show Own w2.heap.size w5 (.slice A3 n c3) l from HO3.out.kept hb35 (Nat.le_refl _))
  have HI5B := Lib.hid (fun (b : Nat) (hb : (Value.slice A3 n c3).ownBlock = some b) => (ownsRow_lt HO3.out hb))
  have HR5 := Lib.hid (show w5.heap[pb]? = some (.cells #[.int .u64 1, .int .u64 1, .int .i64 0, .bool pl, .slice A4 k c4] tP (0, 0)) by rw [hw5, hpb]; exact heap_alloc_new w4 _)
  have HP5 := Lib.hid (show Own w3.heap.size w5 (.slice A4 k c4) x by rw [hw5]; exact Own.alloc ho4 _)
  have HP5B := Lib.hid (fun (b : Nat) (hb : (Value.slice A4 k c4).ownBlock = some b) => show w3.heap.size ≤ b ∧ b < pb by rw [hpb]; exact ownsRow_lt ho4 hb)
  have HW5 := Lib.hid hw5
  have HPB := Lib.hid hpb
  have HG3 := Lib.hid HJ3.out.lt
  have HZ3 := Lib.hid (show w3.heap.size ≤ pb by rw [hpb]; exact hb4.size)
  clear ho4 hb4 hw5 hb35 hpb hx hpl hcp hxl hxt hk HC
  have HPC := Lib.hid (show Calls Try.prog 13 #[.agg #[.int .u64 1, .int .u64 1, .int .i64 0, .bool false, .slice A4 k c4]] w5 (PiecePost ⟨1, 1, 0, false, x⟩ w5) from piece_any 1 1 k c4 0 false x A4 w5 HX.out (by have := HX.out; have := HXL.out; omega) (by have h := HP5.out; rw [HX.out] at h; exact own_lies h))
  go_upto_region 8 with fail
  rw [← HW5.out, ← HPB.out]
  clear HW5 HPB
  obtain ⟨x0, x1, x2, x3, x4⟩ := pcells HR5.out
  go_wp2_with fail
  refine HPC.out.mono ?_
  rintro e w6 ⟨A6, c6, rfl, ho6, hb6⟩
  dsimp only [pC] at ho6 ⊢
  rw [← HX.out] at ho6 ⊢
  obtain ⟨w7, hw7⟩ : ∃ w7, w7 = w6.alloc (.cells #[.int .u64 1, .int .u64 1, .int .i64 0, .bool false, .slice A6 k c6] tP) := ⟨_, rfl⟩
  have hb57 : Below w5.heap.size w5 w7 := by rw [hw7]; exact nAlloc hb6 (Nat.le_refl _) _
  obtain ⟨qb, hqb⟩ : ∃ b, b = w6.heap.size := ⟨_, rfl⟩
  have HB7 := Lib.hid (By.ext HB5.out hb57)
  have HJ7 := Lib.hid (HJ5.out.below hb57)
  have HI7 := Lib.hid (show Own w2.heap.size w7 (.slice A3 n c3) l from HI5.out.kept hb57 (Nat.le_refl _))
  have HR7 := Lib.hid ((hb57.block _ (row_lt HR5.out)).trans HR5.out)
  have HP7 := Lib.hid (show Own w3.heap.size w7 (.slice A4 k c4) x from HP5.out.kept hb57 (Nat.le_refl _))
  have HQ7 := Lib.hid (show Own w5.heap.size w7 (.slice A6 k c6) x by rw [hw7]; exact Own.alloc ho6 _)
  have HQ7B := Lib.hid (fun (b : Nat) (hb : (Value.slice A6 k c6).ownBlock = some b) => show w5.heap.size ≤ b ∧ b < qb by rw [hqb]; exact ownsRow_lt ho6 hb)
  have HS7 := Lib.hid (show w7.heap[qb]? = some (.cells #[.int .u64 1, .int .u64 1, .int .i64 0, .bool false, .slice A6 k c6] tP (0, 0)) by rw [hw7, hqb]; exact heap_alloc_new w6 _)
  have HZ5 := Lib.hid (show w5.heap.size ≤ qb by rw [hqb]; exact hb6.size)
  have HPQ := Lib.hid (row_lt HR5.out)
  have HW7 := Lib.hid hw7
  have HQB := Lib.hid hqb
  clear ho6 hb6 hw7 hb57 hqb HPC x0 x1 x2 x3 x4
  go_upto_region 9 with fail
  rw [← HW7.out, ← HQB.out]
  clear HW7 HQB
  have hk8 : (k : Int) ≤ 256 := by have := HXL.out; omega
  go_wp2
  go_loopw [8] (fun i wr => ∃ s : Nat, s ≤ k ∧ i = .int .i64 (s : Int) ∧ Worn w3.heap.size (.slice A4 k c4) k w7 wr) (fun i _ => k - (intOf i).toNat)
  case atStart => exact ⟨0, Nat.zero_le _, rfl, Worn.start HP7.out HX.out.symm⟩
  case round =>
    obtain ⟨s, hs, rfl, hkw, lq, hlq, hoq⟩ := hrel
    have hrow := (hkw.block _ (row_lt HR7.out) (fun e => by have := (HP5B.out _ e).2; omega)).trans HR7.out
    obtain ⟨x0, x1, x2, x3, x4⟩ := pcells hrow
    by_cases hlt : s < k
    · obtain ⟨P, hPe, hP1, hP2, -⟩ := own_head hoq (show 0 < k by omega)
      subst hPe
      have HLQ := Lib.hid hlq
      have hcl := own_cell hoq (j := s) (by rw [HLQ.out]; omega)
      have hfz := own_free hoq hlq.symm s
      have HST := Lib.hid (own_set hoq hlq.symm s 99).1
      have HK := Lib.hid (hkw.setCell (p := ⟨P, s, none⟩) (fun _ => rfl) (bv 99))
      clear hkw hoq hrow hP1 hP2 hlq
      go_wp2
      go_roundw
      case rel => exact ⟨s + 1, by omega, by go_num, HK.out, _, by rw [List.length_set]; exact HLQ.out, HST.out⟩
      case measure => simp [intOf]; omega
    · have hki : ¬ ((s : Int) < (k : Int)) := by omega
      have HBr := Lib.hid (show Below w.heap.size w wr from HB7.out.trans (hkw.below HB7.out.size (fun b hb => Nat.le_trans HB3.out.size (HP5B.out b hb).1)))
      have HJr := Lib.hid (HJ7.out.keep (hkw.block g HJ7.out.lt (fun e => by have := (HP5B.out g e).1; have := HG3.out; omega)))
      have HIr := Lib.hid (show Own w2.heap.size wr (.slice A3 n c3) l from ownsRow_keep HI7.out (fun b hb => hkw.block b (ownsRow_lt HI7.out hb).2 (fun e => by have := (HP5B.out b e).1; have := (HI5B.out b hb).2; omega)))
      have HQr := Lib.hid (show Own w5.heap.size wr (.slice A6 k c6) x from ownsRow_keep HQ7.out (fun b hb => hkw.block b (ownsRow_lt HQ7.out hb).2 (fun e => by have := (HP5B.out b e).2; have := (HQ7B.out b hb).1; have := HPQ.out; omega)))
      have HSr := Lib.hid ((hkw.block _ (row_lt HS7.out) (fun e => by have := (HP5B.out _ e).2; have := HZ5.out; have := HPQ.out; omega)).trans HS7.out)
      clear hlq hoq hrow hkw
      go_upto_region 13 with fail
      clear x0 x1 x2 x3 x4
      have t1 := run_text wr c3 HN.out (by have h := HIr.out; rw [HN.out] at h; exact own_lies h)
      have t2 := run_text wr c HN.out (lext HA.out HBr.out)
      have hq := strEq l
      go_upto_region 15 with fail
      clear t1 t2 hq
      obtain ⟨x0, x1, x2, x3, x4⟩ := pcells HSr.out
      have HADD := Lib.hid (show Calls Try.prog 12 #[.pointer (some ⟨g, 0, none⟩), .agg #[.int .u64 1, .int .u64 1, .int .i64 0, .bool false, .slice A6 k c6]] wr (AddPost g ⟨⟨1, 1, x⟩, x.length, [], false, 0⟩ wr) by
        have h := add_any g ⟨0, 0, []⟩ ⟨1, 1, 0, false, x⟩ A6 c6 wr HJr.out (Nat.zero_le _) (by have h := HQr.out; rw [HX.out] at h; exact own_lies h)
        rw [addR_new _ 1 1 x (by omega) (by have := HX.out; have := HXL.out; omega) (fun h => by cases h.1)] at h
        rw [HX.out]
        exact h)
      go_wp2_with fail
      refine HADD.out.mono ?_
      rintro e wa ⟨Aa, ca, rfl, hla, hja, hka⟩
      dsimp only at hja ⊢
      have HGX := Lib.hid (show g < w3.heap.size from HG3.out)
      have HJa := Lib.hid hja
      have HBa := Lib.hid (HBr.out.trans (hka.below HBr.out.size (fun b hb => by rw [hb]; exact HG.out)))
      have HIa := Lib.hid (show Own w2.heap.size wa (.slice A3 n c3) l from ownsRow_keep HIr.out (fun b hb => hka.block b (ownsRow_lt HIr.out hb).2 (fun e => by have := (HI5B.out b hb).1; have := HJ2.out.lt; have e : b = g := e; omega)))
      have HQa := Lib.hid (show Own w5.heap.size wa (.slice A6 k c6) x from ownsRow_keep HQr.out (fun b hb => hka.block b (ownsRow_lt HQr.out hb).2 (fun e => by have := (HQ7B.out b hb).1; have := HJ5.out.lt; have e : b = g := e; omega)))
      have HSa := Lib.hid ((hka.block _ (row_lt HSr.out) (fun e => by have := HZ5.out; have := HJ5.out.lt; have e : qb = g := e; omega)).trans HSr.out)
      clear hla hja hka HADD x0 x1 x2 x3 x4
      go_wp2
      go_loopw [9] (fun i wr => ∃ s : Nat, s ≤ k ∧ i = .int .i64 (s : Int) ∧ Worn w5.heap.size (.slice A6 k c6) k wa wr) (fun i _ => k - (intOf i).toNat)
      case atStart => exact ⟨0, Nat.zero_le _, rfl, Worn.start HQa.out HX.out.symm⟩
      case round =>
        obtain ⟨s2, hs2, rfl, hkw, lq, hlq, hoq⟩ := hrel
        have hrow := (hkw.block _ (row_lt HSa.out) (fun e => by have := (HQ7B.out _ e).2; omega)).trans HSa.out
        obtain ⟨x0, x1, x2, x3, x4⟩ := pcells hrow
        by_cases hlt : s2 < k
        · obtain ⟨P, hPe, hP1, hP2, -⟩ := own_head hoq (show 0 < k by omega)
          subst hPe
          have HLQ := Lib.hid hlq
          have hcl := own_cell hoq (j := s2) (by rw [HLQ.out]; omega)
          have hfz := own_free hoq hlq.symm s2
          have HST := Lib.hid (own_set hoq hlq.symm s2 98).1
          have HK := Lib.hid (hkw.setCell (p := ⟨P, s2, none⟩) (fun _ => rfl) (bv 98))
          clear hkw hoq hrow hP1 hP2 hlq
          go_wp2
          go_roundw
          case rel => exact ⟨s2 + 1, by omega, by go_num, HK.out, _, by rw [List.length_set]; exact HLQ.out, HST.out⟩
          case measure => simp [intOf]; omega
        · have hki2 : ¬ ((s2 : Int) < (k : Int)) := by omega
          have HBv := Lib.hid (show Below w.heap.size w wr from HBa.out.trans (hkw.below HBa.out.size (fun b hb => Nat.le_trans HB5.out.size (HQ7B.out b hb).1)))
          have HJv := Lib.hid (HJa.out.keep (hkw.block g HJa.out.lt (fun e => by have := (HQ7B.out g e).1; have := HJ5.out.lt; omega)))
          clear hlq hoq hrow hkw
          go_upto_region 20 with fail
          obtain ⟨wE, hwE⟩ : ∃ x, x = wr.alloc (.cells #[.int .u64 1, .int .u64 1, .int .i64 (k : Int), .bool true, .slice none 0 0] tP) := ⟨_, rfl⟩
          have HBE := Lib.hid (show Below w.heap.size w wE by rw [hwE]; exact HBv.out.alloc HBv.out.size _)
          have HJE := Lib.hid (show JAt wE g ⟨1, 1, x⟩ by rw [hwE]; exact HJv.out.keep (heap_alloc_old wr _ HJv.out.lt))
          have HRE := Lib.hid (show wE.heap[wr.heap.size]? = some (.cells #[.int .u64 1, .int .u64 1, .int .i64 (k : Int), .bool true, .slice none 0 0] tP (0, 0)) by rw [hwE]; exact heap_alloc_new wr _)
          have HGE := Lib.hid (show g ≠ wr.heap.size from Nat.ne_of_lt HJv.out.lt)
          have HWE := Lib.hid hwE
          clear hwE
          go_upto_region 21 with fail
          rw [← HWE.out]
          clear HWE x0 x1 x2 x3 x4
          obtain ⟨x0, x1, x2, x3, x4⟩ := pcells HRE.out
          have HADD := Lib.hid (show Calls Try.prog 12 #[.pointer (some ⟨g, 0, none⟩), .agg #[.int .u64 1, .int .u64 1, .int .i64 (k : Int), .bool true, .slice none 0 0]] wE (AddPost g ⟨⟨0, 0, []⟩, x.length, x, true, 0⟩ wE) by
            have h := add_any g ⟨1, 1, x⟩ ⟨1, 1, (x.length : Int), true, []⟩ none 0 wE HJE.out (by have := HX.out; have := HXL.out; show x.length ≤ 32768; omega) (Lies.empty _ _ _)
            rw [addR_end x (by have := HX.out; have := HXL.out; omega)] at h
            rw [HX.out]
            exact h)
          go_wp2_with fail
          refine HADD.out.mono ?_
          rintro e w9 ⟨A9, c9, rfl, hl9, hj9, hk9⟩
          dsimp only at hl9 hj9 ⊢
          rw [← HX.out]
          have HB9 := Lib.hid (HBE.out.trans (hk9.below HBE.out.size (fun b hb => by rw [hb]; exact HG.out)))
          have HL9 := Lib.hid hl9
          have HR9 := Lib.hid ((hk9.block _ (row_lt HRE.out) (fun e => HGE.out e.symm)).trans HRE.out)
          clear hl9 hj9 hk9 HADD x0 x1 x2 x3 x4
          obtain ⟨x0, x1, x2, x3, x4⟩ := pcells HR9.out
          by_cases h256 : n ≤ 256
          · obtain rfl : k = n := by have := HXL.out; omega
            have h2 : ¬ ((256 : Int) < (k : Int)) := by omega
            have hs1 := fun w' => run_to' w' A k c k HC0.out
            clear h256
            have HNIL := Lib.hid (show Calls Try.prog 12 #[.pointer none, .agg #[.int .u64 1, .int .u64 1, .int .i64 (k : Int), .bool true, .slice none 0 0]] w9 (RetB (.tuple #[.int .i64 0, .slice none 0 0, .bool false, .int .i64 1]) w9) from add_nil ⟨1, 1, (k : Int), true, []⟩ none 0 w9)
            go_wp2_with fail
            refine HNIL.out.mono ?_
            rintro e wa2 ⟨rfl, hba⟩
            have HBA := Lib.hid (By.ext HB9.out hba)
            have HLA := Lib.hid (lext HL9.out hba)
            clear hba x0 x1 x2 x3 x4 HNIL
            go_wp2_with fail
            refine (have_nil wa2).mono ?_
            rintro e wb2 ⟨rfl, hbb⟩
            have HBB := Lib.hid (By.ext HBA.out hbb)
            have t1 := fun q => run_text (wb2.drewN q) c9 HX.out ((lext HLA.out hbb).drewN q)
            have t2 : ∀ q, (convert 23 9 (.slice A k c)).run Try.prog (wb2.drewN q) = .ok (.string (str x)) (wb2.drewN q) := fun q => run_text (wb2.drewN q) c HX.out (by
              have h := lies_take (lext HA.out HBB.out) k
              rw [← HXT.out] at h
              exact h.drewN q)
            have hq := strEq x
            clear hbb
            go_wp2
            go_quiet (fail)
            go_wp2
            go_ret
            exact ⟨rfl, below_drewN HBB.out _⟩
          · have h2 : (256 : Int) < (n : Int) := by omega
            obtain rfl : k = 256 := by have := HXL.out; omega
            have hs1 : ∀ w', (Instr.slice 23 (.slice A n c) none (some (.int .i64 256)) none).run Try.prog w' = .ok (.slice A 256 c) w' := fun w' => run_to' w' A n c 256 (by have := HC0.out; omega)
            clear h256
            have HNIL := Lib.hid (show Calls Try.prog 12 #[.pointer none, .agg #[.int .u64 1, .int .u64 1, .int .i64 256, .bool true, .slice none 0 0]] w9 (RetB (.tuple #[.int .i64 0, .slice none 0 0, .bool false, .int .i64 1]) w9) from add_nil ⟨1, 1, 256, true, []⟩ none 0 w9)
            go_wp2_with fail
            refine HNIL.out.mono ?_
            rintro e wa2 ⟨rfl, hba⟩
            have HBA := Lib.hid (By.ext HB9.out hba)
            have HLA := Lib.hid (lext HL9.out hba)
            clear hba x0 x1 x2 x3 x4 HNIL
            go_wp2_with fail
            refine (have_nil wa2).mono ?_
            rintro e wb2 ⟨rfl, hbb⟩
            have HBB := Lib.hid (By.ext HBA.out hbb)
            have t1 := fun q => run_text (wb2.drewN q) c9 HX.out ((lext HLA.out hbb).drewN q)
            have t2 : ∀ q, (convert 23 9 (.slice A 256 c)).run Try.prog (wb2.drewN q) = .ok (.string (str x)) (wb2.drewN q) := fun q => run_text (wb2.drewN q) c HX.out (by
              have h := lies_take (lext HA.out HBB.out) 256
              rw [← HXT.out] at h
              exact h.drewN q)
            have hq := strEq x
            clear hbb
            go_wp2
            go_quiet (fail)
            go_wp2
            go_ret
            exact ⟨rfl, below_drewN HBB.out _⟩
end Go.Proofs.Ytjafgkehkigclaa.Sn
