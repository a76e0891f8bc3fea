/- The law RlogSplits, walked. -/
import Derived.Test.YtdbaajgkcjpnoaaGreatRhE
namespace Go.Proofs.YtdbaajgkcjpnoaaGreat.Rg
open Go.RowKit By CoP Co Mo Kd

theorem pairs_of {B : Nat} {w1 w2 : World} {p q x y : Nat} {s : Lg} {F G : Nat → Prop} (h1 : TwoAt B w1 p q s s F) (h2 : TwoAt B w2 x y s s G) (hG : ∀ b, G b → w1.heap.size ≤ b) (hb : Below w1.heap.size w1 w2) : Pairs B w2 p q x y s s s s :=
  ⟨F, G, h1.below hb, h2, fun b e1 e2 => by have := (h1.lt b e1).2; have := hG b e2; omega⟩
theorem appA_zero {s : Lg} {i t : Nat} {l : List En} {L f : Nat} (h : appA s i t l = (L, f, 0)) : okL i t l = true ∧ fits s i t = true ∧ L = i + l.length := by
  unfold appA at h
  by_cases h1 : okL i t l = true
  · by_cases h2 : fits s i t = true
    · rw [if_pos h1, if_pos h2] at h
      exact ⟨h1, h2, (congrArg (·.1) h).symm⟩
    · rw [if_pos h1, if_neg h2] at h
      exact absurd (show (12 : Int) = 0 from congrArg (·.2.2) h) (by decide)
  · rw [if_neg h1] at h
    exact absurd (show (2 : Int) = 0 from congrArg (·.2.2) h) (by decide)
theorem parts_ {s : Lg} (hs : Ok s) {i t : Nat} {es : List En} {L f : Nat} (h : appA s i t es = (L, f, 0)) {k : Nat} (hk : 1 ≤ k) (hkn : k ≤ es.length) {x : En} (hx : es[k - 1]? = some x) :
    (∃ f2, appA s i t (es.take k) = (i + k, f2, 0)) ∧ (∃ f3, appA (appS s i t (es.take k)) x.ix x.tm (es.drop k) = (L, f3, 0)) ∧ appS (appS s i t (es.take k)) x.ix x.tm (es.drop k) = appS s i t es ∧ i ≤ L ∧ L ≤ 4611686018427387904 + es.length := by
  obtain ⟨ho, hf, rfl⟩ := appA_zero h
  have hsp : es.take k ++ es.drop k = es := List.take_append_drop k es
  have hch := (okL_chain ho).1
  have hend : endOf i t (es.take k) = (x.ix, x.tm) := by
    unfold endOf
    rw [List.getLast?_take, if_neg (by omega), hx]
    rfl
  have ho2 := ho
  rw [← hsp, okL_append, hend, Bool.and_eq_true] at ho2
  have hch2 := hch
  rw [← hsp] at hch2
  have hch3 := (chain_append.1 hch2).1
  have hxi : x.ix = i + k := by
    have := endOf_ix hch3
    rw [hend, List.length_take] at this
    dsimp only at this
    omega
  have hS : appS s i t (es.take k) = appendL s (es.take k) := appS_of ho2.1 hf
  have hmem : x ∈ es.take k := by
    refine List.mem_of_getElem? (i := k - 1) ?_
    rw [List.getElem?_take, if_pos (by omega)]
    exact hx
  have hf2 : fits (appS s i t (es.take k)) x.ix x.tm = true := by
    rw [hS]
    exact append_has hs.inv hf hch3 x hmem
  refine ⟨⟨fromA s (es.take k), ?_⟩, ⟨fromA (appS s i t (es.take k)) (es.drop k), ?_⟩, ?_, Nat.le_add_right _ _, ?_⟩
  · unfold appA
    rw [if_pos ho2.1, if_pos hf, List.length_take, Nat.min_eq_left hkn]
  · unfold appA
    rw [if_pos ho2.2, if_pos hf2, List.length_drop, hxi]
    refine Prod.ext (show i + k + (es.length - k) = i + es.length by omega) rfl
  · rw [appS_of ho2.2 hf2, hS, splits_ hs.inv hf hch2, hsp, appS_of ho hf]
  · have := (fits_bound hs hf).1
    omega
set_option maxRecDepth 100000 in
set_option maxHeartbeats 6400000 in
theorem rlogSplits_walk (w : World) (A0 : Option Addr) (n0 c0 : Nat) (l0 : List A11) (h0 : ActsAt w.heap.size w A0 n0 c0 l0) (i t : Nat) (hi : i < 18446744073709551616)
    (A : Option Addr) (n c : Nat) (es : List En) (hn : n ≤ 9437184) (hr : (listK entryK 8).rep w (Old w) [.slice A n c] (.agg (es.map eD))) (at_ : Int) (ha0 : 0 ≤ at_) (ha1 : at_ ≤ 255) : Calls Tryz.prog 8 #[.slice A0 n0 c0, .int .u64 (i : Int), .int .u64 (t : Int), .slice A n c, .int .u8 at_] w (True_ w) := by
  have q := logTest
  have HG0 := Lib.hid (fun W (hW : Below w.heap.size w W) => grown_any (B := w.heap.size) 3 1 W hW.size (h0.below hW))
  have HR := Lib.hid hr
  have HN := Lib.hid hn
  obtain ⟨hnl, hnc, -, hx⟩ := ents_at hr
  have HNL := Lib.hid hnl
  have HX := Lib.hid hx
  have HREP := Lib.hid (fun W (hW : Below w.heap.size w W) => (listK_ok entryK_ok 8).keep hr (S' := fun b => b < w.heap.size) (fun b hb => hW.block b hb) (fun _ e => e))
  clear h0 hr hnl hx
  go_enter Tryz.func8, Tryz.ntmps8
  go_wp2_with fail
  refine (HG0.out w (Below.refl _ _)).mono ?_
  rintro e w1 ⟨p1, r1, F1, k1, rfl, htw, hF, hlen, hk, hb⟩
  subst hk
  have TA := Lib.hid htw
  have HL := Lib.hid hlen
  have HW := Lib.hid hb
  clear htw hF hlen hb
  go_wp2_with fail
  refine (HG0.out w1 HW.out).mono ?_
  rintro e w2 ⟨p2, r2, F2, k2, rfl, htw, hF, -, hk, hb⟩
  subst hk
  have HP := Lib.hid (pairs_of TA.out htw hF hb)
  have HOK := Lib.hid (show Ok _ by obtain ⟨_, _, _, _, a1, _⟩ := htw; exact a1.ok)
  generalize growL ⟨3 % 1000, 1 % 1000, []⟩ l0 (min l0.length 100) = s at *
  have HW := Lib.hid (By.ext HW.out hb)
  clear htw hF hb HG0 TA
  go_wp2_with fail
  refine (answers_any _).mono ?_
  rintro e w3 ⟨rfl, hb⟩
  have HP := Lib.hid (HP.out.below hb)
  have HW := Lib.hid (By.ext HW.out hb)
  clear hb
  have HLS := Lib.hid (show s.es.length + es.length ≤ 1073741823 by have := HL.out; have := HNL.out; have := HN.out; omega)
  -- a's append
  go_wp2_with fail
  refine (own_any (B := w.heap.size) (Nat.le_refl _) HR.out HN.out HW.out).mono ?_
  rintro e w4 ⟨A4, c4, rfl, hr4, hb4⟩
  have HC := Lib.hid (pair_append HP.out hb4 i t hi hr4 HLS.out)
  clear hr4 hb4
  go_wp2_with fail
  refine HC.out.mono ?_
  rintro e w5 ⟨rfl, hp, hb⟩
  have HP := Lib.hid hp
  have HW := Lib.hid (HW.out.trans hb)
  clear hp hb HC
  obtain ⟨⟨L1, f1, e1⟩, hA1⟩ : ∃ r, r = appA s i t es := ⟨_, rfl⟩
  rw [← hA1]
  unfold appV
  dsimp only
  have HA1 := Lib.hid hA1.symm
  clear hA1
  -- the reference's
  go_wp2_with fail
  refine (pair_rappend HP.out i t hi (HREP.out _ HW.out) HLS.out).mono ?_
  rintro e w6 ⟨rfl, hp, hb⟩
  have HP := Lib.hid hp
  have HW := Lib.hid (HW.out.trans hb)
  have HLA := Lib.hid (show (appS s i t es).es.length ≤ 1073741823 from Nat.le_trans (appS_len s i t es) HLS.out)
  clear hp hb
  unfold appV
  by_cases he : e1 = 0
  · subst he
    rcases Nat.eq_zero_or_pos n with hz | hz
    · subst hz
      go_wp2_with fail
      refine (pair_alike HP.out HLA.out).mono ?_
      rintro e wz ⟨rfl, hb⟩
      go_wp2
      go_ret
      exact ⟨rfl, By.ext HW.out hb⟩
    · have hz1 : ((n : Int) == 0) = false := beq_eq_false_iff_ne.2 (by omega)
      have hz2 : ((n : Int) = 0) = False := by simp; omega
      have hz3 : (0 : Int) < (n : Int) := by omega
      obtain ⟨M, hM⟩ : ∃ M : Int, M = at_ % (n : Int) := ⟨_, rfl⟩
      have hM0 : 0 ≤ M ∧ M < n := by rw [hM]; exact ⟨Int.emod_nonneg _ (by omega), Int.emod_lt_of_pos _ hz3⟩
      obtain ⟨j, hj⟩ : ∃ j : Nat, (j : Int) = M := ⟨M.toNat, by omega⟩
      obtain ⟨k, hk⟩ : ∃ k : Nat, k = j + 1 := ⟨_, rfl⟩
      obtain ⟨K, hK⟩ : ∃ K : Int, K = (k : Int) := ⟨_, rfl⟩
      have hn63 := HN.out
      have W3 : wrap64 (at_ % (n : Int) + 1) = K := by rw [← hM, show M + 1 = K by omega]; unfold wrap64; omega
      have W4 : wrap64 (K - 1) = (j : Int) := by rw [show K - 1 = (j : Int) by omega]; unfold wrap64; omega
      have W4b : IntKind.i64.wrap (K - 1) = (j : Int) := by rw [show K - 1 = (j : Int) by omega]; exact wrap_i (by omega) (by omega)
      have hj0 : (0 : Int) ≤ (j : Int) := by omega
      have hkn : k ≤ n := by omega
      have hjn : (j : Int) < (n : Int) := by omega
      have hjn2 : j < n := by omega
      have R1 := fun w => run_to5 w A n c k K hK (Nat.le_trans hkn hnc)
      have R2 := fun w => run_from5 w A n c k K hK hkn .i64
      have HREPT := Lib.hid (fun W hW => rep_take (HREP.out W hW) hkn)
      have HREPD := Lib.hid (rep_drop HR.out hkn)
      have HTK := Lib.hid (rep_take HR.out hkn)
      have HTN := Lib.hid (show k ≤ 9437184 by omega)
      have HDN := Lib.hid (show n - k ≤ 9437184 by omega)
      obtain ⟨x, hx0⟩ : ∃ x, es[j]? = some x := ⟨_, List.getElem?_eq_getElem (by have := HNL.out; omega)⟩
      obtain ⟨g, o, rfl, hg, hcell⟩ := HX.out hz
      obtain ⟨Ad, cd, hea, hev⟩ := hcell j x hx0
      have HC0 := Lib.hid (fun W (hW : Below w.heap.size w W) => (show W.cell? ⟨g, o + j * 5, none⟩ = some (.int .u64 (x.ix : Int)) ∧ W.cell? ⟨g, o + j * 5 + 1, none⟩ = some (.int .u64 (x.tm : Int)) from
        ⟨(hW.cell (p := ⟨g, o + j * 5, none⟩) hg).trans hea.c0, (hW.cell (p := ⟨g, o + j * 5 + 1, none⟩) hg).trans hea.c1⟩))
      have HXI := Lib.hid hev.ix
      have hxk : es[k - 1]? = some x := by rw [hk]; exact hx0
      have HPT := Lib.hid (parts_ HOK.out HA1.out (show 1 ≤ k by omega) (by have := HNL.out; omega) hxk)
      have HLT := Lib.hid (show (es.take k).length ≤ es.length by rw [List.length_take]; exact Nat.min_le_right _ _)
      have HLD := Lib.hid (show (es.drop k).length + (es.take k).length ≤ es.length by rw [List.length_drop, List.length_take]; omega)
      generalize es.take k = E1 at *
      generalize es.drop k = E2 at *
      clear hcell hea hev hx0 hg HX hxk hj hM hM0 hk hkn hn63 hz3
      clear hK
      go_upto_region 21 with fail
      rw [W3]
      clear W3
      refine (own_any (B := w.heap.size) (Nat.le_refl _) HTK.out HTN.out HW.out).mono ?_
      rintro e w7 ⟨A7, c7, rfl, hr7, hb7⟩
      have HC := Lib.hid (pair_append HP.out.symm hb7 i t hi hr7 (by have := HLS.out; have := HLT.out; omega))
      clear hr7 hb7
      go_wp2_with fail
      refine HC.out.mono ?_
      rintro e w8 ⟨rfl, hp, hb⟩
      obtain ⟨⟨f2, hA2⟩, ⟨f3, hA3⟩, hAS, hiL, hLb⟩ := HPT.out
      rw [hA2]
      unfold appV
      dsimp only
      have HP := Lib.hid hp
      have HW := Lib.hid (HW.out.trans hb)
      clear hp hb HC hA2
      go_wp2_with fail
      refine (pair_rappend HP.out i t hi (HREPT.out _ HW.out) (by have := HLS.out; have := HLT.out; omega)).mono ?_
      rintro e w9 ⟨rfl, hp, hb⟩
      have HP := Lib.hid hp
      have HW := Lib.hid (HW.out.trans hb)
      clear hp hb
      unfold appV
      have HPd := Lib.hid (HP.out.below (Below.refl w9.heap.size w9).drew)
      have HWd := Lib.hid HW.out.drew
      have HT1 := Lib.hid trivial
      go_upto_region 12 with fail
      go_region_held3 (fun w' => w'.cell? ⟨g, o + j * 5, none⟩ = some (.int .u64 (x.ix : Int)) ∧ w'.cell? ⟨g, o + j * 5 + 1, none⟩ = some (.int .u64 (x.tm : Int)))
        (first
          | with_reducible assumption
          | exact HC0.out _ HWd.out
          | exact HC0.out _ HW10.out
          | exact HC0.out _ HW11.out)
        (first
          | (go_at_call 18; clear HT1; refine (own_any (B := w.heap.size) (Nat.le_refl _) HREPD.out HDN.out HWd.out).mono ?_; rintro e w10 ⟨A10, c10, rfl, hr10, hb10⟩
             have HW10 := Lib.hid (By.ext HWd.out hb10)
             have HC10 := Lib.hid (pair_append HPd.out hb10 x.ix x.tm HXI.out hr10 (by have := HLS.out; have := HLD.out; have := appS_len s i t E1; omega))
             clear hr10 hb10)
          | (go_at_call 17; refine HC10.out.mono ?_; rintro e w11 ⟨rfl, hp, hb⟩
             rw [hA3]
             rw [hAS] at hp
             unfold appV
             dsimp only
             have HP := Lib.hid hp
             have HW11 := Lib.hid (HWd.out.trans hb)
             clear hp hb))
      have HLb := Lib.hid (show L1 ≤ 4611686018436825088 by have := HNL.out; have := HN.out; omega)
      have hiL1 : (i : Int) ≤ (L1 : Int) := by omega
      have HTA := Lib.hid (fun W (hW : Below w11.heap.size w11 W) k => pair_term (HP.out.symm.below hW) k)
      have HTB := Lib.hid (fun W (hW : Below w11.heap.size w11 W) k => pair_term (HP.out.below hW) k)
      clear HPT hA3 hAS hLb hiL R1 R2 W4 W4b hj0 hjn hjn2 HC0 HREPT HREPD HTK HR HREP
      go_wp2
      go_loopw [25] (fun kv wr => ∃ k : Nat, i ≤ k ∧ k ≤ L1 + 1 ∧ kv = .int .u64 (k : Int) ∧ Below w11.heap.size w11 wr) (fun kv _ => L1 + 1 - (intOf kv).toNat)
      case atStart => exact ⟨i, Nat.le_refl _, by omega, rfl, Below.refl _ _⟩
      case round =>
        obtain ⟨k2, hk1, hk2, rfl, hbr⟩ := hrel
        have HBR := Lib.hid hbr
        by_cases hkL : k2 ≤ L1
        · have hkL1 : (k2 : Int) ≤ (L1 : Int) := by omega
          have HTA := Lib.hid (HTA.out wr hbr k2)
          have HTB := Lib.hid (fun W (hW : Below w11.heap.size w11 W) => HTB.out W hW k2)
          unfold errV at HTA HTB
          generalize termR (appS s i t es) k2 = rr at HTA HTB
          obtain ⟨rr1, rr2⟩ := rr
          dsimp only at HTA HTB
          obtain ⟨Kk, hKk⟩ : ∃ Kk : Int, Kk = (k2 : Int) := ⟨_, rfl⟩
          rw [← hKk] at HTA HTB ⊢
          have W9 : IntKind.u64.wrap (Kk + 1) = Kk + 1 := wrap_u (by have := HLb.out; omega) (by have := HLb.out; omega)
          have hK1 : Kk ≤ (L1 : Int) := by omega
          have HKk := Lib.hid hKk
          clear hbr hkL1 hKk
          go_wp2_with fail
          refine HTA.out.mono ?_
          rintro e w12 ⟨rfl, hb⟩
          have HB12 := Lib.hid (By.ext HBR.out hb)
          clear hb
          go_wp2_with fail
          refine (HTB.out _ HB12.out).mono ?_
          rintro e w13 ⟨rfl, hb⟩
          have HB13 := Lib.hid (By.ext HB12.out hb)
          clear hb
          go_wp2
          go_roundw
          case rel => exact ⟨k2 + 1, by omega, by omega, by rw [HKk.out]; rfl, HB13.out⟩
          case measure => have hz9 := HKk.out; simp [intOf]; omega
        · have hkL1 : ¬ (k2 : Int) ≤ (L1 : Int) := by omega
          have HPZ := Lib.hid (HP.out.symm.below hbr)
          clear hbr
          go_wp2_with fail
          refine (pair_alike HPZ.out HLA.out).mono ?_
          rintro e wz ⟨rfl, hb⟩
          go_wp2
          go_ret
          exact ⟨rfl, By.ext (HW11.out.trans (HBR.out.mono HW11.out.size)) hb⟩
  · have he1 : (e1 == (0 : Int)) = false := beq_eq_false_iff_ne.2 he
    have he2 : (e1 != (0 : Int)) = true := by unfold bne; rw [he1]; rfl
    go_wp2_with fail
    refine (pair_alike HP.out HLA.out).mono ?_
    rintro e wz ⟨rfl, hb⟩
    go_wp2
    go_ret
    exact ⟨rfl, By.ext HW.out hb⟩
end Go.Proofs.YtdbaajgkcjpnoaaGreat.Rg
