/- The law RlogMatches, walked. -/
import Derived.Test.YtdbaajgkcjpnoaaGreatQh
namespace Go.Proofs.YtdbaajgkcjpnoaaGreat.Rg
open Go.RowKit By CoP Co Mo Kd

theorem termR_eq {s : Lg} (h : Ok s) (k : Nat) : termR s k = match termAt s k with | none => (0, 13) | some none => (0, 8) | some (some t) => (t, 0) := by
  rw [termAt_eq h.inv]
  unfold termR
  by_cases h1 : k < s.ix
  · rw [if_pos h1, if_pos h1]
  · rw [if_neg h1, if_neg h1]
    by_cases h2 : k = s.ix
    · rw [if_pos h2, if_neg (by omega), h2, Nat.sub_self]; rfl
    · rw [if_neg h2]
      by_cases h3 : s.ix + s.es.length < k
      · rw [if_pos h3, List.getElem?_eq_none (by omega)]; rfl
      · obtain ⟨m, hm⟩ : ∃ m, k - s.ix = m + 1 := ⟨k - s.ix - 1, by omega⟩
        rw [if_neg h3, hm, show k - (s.ix + 1) = m by omega, List.getElem?_eq_getElem (show m < s.es.length by omega)]
        simp [behindL, List.getElem?_eq_getElem (show m < s.es.length by omega)]
theorem term_alike {a b : Lg} (ha : Ok a) (hb : Ok b) {k : Nat} (h : termAt a k = termAt b k) : termR a k = termR b k := by rw [termR_eq ha, termR_eq hb, h]
theorem appS_of {s : Lg} {i t : Nat} {es : List En} (ho : okL i t es = true) (hf : fits s i t = true) : appS s i t es = appendL s es := by unfold appS; exact if_pos ⟨ho, hf⟩
theorem appS_no {s : Lg} {i t : Nat} {es : List En} (ho : ¬ okL i t es = true) : appS s i t es = s := by unfold appS; exact if_neg (fun h => ho h.1)
/-- OwnEntries, wherever it is called. -/
theorem own_any {B : Nat} {w W : World} {A : Option Addr} {n c : Nat} {es : List En} (hB : B ≤ w.heap.size) (hr : (listK entryK 8).rep w (fun b => b < B) [.slice A n c] (.agg (es.map eD))) (hn : n ≤ 9437184) (hW : Below B w W) :
    Calls Tryz.prog 18 #[.slice A n c] W (fun e w' => ∃ A2 c2, e = .returned (.slice A2 es.length c2) ∧ (listK entryK 8).rep w' (New W w') [.slice A2 es.length c2] (.agg (es.map eD)) ∧ Below W.heap.size W w') := by
  have hz := hW.size
  refine (ownEntries_any (most := 8) W ((listK_ok entryK_ok 8).keep hr (fun b hb => hW.block b hb) (fun b hb => by show b < W.heap.size; omega)) hn).mono ?_
  rintro e w' ⟨v, rfl, h1, h2⟩
  obtain ⟨A2, c2, ds2, e21, e22, _⟩ := id h1
  obtain rfl := Data.agg.inj e22
  simp only [List.cons.injEq, and_true, List.length_map] at e21
  subst e21
  exact ⟨A2, c2, rfl, h1, h2⟩
theorem below_step {B : Nat} {w W W' : World} {S : Nat → Prop} (h : Below B w W) (hk : Kept S W W') (hS : ∀ b, S b → B ≤ b) (hB : B ≤ w.heap.size) : Below B w W' := h.trans (hk.below (Nat.le_trans hB h.size) hS)
/-- Another log stays as it was. -/
theorem other_keep {p : Nat} {s : Lg} {v : Value} {S S2 : Nat → Prop} {W W' : World} (h : LogIs W p s v S) (hk : Kept S2 W W') (hd : ∀ b, S b → ¬ S2 b) : LogIs W' p s v S := h.keep hk.size (fun b e => hk.block b (h.lt b e) (hd b e))
set_option maxRecDepth 100000 in
set_option maxHeartbeats 6400000 in
theorem rlogMatches_walk (w : World) (A0 : Option Addr) (n0 c0 : Nat) (l0 : List A11) (h0 : ActsAt w.heap.size w A0 n0 c0 l0) (A1 : Option Addr) (n1 c1 : Nat) (l1 : List A11) (h1 : ActsAt w.heap.size w A1 n1 c1 l1)
    (A : Option Addr) (n c : Nat) (es : List En) (hn : n ≤ 9437184) (hr : (listK entryK 8).rep w (Old w) [.slice A n c] (.agg (es.map eD))) : Calls Tryz.prog 4 #[.slice A0 n0 c0, .slice A1 n1 c1, .slice A n c] w (True_ w) := by
  have q := logTest
  have HG0 := Lib.hid (grown_any (B := w.heap.size) 3 1 w (Nat.le_refl _) h0)
  have HG1 := Lib.hid (fun W (hW : Below w.heap.size w W) => grown_any (B := w.heap.size) 3 1 W hW.size (h1.below hW))
  have HR := Lib.hid hr
  have HN := Lib.hid hn
  obtain ⟨hnl, hnc, -, hx⟩ := ents_at hr
  have HX := Lib.hid hx
  have HNL := Lib.hid hnl
  have HOWN := Lib.hid (fun W (hW : Below w.heap.size w W) => own_any (B := w.heap.size) (Nat.le_refl _) hr hn hW)
  clear h0 h1 hr hx hnl
  go_enter Tryz.func4, Tryz.ntmps4
  go_wp2_with fail
  refine HG0.out.mono ?_
  rintro e w1 ⟨p1, r1, F1, k1, rfl, htw, hF, hlen, -, hb⟩
  generalize growL ⟨3 % 1000, 1 % 1000, []⟩ l0 k1 = s1 at *
  have HT1 := Lib.hid htw
  have HF1 := Lib.hid hF
  have HL1 := Lib.hid hlen
  have HW1 := Lib.hid hb
  clear htw hF hlen hb HG0
  go_wp2_with fail
  refine (HG1.out w1 HW1.out).mono ?_
  rintro e w2 ⟨p2, r2, F2, k2, rfl, htw, hF, hlen, -, hb⟩
  generalize growL ⟨3 % 1000, 1 % 1000, []⟩ l1 k2 = s2 at *
  have HT1b := Lib.hid (HT1.out.below hb)
  have HT2 := Lib.hid htw
  have HF2 := Lib.hid hF
  have HL2 := Lib.hid hlen
  have HW2 := Lib.hid (By.ext HW1.out hb)
  have HSZ1 := Lib.hid (show ∀ b, F1 b → b < w1.heap.size from fun b hb => by obtain ⟨_, _, _, _, _, _, _, _, _, h6⟩ := HT1.out; exact (h6 b hb).2)
  clear htw hF hlen hb HG1 HT1
  go_wp2_with fail
  refine (answers_any _).mono ?_
  rintro e w3 ⟨rfl, hb⟩
  have HA := Lib.hid (HT1b.out.below hb)
  have HB := Lib.hid (HT2.out.below hb)
  have HW3 := Lib.hid (By.ext HW2.out hb)
  clear hb HT1b HT2
  rcases Nat.eq_zero_or_pos n with hz | hz
  · subst hz
    go_wp2
    go_ret
    exact ⟨rfl, HW3.out⟩
  · have hz1 : ((n : Int) == 0) = false := beq_eq_false_iff_ne.2 (by omega)
    have hz2 : ((n : Int) = 0) = False := by simp; omega
    have hz3 : (0 : Int) < (n : Int) := by omega
    obtain ⟨x, hx0⟩ : ∃ x, es[0]? = some x := ⟨_, List.getElem?_eq_getElem (by have := HNL.out; omega)⟩
    obtain ⟨g, o, rfl, hg, hcell⟩ := HX.out hz
    obtain ⟨Ad, cd, hea, hev⟩ := hcell 0 x hx0
    have y0 : w3.cell? ⟨g, o, none⟩ = some (.int .u64 (x.ix : Int)) := by
      have := (HW3.out.cell (p := ⟨g, o + 0 * 5, none⟩) hg).trans hea.c0
      rwa [Nat.zero_mul, Nat.add_zero] at this
    have HXV := Lib.hid hev.ix
    have HX0 := Lib.hid hx0
    clear hcell hea hev hx0 hg HX
    by_cases hx2 : x.ix < 2
    · have hx2b : (x.ix : Int) < 2 := by omega
      go_wp2
      go_ret
      exact ⟨rfl, HW3.out⟩
    · have hx2b : ¬ (x.ix : Int) < 2 := by omega
      obtain ⟨i, hi⟩ : ∃ i, x.ix = i + 1 := ⟨x.ix - 1, by omega⟩
      have W1 : IntKind.u64.wrap ((x.ix : Int) - 1) = (i : Int) := by rw [show (x.ix : Int) - 1 = (i : Int) by omega]; exact wrap_u (by omega) (by have := HXV.out; omega)
      have hi64 : i < 18446744073709551616 := by have := HXV.out; omega
      clear hi
      obtain ⟨ra, Ta, hra⟩ : ∃ u T, RefIs w3 r1 s1 u T (fun b => b < w.heap.size) := by obtain ⟨_, _, u, T, _, a2, _⟩ := HA.out; exact ⟨u, T, a2⟩
      obtain ⟨rb, Tb, hrb⟩ : ∃ u T, RefIs w3 r2 s2 u T (fun b => b < w.heap.size) := by obtain ⟨_, _, u, T, _, a2, _⟩ := HB.out; exact ⟨u, T, a2⟩
      have HTA := Lib.hid (rterm_any w3 hra i)
      have HOK1 := Lib.hid hra.ok
      have HOK2 := Lib.hid hrb.ok
      obtain ⟨r, hr⟩ : ∃ r, r = termR s1 i := ⟨_, rfl⟩
      rw [← hr] at HTA
      obtain ⟨t, er⟩ := r
      have HTR := Lib.hid hr.symm
      have HFB := Lib.hid (fun W (hW : Below w3.heap.size w3 W) => rfits_any W (hrb.below hW) i t)
      unfold errV at HTA
      dsimp only at HTA
      clear hr hra hrb
      by_cases he : er = 0
      · subst he
        have hf1 : fits s1 i t = true := by rw [fits_term HOK1.out.inv, HTR.out]; simp
        cases hf2 : fits s2 i t with
        | false =>
          rw [hf2] at HFB
          go_wp2_with (first
            | (go_at_call 15; refine HTA.out.mono ?_; rintro e w4 ⟨rfl, hb⟩; have HW4 := Lib.hid hb; clear hb)
            | (go_at_call 16; refine (HFB.out _ HW4.out).mono ?_; rintro e w5 ⟨rfl, hb⟩; have HW5 := Lib.hid (By.ext HW4.out hb); clear hb))
          go_ret
          exact ⟨rfl, By.ext HW3.out HW5.out⟩
        | true =>
          rw [hf2] at HFB
          have HF1t := Lib.hid hf1
          have HF2t := Lib.hid hf2
          clear hf1 hf2
          go_wp2_with fail
          refine HTA.out.mono ?_
          rintro e w4 ⟨rfl, hb⟩
          have HW4 := Lib.hid hb
          clear hb
          go_wp2_with fail
          refine (HFB.out _ HW4.out).mono ?_
          rintro e w5 ⟨rfl, hb⟩
          have HW5 := Lib.hid (By.ext HW4.out hb)
          clear hb
          clear y0 HTA HFB
          obtain ⟨va, Sa, hla, hsa⟩ : ∃ v S, LogIs w5 p1 s1 v S ∧ ∀ b, S b → F1 b := by obtain ⟨v, S, _, _, a1, _, a3, _⟩ := HA.out.below HW5.out; exact ⟨v, S, a1, a3⟩
          obtain ⟨vb, Sb, hlb, hsb⟩ : ∃ v S, LogIs w5 p2 s2 v S ∧ ∀ b, S b → F2 b := by obtain ⟨v, S, _, _, a1, _, a3, _⟩ := HB.out.below HW5.out; exact ⟨v, S, a1, a3⟩
          have HLA := Lib.hid hla
          have HLB := Lib.hid hlb
          have HSA := Lib.hid (show ∀ b, Sa b → w.heap.size ≤ b ∧ b < w1.heap.size from fun b hb => ⟨HF1.out b (hsa b hb), HSZ1.out b (hsa b hb)⟩)
          have HSB := Lib.hid (show ∀ b, Sb b → w1.heap.size ≤ b from fun b hb => HF2.out b (hsb b hb))
          have HW5w := Lib.hid (By.ext HW3.out HW5.out)
          have HEA := Lib.hid (show s1.es.length + es.length ≤ 1073741823 by have := HL1.out; have := HNL.out; have := HN.out; omega)
          have HEB := Lib.hid (show s2.es.length + es.length ≤ 1073741823 by have := HL2.out; have := HNL.out; have := HN.out; omega)
          clear hla hlb hsa hsb HA HB
          -- a's append
          go_wp2_with fail
          refine (HOWN.out _ HW5w.out).mono ?_
          rintro e w6 ⟨A6, c6, rfl, hr6, hb6⟩
          have HC := Lib.hid (append_any w6 (HLA.out.below hb6) i t hi64 hr6 (fun b hb => ⟨hb.2, fun hs => by have h1 := HLA.out.lt b hs; have h2 : w5.heap.size ≤ b := hb.1; omega⟩) HEA.out)
          have HB6 := Lib.hid hb6
          clear hr6 hb6
          go_wp2_with fail
          refine HC.out.mono ?_
          rintro e w7 ⟨rfl, va', Sa', hla, hsa, hka⟩
          obtain ⟨⟨L1, f1, e1⟩, hA1⟩ : ∃ r, r = appA s1 i t es := ⟨_, rfl⟩
          rw [← hA1]
          unfold appV
          dsimp only
          have HA1 := Lib.hid hA1.symm
          clear hA1
          have HLA7 := Lib.hid hla
          have HSA7 := Lib.hid (show ∀ b, Sa' b → w.heap.size ≤ b ∧ (b < w1.heap.size ∨ w6.heap.size ≤ b) from fun b hb => by
            have z := HW5w.out.size
            have z2 := HB6.out.size
            rcases hsa b hb with h | h
            · have := HSA.out b h; omega
            · omega)
          have HLB7 := Lib.hid (other_keep (HLB.out.below HB6.out) hka (fun b hb hs => by have := HSA.out b hs; have := HSB.out b hb; omega))
          have HW7 := Lib.hid (below_step (By.ext HW5w.out HB6.out) hka (fun b hs => (HSA.out b hs).1) (Nat.le_refl _))
          have HZ7 := Lib.hid (show w6.heap.size ≤ w7.heap.size ∧ w5.heap.size ≤ w6.heap.size from ⟨hka.size, HB6.out.size⟩)
          clear hla hsa hka HC HLA
          -- b's append
          go_wp2_with fail
          refine (HOWN.out _ HW7.out).mono ?_
          rintro e w8 ⟨A8, c8, rfl, hr8, hb8⟩
          have HC := Lib.hid (append_any w8 (HLB7.out.below hb8) i t hi64 hr8 (fun b hb => ⟨hb.2, fun hs => by have h1 := HLB7.out.lt b hs; have h2 : w7.heap.size ≤ b := hb.1; omega⟩) HEB.out)
          have HB8 := Lib.hid hb8
          clear hr8 hb8
          go_wp2_with fail
          refine HC.out.mono ?_
          rintro e w9 ⟨rfl, vb', Sb', hlb, hsb, hkb⟩
          obtain ⟨⟨L2, f2, e2⟩, hA2⟩ : ∃ r, r = appA s2 i t es := ⟨_, rfl⟩
          rw [← hA2]
          unfold appV
          dsimp only
          have HA2 := Lib.hid hA2.symm
          clear hA2
          have HLB9 := Lib.hid hlb
          have HLT5 := Lib.hid (show ∀ b, Sb b → b < w5.heap.size from fun b hb => HLB.out.lt b hb)
          have HLA9 := Lib.hid (other_keep (HLA7.out.below HB8.out) hkb (fun b hb hs => by have h1 := HSA7.out b hb; have h2 := HSB.out b hs; have h3 := HLT5.out b hs; have := HZ7.out; omega))
          have HSB9 := Lib.hid (show ∀ b, Sb' b → ¬ Sa' b from fun b hb hs => by
            have h1 := HSA7.out b hs
            have h4 := HLA7.out.lt b hs
            rcases hsb b hb with h | h
            · have h2 := HSB.out b h; have h3 := HLT5.out b h; have := HZ7.out; omega
            · have := HB8.out.size; omega)
          have HW9 := Lib.hid (below_step (By.ext HW7.out HB8.out) hkb (fun b hs => by have := HSB.out b hs; have := HW1.out.size; omega) (Nat.le_refl _))
          clear hlb hsb hkb HC HLB HLB7
          -- a's again
          go_wp2_with fail
          refine (HOWN.out _ HW9.out).mono ?_
          rintro e w10 ⟨A10, c10, rfl, hr10, hb10⟩
          have HNEW := Lib.hid (show okL i t es = true → newOnes (appS s1 i t es) es = [] ∧ fits (appS s1 i t es) i t = true from fun ho => by
            have hm := matches_ HOK1.out.inv HOK1.out.inv HF1t.out HF1t.out (okL_chain ho).1
            have e1 : appS s1 i t es = appendL s1 es := by unfold appS; rw [if_pos ⟨ho, HF1t.out⟩]
            rw [e1]
            exact ⟨hm.2.1, hm.2.2⟩)
          have HSAME := Lib.hid (show appS (appS s1 i t es) i t es = appS s1 i t es by
            by_cases ho : okL i t es = true
            · exact (appS_of ho (HNEW.out ho).2).trans (appendL_none (HNEW.out ho).1)
            · exact appS_no ho)
          have HLEN3 := Lib.hid (show (appS s1 i t es).es.length + es.length ≤ 1073741823 by have := appS_len s1 i t es; have := HL1.out; have := HNL.out; have := HN.out; omega)
          have HC := Lib.hid (append_any w10 (HLA9.out.below hb10) i t hi64 hr10 (fun b hb => ⟨hb.2, fun hs => by have h1 := HLA9.out.lt b hs; have h2 : w9.heap.size ≤ b := hb.1; omega⟩) HLEN3.out)
          have HB10 := Lib.hid hb10
          clear hr10 hb10
          go_wp2_with fail
          refine HC.out.mono ?_
          rintro e w11 ⟨rfl, va'', Sa'', hla, hsa, hka⟩
          obtain ⟨⟨L3, f3, e3⟩, hA3⟩ : ∃ r, r = appA (appS s1 i t es) i t es := ⟨_, rfl⟩
          rw [← hA3]
          unfold appV
          dsimp only
          have HA3 := Lib.hid hA3.symm
          clear hA3
          rw [HSAME.out] at hla
          have HLA11 := Lib.hid hla
          have HLB11 := Lib.hid (other_keep (HLB9.out.below HB10.out) hka HSB9.out)
          have HW11 := Lib.hid (below_step (By.ext HW9.out HB10.out) hka (fun b hs => (HSA7.out b hs).1) (Nat.le_refl _))
          clear hla hsa hka HC HLA9 HLB9 HLA7
          have HT1 := Lib.hid (fun W (hW : Below w11.heap.size w11 W) k => term_any W (HLA11.out.below hW) k)
          have HT2 := Lib.hid (fun W (hW : Below w11.heap.size w11 W) k => term_any W (HLB11.out.below hW) k)
          have hA1 := HA1.out
          have hA2 := HA2.out
          have hA3 := HA3.out
          unfold appA at hA1 hA2 hA3
          clear HA1 HA2 HA3
          by_cases ho : okL i t es = true
          case neg =>
            rw [if_neg ho] at hA1 hA2 hA3
            simp only [Prod.mk.injEq] at hA1 hA2 hA3
            obtain ⟨rfl, rfl, rfl⟩ := hA1
            obtain ⟨rfl, rfl, rfl⟩ := hA2
            obtain ⟨rfl, rfl, rfl⟩ := hA3
            clear ho
            go_wp2
            go_ret
            exact ⟨rfl, HW11.out⟩
          case pos =>
            have hne := HNEW.out ho
            rw [if_pos ho, if_pos HF1t.out] at hA1
            rw [if_pos ho, if_pos HF2t.out] at hA2
            rw [if_pos ho, if_pos hne.2] at hA3
            have hfr : fromA (appS s1 i t es) es = 0 := by unfold fromA; rw [hne.1]
            rw [hfr] at hA3
            simp only [Prod.mk.injEq] at hA1 hA2 hA3
            obtain ⟨hL1, -, he1⟩ := hA1
            obtain ⟨hL2, -, he2⟩ := hA2
            obtain ⟨hL3, hf3, he3⟩ := hA3
            subst he1 he2 he3 hf3
            obtain rfl := hL1.symm.trans hL2
            obtain rfl := hL1.symm.trans hL3
            clear hL2 hL3
            have HEQT := Lib.hid (show ∀ k, i ≤ k → k ≤ i + es.length → termR (appS s1 i t es) k = termR (appS s2 i t es) k from fun k h1 h2 => by
              have hm := matches_ HOK1.out.inv HOK2.out.inv HF1t.out HF2t.out (okL_chain ho).1
              refine term_alike (HOK1.out.appS i t es) (HOK2.out.appS i t es) ?_
              have e1 : appS s1 i t es = appendL s1 es := by unfold appS; rw [if_pos ⟨ho, HF1t.out⟩]
              have e2 : appS s2 i t es = appendL s2 es := by unfold appS; rw [if_pos ⟨ho, HF2t.out⟩]
              rw [e1, e2]
              exact hm.1 k h1 h2)
            rw [hL1] at HEQT
            obtain ⟨L, hL⟩ : ∃ L, L = L1 := ⟨_, rfl⟩
            rw [← hL] at HEQT hL1 ⊢
            have hLb : L ≤ 4611686018436825088 := by have := (fits_bound HOK1.out HF1t.out).1; have := HNL.out; have := HN.out; omega
            have hiL : i ≤ L := by omega
            rw [show ((0 : Nat) : Int) = 0 from rfl]
            clear hne hfr ho hL hL1 hx2 hx2b W1 hz1 hz2 hz3
            go_wp2
            go_loopw [23] (fun kv wr => ∃ k : Nat, i ≤ k ∧ k ≤ L + 1 ∧ kv = .int .u64 (k : Int) ∧ Below w11.heap.size w11 wr) (fun kv _ => L + 1 - (intOf kv).toNat)
            case atStart => exact ⟨i, Nat.le_refl _, by omega, rfl, Below.refl _ _⟩
            case round =>
              obtain ⟨k, hk1, hk2, rfl, hbr⟩ := hrel
              have HBR := Lib.hid hbr
              by_cases hkL : k ≤ L
              · have hkL1 : (k : Int) ≤ (L : Int) := by omega
                have HTA := Lib.hid (HT1.out wr hbr k)
                have HTB := Lib.hid (fun W (hW : Below w11.heap.size w11 W) => HT2.out W hW k)
                rw [HEQT.out k hk1 hkL] at HTA
                unfold errV at HTA HTB
                generalize termR (appS s2 i t es) k = rr at HTA HTB
                obtain ⟨rr1, rr2⟩ := rr
                dsimp only at HTA HTB
                obtain ⟨Kk, hKk⟩ : ∃ Kk : Int, Kk = (k : Int) := ⟨_, rfl⟩
                rw [← hKk] at HTA HTB ⊢
                have W9 : IntKind.u64.wrap (Kk + 1) = Kk + 1 := wrap_u (by omega) (by omega)
                have hK1 : Kk ≤ (L : Int) := by omega
                have HKk := Lib.hid hKk
                clear hbr hkL1 hKk
                go_wp2_with fail
                refine HTA.out.mono ?_
                rintro e w12 ⟨rfl, hb⟩
                have HB12 := Lib.hid (By.ext HBR.out hb)
                clear hb
                go_wp2_with fail
                refine (HTB.out _ HB12.out).mono ?_
                rintro e w13 ⟨rfl, hb⟩
                have HB13 := Lib.hid (By.ext HB12.out hb)
                clear hb
                go_wp2
                go_roundw
                case rel => exact ⟨k + 1, by omega, by omega, by rw [HKk.out]; rfl, HB13.out⟩
                case measure => have hz9 := HKk.out; simp [intOf]; omega
              · have hkL1 : ¬ (k : Int) ≤ (L : Int) := by omega
                clear hbr
                go_wp2
                go_ret
                exact ⟨rfl, HW11.out.trans (HBR.out.mono HW11.out.size)⟩
      · have he1 : (er == (0 : Int)) = false := beq_eq_false_iff_ne.2 he
        have he2 : (er != (0 : Int)) = true := by unfold bne; rw [he1]; rfl
        go_wp2_with (go_at_call 15; refine HTA.out.mono ?_; rintro e w4 ⟨rfl, hb⟩; have HW4 := Lib.hid hb; clear hb)
        go_ret
        exact ⟨rfl, By.ext HW3.out HW4.out⟩
end Go.Proofs.YtdbaajgkcjpnoaaGreat.Rg
