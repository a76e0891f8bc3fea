/- The law ClockEnds, walked. -/
import Derived.Test.YthpcmcnkiiebkaaCkJ
import Derived.Deep.DeepCutAuto
namespace Go.Proofs.Ythpcmcnkiiebkaa.Ck
open Go.RowKit Go.Maps By Mp SumP SumW

theorem begun_tame (n : Int) (hn : okN n) {N M : Nat} {r : Int} (h4 : 0 ≤ r) (h5 : r ≤ 500000) (d : Int) : ∀ x ∈ nextT (begun N M r) n d, 0 ≤ x ∧ x ≤ 1649267441664 := by
  intro x hx
  obtain ⟨i, hi⟩ := List.getElem?_of_mem hx
  have hil := (List.getElem?_eq_some_iff.1 hi).1
  rw [nextT_length] at hil
  have h1 := nextT_at (begun N M r) n d (List.getElem?_eq_getElem hil)
  have h2 : x = (begun N M r).t[i] + stepF n r (dr d (bitAt N i)) := Option.some.inj (hi.symm.trans h1)
  have h3 : (begun N M r).t[i] = 0 := by simp [begun]
  have h4 := dr_in d (bitAt N i)
  have h5 := step_in (n := n) (rho := r) ⟨hn.1, hn.2, by assumption, by assumption⟩ h4.1 h4.2
  omega
abbrev e0 : C9 := begun 2 1 500000
theorem ends_pass (n d : Int) : passE e0 n d = (if okN n then 0 else 1) ∧ (∀ x ∈ (passC e0 n d).t, 0 ≤ x ∧ x ≤ 1649267441664) ∧ (passC e0 n d).nodes = 2 ∧ (passC e0 n d).edges = 1 ∧ (passC e0 n d).moved = false := by
  have h := passC_nodes e0 n d
  refine ⟨?_, ?_, h.1, h.2.1, h.2.2.2⟩
  · unfold passE
    by_cases hn : okN n
    · rw [if_neg (fun h => h hn), if_pos hn, if_neg]
      rintro (h1 | ⟨x, h1, h2⟩)
      · have h3 := hn.2
        have h1 : top < 0 + n := h1
        have e : top = 1152921504606846976 := rfl
        omega
      · have h3 := begun_tame n hn (by omega) (by omega) d x h1
        have e : top = 1152921504606846976 := rfl
        omega
    · rw [if_pos hn, if_neg hn]
  · unfold passC
    intro x hx
    split at hx
    · rw [(List.mem_replicate.1 hx).2]; omega
    · rename_i hn
      split at hx
      · rw [(List.mem_replicate.1 hx).2]; omega
      · exact begun_tame n (Decidable.not_not.1 hn) (by omega) (by omega) d x hx
theorem ends_tick (n d e : Int) : tickE (passC e0 n d) e n = (if atF 2 1 e < 0 ∨ ¬ okN n then 1 else 0) ∧ (tickC (passC e0 n d) e n).real = (passC e0 n d).real ∧ (tickC (passC e0 n d) e n).moved = (if atF 2 1 e < 0 ∨ ¬ okN n then false else decide (0 < n)) := by
  obtain ⟨_, h2, h3, h4, h5⟩ := ends_pass n d
  have hok : (passC e0 n d).Ok := (begun_ok (by omega) (by omega) (by omega) (by omega) (by omega)).pass n d
  by_cases h : atF 2 1 e < 0 ∨ ¬ okN n
  · unfold tickE tickC
    rw [h3, h4, if_pos h, if_pos h, if_pos h, if_pos h]
    exact ⟨rfl, rfl, h5⟩
  · have hat : 0 ≤ atF (passC e0 n d).nodes (passC e0 n d).edges e := by
      rw [h3, h4]
      have : ¬ atF 2 1 e < 0 := fun e => h (.inl e)
      omega
    have hk : okN n := Decidable.not_not.1 fun e => h (.inr e)
    have hx := h2 _ (List.mem_of_getElem? (hok.time hat).1)
    have ho : ¬ top < (passC e0 n d).time e + n := by
      have := hk.2
      have e : top = 1152921504606846976 := rfl
      omega
    unfold tickE tickC
    rw [h3, h4, if_neg h, if_neg h, if_neg h, if_neg ho, if_neg h, if_neg ho]
    exact ⟨rfl, rfl, by rw [h5]; rfl⟩
theorem pass_neg (c : C9) (d : Int) : passE c (-1) d = 1 ∧ passC c (-1) d = c := by
  have h : ¬ okN (-1) := by decide
  unfold passE passC
  rw [if_pos h, if_pos h]
  exact ⟨rfl, rfl⟩
set_option maxRecDepth 100000 in
set_option maxHeartbeats 4000000 in
theorem ends_any (n d e : Int) (w : World) (d0 : 0 ≤ d) (d1 : d ≤ 18446744073709551615) (b0 : -9223372036854775808 ≤ e) (b1 : e ≤ 9223372036854775807) :
    Calls Try.prog 6 #[.int .i64 n, .int .u64 d, .int .i64 e] w (True_ w) := by
  have q1 := ptrTest
  obtain ⟨p1, p2, p3, p4, p5⟩ := ends_pass n d
  obtain ⟨t1, t2, t3⟩ := ends_tick n d e
  obtain ⟨fn, hfn⟩ : ∃ fn, fn = decide (okN n) := ⟨_, rfl⟩
  obtain ⟨kn, hkn⟩ : ∃ kn, kn = decide (0 ≤ atF 2 1 e) := ⟨_, rfl⟩
  obtain ⟨E1, hE1⟩ : ∃ E1 : Int, E1 = passE e0 n d := ⟨_, rfl⟩
  obtain ⟨c1, hc1⟩ : ∃ c1, c1 = passC e0 n d := ⟨_, rfl⟩
  rw [← hc1] at t1 t2 t3
  obtain ⟨c2, hc2⟩ : ∃ c2, c2 = tickC c1 e n := ⟨_, rfl⟩
  rw [← hc2] at t2 t3
  obtain ⟨E2, hE2⟩ : ∃ E2 : Int, E2 = tickE c1 e n := ⟨_, rfl⟩
  have v1 : E1 = bif fn then 0 else 1 := by
    rw [hE1, p1, hfn]
    by_cases h : okN n
    · rw [if_pos h, decide_eq_true h]; rfl
    · rw [if_neg h, decide_eq_false h]; rfl
  have v2 : E2 = bif fn && kn then 0 else 1 := by
    rw [hE2, t1, hfn, hkn]
    by_cases h : okN n
    · by_cases h2 : 0 ≤ atF 2 1 e
      · rw [if_neg (fun h3 => h3.elim (fun h3 => by omega) (fun h3 => h3 h)), decide_eq_true h, decide_eq_true h2]; rfl
      · rw [if_pos (by omega), decide_eq_true h, decide_eq_false h2]; rfl
    · rw [if_pos (.inr h), decide_eq_false h]; rfl
  have v3 : c2.moved = (fn && kn && decide (0 < n)) := by
    rw [t3, hfn, hkn]
    by_cases h : okN n
    · by_cases h2 : 0 ≤ atF 2 1 e
      · rw [if_neg (fun h3 => h3.elim (fun h3 => by omega) (fun h3 => h3 h)), decide_eq_true h, decide_eq_true h2]; simp
      · rw [if_pos (by omega), decide_eq_true h, decide_eq_false h2]; simp
    · rw [if_pos (.inr h), decide_eq_false h]; simp
  have HV1 := Lib.hid v1
  have HV2 := Lib.hid v2
  have HV3 := Lib.hid v3
  have HT2 := Lib.hid t2
  have HX1 := Lib.hid (And.intro hc1 hE1)
  have HX2 := Lib.hid (And.intro hc2 hE2)
  have HFN := Lib.hid hfn
  have HKN := Lib.hid hkn
  have HN : Hid (Calls Try.prog 7 #[.int .i64 2, .int .i64 1, .int .i64 500000] w (GivesNew 2 1 500000 w)) := Lib.hid (new_good 2 1 500000 (by decide) w)
  clear p1 p2 p3 p4 p5 t1 t2 t3 v1 v2 v3 hfn hkn hE1 hE2 hc1 hc2
  go_enter Try.func6, Try.ntmps6
  go_wp2_with fail
  refine HN.out.mono ?_
  rintro e' w1 ⟨g, S, rfl, hc, hs, hb⟩
  have HC1 := Lib.hid (And.intro hc (And.intro hs hb))
  have HA := Lib.hid (answers_any w1)
  clear hc hs hb HN
  go_wp2_with fail
  refine HA.out.mono ?_
  rintro e' w2 ⟨rfl, hb2⟩
  have HC2 := Lib.hid (And.intro (HC1.out.1.below hb2) (And.intro HC1.out.2.1 (By.ext HC1.out.2.2 hb2)))
  have HP := Lib.hid (pass_any HC2.out.1 n d d0 d1)
  rw [← HX1.out.1, ← HX1.out.2] at HP
  clear hb2 HA HC1
  go_wp2_with fail
  refine HP.out.mono ?_
  rintro e' w3 ⟨rfl, S3, hc3, hs3, hk3⟩
  have HC3 := Lib.hid (show ClkIs w3 g c1 S3 ∧ (∀ b, S3 b → w.heap.size ≤ b) ∧ Below w.heap.size w w3 from ⟨hc3, fun b hb => (hs3 b hb).elim (HC2.out.2.1 b) (fun h => Nat.le_trans HC2.out.2.2.size h), HC2.out.2.2.trans (hk3.below HC2.out.2.2.size HC2.out.2.1)⟩)
  have HTR := Lib.hid (true_any hc3)
  clear hc3 hs3 hk3 HP HC2
  go_wp2_with fail
  refine HTR.out.mono ?_
  rintro e' w' ⟨rfl, rfl⟩
  have HTK := Lib.hid (tick_any HC3.out.1 e n b0 b1)
  rw [← HX2.out.1, ← HX2.out.2] at HTK
  clear HTR
  go_wp2_with fail
  refine HTK.out.mono ?_
  rintro e' w4 ⟨rfl, S4, hc4, hs4, hk4⟩
  have HC4 := Lib.hid (show ClkIs w4 g c2 S4 ∧ (∀ b, S4 b → w.heap.size ≤ b) ∧ Below w.heap.size w w4 from ⟨hc4, fun b hb => (hs4 b hb).elim (HC3.out.2.1 b) (fun h => Nat.le_trans HC3.out.2.2.size h), HC3.out.2.2.trans (hk4.below HC3.out.2.2.size HC3.out.2.1)⟩)
  have HPN := Lib.hid (pass_any HC4.out.1 (-1) d d0 d1)
  rw [(pass_neg _ _).1, (pass_neg _ _).2] at HPN
  clear hc4 hs4 hk4 HTK HC3
  go_wp2_with fail
  refine HPN.out.mono ?_
  rintro e' w5 ⟨rfl, S5, hc5, hs5, hk5⟩
  have HC5 := Lib.hid (show Below w.heap.size w w5 from HC4.out.2.2.trans (hk5.below HC4.out.2.2.size HC4.out.2.1))
  have HTR := Lib.hid (true_any hc5)
  rw [HT2.out] at HTR
  have HST := Lib.hid (steady_any hc5)
  rw [HV3.out] at HST
  clear hc5 hs5 hk5 HPN HC4 HT2 d0 d1 HX1 HX2 HV3
  generalize c1.real = re at *
  have HN1 := Lib.hid (now_nil 1 w5)
  have HN2 := Lib.hid (pass_nil 1 0 w5)
  have HN3 := Lib.hid (tick_nil 1 1 w5)
  have HN4 := Lib.hid (true_nil w5)
  have HN5 := Lib.hid (steady_nil w5)
  have HN6 := Lib.hid (copy_nil w5)
  go_upto_region 8 with fail
  go_cut [13] (fun k wx => k = .bool kn ∧ wx = w5)
  case first =>
    have he : e = 1 ∨ e = 2 ∨ e = -1 ∨ (e ≠ 1 ∧ e ≠ 2 ∧ e ≠ -1) := by omega
    have hk := HKN.out
    rcases he with he | he | he | ⟨g1, g2, g3⟩
    · subst he
      have HK := Lib.hid (show kn = true by rw [hk]; decide)
      clear hk HKN
      go_wp2
      go_meet
      exact ⟨by rw [HK.out], rfl⟩
    · subst he
      have HK := Lib.hid (show kn = true by rw [hk]; decide)
      clear hk HKN
      go_wp2
      go_meet
      exact ⟨by rw [HK.out], rfl⟩
    · subst he
      have HK := Lib.hid (show kn = true by rw [hk]; decide)
      clear hk HKN
      go_wp2
      go_meet
      exact ⟨by rw [HK.out], rfl⟩
    · have HK := Lib.hid (show kn = false by
        rw [hk, decide_eq_false]
        intro h
        have := atF_in h
        omega)
      clear hk HKN
      have h1 : (e == 1) = false := beq_eq_false_iff_ne.2 g1
      have h2 : (e == 2) = false := beq_eq_false_iff_ne.2 g2
      have h3 : (e == -1) = false := beq_eq_false_iff_ne.2 g3
      clear g1 g2 g3
      go_wp2
      go_meet
      exact ⟨by rw [HK.out], rfl⟩
  case rest =>
    obtain ⟨rfl, rfl⟩ := hcut
    clear HKN
    go_upto_region 9 with fail
    go_cut [14] (fun f wx => f = .bool fn ∧ wx = wc)
    case first =>
      have hk := HFN.out
      by_cases n0 : 0 ≤ n
      · by_cases n1 : n ≤ 1099511627776
        · have HK := Lib.hid (show fn = true by rw [hk]; exact decide_eq_true ⟨n0, n1⟩)
          clear hk HFN
          go_wp2
          go_meet
          exact ⟨by rw [HK.out], rfl⟩
        · have HK := Lib.hid (show fn = false by rw [hk]; exact decide_eq_false (fun h => n1 h.2))
          clear hk HFN
          go_wp2
          go_meet
          exact ⟨by rw [HK.out], rfl⟩
      · have HK := Lib.hid (show fn = false by rw [hk]; exact decide_eq_false (fun h => n0 h.1))
        clear hk HFN
        go_wp2
        go_meet
        exact ⟨by rw [HK.out], rfl⟩
    case rest =>
      obtain ⟨rfl, rfl⟩ := hcut
      clear HFN b0 b1
      cases fn
      · obtain rfl : E1 = 1 := HV1.out
        obtain rfl : E2 = 1 := HV2.out
        have HST : Hid (Calls Try.prog 16 #[.pointer (some ⟨g, 0, none⟩)] wc (Ret (.bool true) wc)) := HST
        clear HV1 HV2
        go_wp2_with fail
        refine HN1.out.mono ?_
        rintro e' w' ⟨rfl, rfl⟩
        go_wp2_with fail
        refine HTR.out.mono ?_
        rintro e' w' ⟨rfl, rfl⟩
        go_wp2_with fail
        refine HST.out.mono ?_
        rintro e' w' ⟨rfl, rfl⟩
        go_wp2_with fail
        refine HN2.out.mono ?_
        rintro e' w' ⟨rfl, rfl⟩
        go_wp2_with fail
        refine HN3.out.mono ?_
        rintro e' w' ⟨rfl, rfl⟩
        go_wp2_with fail
        refine HN4.out.mono ?_
        rintro e' w' ⟨rfl, rfl⟩
        go_wp2_with fail
        refine HN5.out.mono ?_
        rintro e' w' ⟨rfl, rfl⟩
        go_wp2_with fail
        refine HN6.out.mono ?_
        rintro e' w' ⟨rfl, rfl⟩
        go_wp2
        go_ret
        exact ⟨rfl, HC5.out⟩
      · cases kn
        · obtain rfl : E1 = 0 := HV1.out
          obtain rfl : E2 = 1 := HV2.out
          have HST : Hid (Calls Try.prog 16 #[.pointer (some ⟨g, 0, none⟩)] wc (Ret (.bool true) wc)) := HST
          clear HV1 HV2
          go_wp2_with fail
          refine HN1.out.mono ?_
          rintro e' w' ⟨rfl, rfl⟩
          go_wp2_with fail
          refine HTR.out.mono ?_
          rintro e' w' ⟨rfl, rfl⟩
          go_wp2_with fail
          refine HST.out.mono ?_
          rintro e' w' ⟨rfl, rfl⟩
          go_wp2_with fail
          refine HN2.out.mono ?_
          rintro e' w' ⟨rfl, rfl⟩
          go_wp2_with fail
          refine HN3.out.mono ?_
          rintro e' w' ⟨rfl, rfl⟩
          go_wp2_with fail
          refine HN4.out.mono ?_
          rintro e' w' ⟨rfl, rfl⟩
          go_wp2_with fail
          refine HN5.out.mono ?_
          rintro e' w' ⟨rfl, rfl⟩
          go_wp2_with fail
          refine HN6.out.mono ?_
          rintro e' w' ⟨rfl, rfl⟩
          go_wp2
          go_ret
          exact ⟨rfl, HC5.out⟩
        · obtain rfl : E1 = 0 := HV1.out
          obtain rfl : E2 = 0 := HV2.out
          clear HV1 HV2
          by_cases hp : 0 < n
          · rw [decide_eq_true hp] at HST
            have HST : Hid (Calls Try.prog 16 #[.pointer (some ⟨g, 0, none⟩)] wc (Ret (.bool false) wc)) := HST
            go_wp2_with fail
            refine HN1.out.mono ?_
            rintro e' w' ⟨rfl, rfl⟩
            go_wp2_with fail
            refine HTR.out.mono ?_
            rintro e' w' ⟨rfl, rfl⟩
            go_wp2_with fail
            refine HST.out.mono ?_
            rintro e' w' ⟨rfl, rfl⟩
            go_wp2_with fail
            refine HN2.out.mono ?_
            rintro e' w' ⟨rfl, rfl⟩
            go_wp2_with fail
            refine HN3.out.mono ?_
            rintro e' w' ⟨rfl, rfl⟩
            go_wp2_with fail
            refine HN4.out.mono ?_
            rintro e' w' ⟨rfl, rfl⟩
            go_wp2_with fail
            refine HN5.out.mono ?_
            rintro e' w' ⟨rfl, rfl⟩
            go_wp2_with fail
            refine HN6.out.mono ?_
            rintro e' w' ⟨rfl, rfl⟩
            go_wp2
            go_ret
            exact ⟨rfl, HC5.out⟩
          · rw [decide_eq_false hp] at HST
            have HST : Hid (Calls Try.prog 16 #[.pointer (some ⟨g, 0, none⟩)] wc (Ret (.bool true) wc)) := HST
            go_wp2_with fail
            refine HN1.out.mono ?_
            rintro e' w' ⟨rfl, rfl⟩
            go_wp2_with fail
            refine HTR.out.mono ?_
            rintro e' w' ⟨rfl, rfl⟩
            go_wp2_with fail
            refine HST.out.mono ?_
            rintro e' w' ⟨rfl, rfl⟩
            go_wp2_with fail
            refine HN2.out.mono ?_
            rintro e' w' ⟨rfl, rfl⟩
            go_wp2_with fail
            refine HN3.out.mono ?_
            rintro e' w' ⟨rfl, rfl⟩
            go_wp2_with fail
            refine HN4.out.mono ?_
            rintro e' w' ⟨rfl, rfl⟩
            go_wp2_with fail
            refine HN5.out.mono ?_
            rintro e' w' ⟨rfl, rfl⟩
            go_wp2_with fail
            refine HN6.out.mono ?_
            rintro e' w' ⟨rfl, rfl⟩
            go_wp2
            go_ret
            exact ⟨by simp; omega, HC5.out⟩
end Go.Proofs.Ythpcmcnkiiebkaa.Ck
