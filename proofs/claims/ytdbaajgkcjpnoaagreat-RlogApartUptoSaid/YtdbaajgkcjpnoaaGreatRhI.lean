/- The law RlogApart, walked. -/
import Derived.Test.YtdbaajgkcjpnoaaGreatRhH
namespace Go.Proofs.YtdbaajgkcjpnoaaGreat.Rg
open Go.RowKit By CoP Co Mo Kd

set_option maxRecDepth 100000 in
set_option maxHeartbeats 6400000 in
theorem rlogApart_walk (w : World) (A0 : Option Addr) (n0 c0 : Nat) (l0 : List A11) (h0 : ActsAt w.heap.size w A0 n0 c0 l0) (hs0 : (l0.map fun a => a.l.length).sum ≤ 9437184)
    (A1 : Option Addr) (n1 c1 : Nat) (l1 : List A11) (h1 : ActsAt w.heap.size w A1 n1 c1 l1) (hs1 : (l1.map fun a => a.l.length).sum ≤ 9437184) : Calls Tryz.prog 7 #[.slice A0 n0 c0, .slice A1 n1 c1] w (True_ w) := by
  have q := logTest
  have HG0 := Lib.hid (grown_any (B := w.heap.size) 3 1 w (Nat.le_refl _) h0)
  have HAC := Lib.hid h1
  have hn := h1.2.2.1
  have hnl := h1.1
  have HNL := Lib.hid hnl
  have HS0 := Lib.hid hs0
  have HS1 := Lib.hid hs1
  clear h0 h1 hnl hs0 hs1
  go_enter Tryz.func7, Tryz.ntmps7
  go_wp2_with fail
  refine HG0.out.mono ?_
  rintro e w1 ⟨p1, r1, F1, k1, rfl, htw, hF, -, -, hb⟩
  have HL0 := Lib.hid (show (growL ⟨3 % 1000, 1 % 1000, []⟩ l0 k1).es.length ≤ 9437184 by
    have h1 := growL_sum l0 ⟨3 % 1000, 1 % 1000, []⟩ k1
    have h2 := HS0.out
    rw [show (⟨3 % 1000, 1 % 1000, []⟩ : Lg).es.length = 0 from rfl] at h1
    omega)
  generalize growL ⟨3 % 1000, 1 % 1000, []⟩ l0 k1 = s at *
  have HT := Lib.hid htw
  have HW1 := Lib.hid hb
  clear htw hF hb HG0
  obtain ⟨v1, S1, hlog, -⟩ := HT.out.code
  have HC := Lib.hid (copy_any w1 hlog (by have := HL0.out; omega))
  clear hlog
  go_wp2_with fail
  refine HC.out.mono ?_
  rintro e w2 ⟨g, v2, S2, rfl, hl2, hs2, hb⟩
  have HP0 := Lib.hid (pair_begin HT.out hl2 hs2 hb)
  clear hl2 hs2 hb HC
  have HWB := Lib.hid (HW1.out.trans HP0.out.2)
  go_wp2
  go_loopw [9] (fun kv wr => ∃ j : Nat, j ≤ n1 ∧ j ≤ 100 ∧ kv = .int .i64 (j : Int) ∧ Pairs w.heap.size wr g w2.heap.size p1 r1 (growL s l1 j) (growL ⟨3, 1, []⟩ l1 j) s s ∧ Below w.heap.size w wr) (fun kv _ => n1 - (intOf kv).toNat)
  case atStart => exact ⟨0, Nat.zero_le _, Nat.zero_le _, rfl, HP0.out.1, HWB.out⟩
  case round =>
    obtain ⟨j, hj, hj2, rfl, hp, hbr⟩ := hrel
    have HP := Lib.hid hp
    have HBR := Lib.hid hbr
    by_cases hjn : j < n1 ∧ j < 100
    · obtain ⟨hjn, hj3⟩ := hjn
      obtain ⟨a, ha⟩ : ∃ a, l1[j]? = some a := ⟨_, List.getElem?_eq_getElem (by have := HNL.out; omega)⟩
      obtain ⟨-, -, -, hcell⟩ := HAC.out.below hbr
      obtain ⟨ga, oa, rfl, hg, hc⟩ := hcell (by omega)
      obtain ⟨Aj, cj, hav, e0, e1, e2, e3, e4⟩ := hc j a ha
      have HACT := Lib.hid (pair_act hp a Aj cj hav (by have := hav.few; have := growL_sum l1 s j; have := HL0.out; have := HS1.out; omega) (by have := hav.few; have h1 := growL_sum l1 ⟨3, 1, []⟩ j; have := HS1.out; rw [show (⟨3, 1, []⟩ : Lg).es.length = 0 from rfl] at h1; omega))
      have HGS := Lib.hid (growL_step s ha)
      have HGS2 := Lib.hid (growL_step ⟨3, 1, []⟩ ha)
      have hj4 : (j : Int) < (n1 : Int) := by omega
      have hj5 : (j : Int) < 100 := by omega
      clear hcell hc hav ha hp hbr hg
      go_wp2_with (go_at_call 12; refine HACT.out.mono ?_; rintro e w4 ⟨bb, rfl, hp2, hb2⟩; have HP4 := Lib.hid hp2; have HB4 := Lib.hid hb2; clear hp2 hb2)
      go_roundw
      case rel => exact ⟨j + 1, by omega, by omega, by go_num, by rw [HGS.out, HGS2.out]; exact HP4.out, HBR.out.trans HB4.out⟩
      case measure => simp [intOf]; omega
    · have HEND := Lib.hid (fun (K : Prop) (h1 : ¬ (j : Int) < (n1 : Int) → K) (h2 : (j : Int) < (n1 : Int) → ¬ (j : Int) < 100 → K) => show K by
        by_cases h : j < n1
        · exact h2 (by omega) (by omega)
        · exact h1 (by omega))
      generalize growL s l1 j = s1 at *
      generalize growL ⟨3, 1, []⟩ l1 j = s2 at *
      clear hp hbr hjn
      refine HEND.out _ (fun hj4 => ?_) (fun hj4 hj5 => ?_)
      all_goals
        go_wp2_with fail
        refine (answers_any _).mono ?_
        rintro e w4 ⟨rfl, hb⟩
        have HP := Lib.hid (HP.out.below hb)
        have HBR := Lib.hid (By.ext HBR.out hb)
        have HLEN := Lib.hid (show s.es.length ≤ 1073741823 by have := HL0.out; omega)
        clear hb
        go_wp2_with fail
        refine (pair_alike HP.out.symm HLEN.out).mono ?_
        rintro e w5 ⟨rfl, hb⟩
        have HP := Lib.hid (HP.out.below hb)
        have HBR := Lib.hid (By.ext HBR.out hb)
        clear hb
        obtain ⟨v5, S5, hl5⟩ : ∃ v S, LogIs w5 p1 s v S := by obtain ⟨F, G, -, ⟨v, S, u, T, h1, -⟩, -⟩ := HP.out; exact ⟨v, S, h1⟩
        obtain ⟨c0, y0⟩ : ∃ c0 : Int, c0 = (s.ix : Int) := ⟨_, rfl⟩
        have z0 : w5.cell? ⟨r1, 0, none⟩ = some (.int .u64 c0) := by
          obtain ⟨F, G, -, ⟨v, S, u, T, -, h2, -⟩, -⟩ := HP.out
          obtain ⟨A, c, rfl⟩ := h2.form
          rw [y0]; exact h2.cells.1
        have hend := hl5.ok.end_
        have HFR := Lib.hid (show Calls Tryz.prog 25 #[ptr p1, .int .u64 (c0 + 1), .int .i64 4611686018427387904] w5 (FromPost s.es 0 w5) from by
          have := from_any w5 hl5 (s.ix + 1) 4611686018427387904 HLEN.out
          rw [from_whole s (by have := HLEN.out; omega)] at this
          rw [y0]
          have e1 : ((s.ix + 1 : Nat) : Int) = (s.ix : Int) + 1 := by omega
          rwa [e1] at this)
        have W1 : IntKind.u64.wrap (c0 + 1) = c0 + 1 := wrap_u (by omega) (by omega)
        clear hl5 hend y0
        go_wp2_with fail
        refine HFR.out.mono ?_
        rintro e w6 ⟨v6, rows6, rfl, ho6, hi6, hb⟩
        obtain ⟨A6, c6, rfl, hw6⟩ := writes_of ho6 hi6
        have HW6 := Lib.hid hw6
        have HB6 := Lib.hid hb
        obtain ⟨m, hm⟩ : ∃ m, m = s.es.length := ⟨_, rfl⟩
        rw [← hm] at HW6 ⊢
        have HM := Lib.hid hm
        have hm9 : m ≤ 1073741823 := by rw [hm]; exact HLEN.out
        clear ho6 hi6 hb hw6 hm z0 W1 HFR
        go_wp2
        go_loopw [12] (fun kv wi => ∃ i6 : Nat, i6 ≤ m ∧ kv = .int .i64 (i6 : Int) ∧ Below w5.heap.size w5 wi ∧ (0 < m → ∃ z, A6 = some ⟨z, 0, none⟩ ∧ Writes w5.heap.size wi z s.es)) (fun kv _ => m - (intOf kv).toNat)
        case atStart => exact ⟨0, Nat.zero_le _, rfl, HB6.out, HW6.out⟩
        case round =>
          obtain ⟨i6, hi6, rfl, hbi, hwi⟩ := hrel
          have HBI := Lib.hid hbi
          by_cases hin : i6 < m
          · obtain ⟨z, rfl, hwz⟩ := hwi (by omega)
            have HWZ := Lib.hid hwz
            obtain ⟨en, hen⟩ : ∃ en, s.es[i6]? = some en := ⟨_, List.getElem?_eq_getElem (by have := HM.out; omega)⟩
            have HEN := Lib.hid hen
            have hi4 : (i6 : Int) < (m : Int) := by omega
            clear hbi hwi hwz hen
            go_wp2
            go_loopw [13] (fun kv wk => ∃ k6 : Nat, k6 ≤ en.da.length ∧ kv = .int .i64 (k6 : Int) ∧ Below w5.heap.size w5 wk ∧ Writes w5.heap.size wk z s.es) (fun kv _ => en.da.length - (intOf kv).toNat)
            case atStart => exact ⟨0, Nat.zero_le _, rfl, HBI.out, HWZ.out⟩
            case round =>
              obtain ⟨k6, hk6, rfl, hbk, hwk⟩ := hrel
              have HBK := Lib.hid hbk
              have HWK := Lib.hid hwk
              obtain ⟨Ad, cd, x4, hmx, hd⟩ := hwk i6 en HEN.out
              by_cases hkn : k6 < en.da.length
              · obtain ⟨g2, o2, rfl, hlo, hne, hfr, hce⟩ := hd (by omega)
                obtain ⟨uu, huu⟩ := Option.isSome_iff_exists.1 (hce k6 hkn)
                obtain ⟨cs, ty, hrow⟩ := hfr
                have hfz := frozen_of_row _ g2 (o2 + k6) _ _ hrow
                have hki : (k6 : Int) < (en.da.length : Int) := by omega
                have HLO := Lib.hid hlo
                have HNE := Lib.hid hne
                clear hbk hwk hd hlo hne hce hrow
                go_wp2
                go_roundw
                case rel => exact ⟨k6 + 1, by omega, by go_num, HBK.out.setCell (p := ⟨g2, _, none⟩) HLO.out _, HWK.out.set HNE.out _⟩
                case measure => simp [intOf]; omega
              · have hki : ¬ (k6 : Int) < (en.da.length : Int) := by omega
                clear hbk hwk hd
                go_wp2
                go_roundw
                case rel => exact ⟨i6 + 1, by omega, by go_num, HBK.out, fun _ => ⟨z, rfl, HWK.out⟩⟩
                case measure => simp [intOf]; omega
          · have hi4 : ¬ (i6 : Int) < (m : Int) := by omega
            have HPZ := Lib.hid (fun W (hW : Below w5.heap.size w5 W) => HP.out.below hW)
            have HBc := Lib.hid hbi
            clear hbi hwi
            go_wp2_with (first
              | (go_at_call 19; refine (term_nil _ 1).mono ?_; unfold errV; rintro e wn ⟨rfl, hb⟩; have HBc := Lib.hid (By.ext HBc.out hb); clear hb)
              | (go_at_call 25; refine (from_nil _ 1 1).mono ?_; rintro e wn ⟨rfl, hb⟩; have HBc := Lib.hid (By.ext HBc.out hb); clear hb)
              | (go_at_call 17; refine (append_nil _ 1 1 _ _ _).mono ?_; unfold appV; rintro e wn ⟨rfl, hb⟩; have HBc := Lib.hid (By.ext HBc.out hb); clear hb)
              | (go_at_call 23; refine (last_nil _).mono ?_; unfold pairV; rintro e wn ⟨rfl, hb⟩; have HBc := Lib.hid (By.ext HBc.out hb); clear hb)
              | (go_at_call 13; refine (pair_alike (HPZ.out _ HBc.out).symm HLEN.out).mono ?_; rintro e wn ⟨rfl, hb⟩; have HBc := Lib.hid (By.ext HBc.out hb); clear hb)
              | (go_at_call 26; refine (shrink_nil _ 1).mono ?_; rintro e wn ⟨rfl, hb⟩; have HBc := Lib.hid (By.ext HBc.out hb); clear hb)
              | (go_at_call 21; refine (fits_nil _ 0 0).mono ?_; rintro e wn ⟨rfl, hb⟩; have HBc := Lib.hid (By.ext HBc.out hb); clear hb)
              | (go_at_call 24; refine (fresh_nil _ 0 0).mono ?_; rintro e wn ⟨rfl, hb⟩; have HBc := Lib.hid (By.ext HBc.out hb); clear hb)
              | (go_at_call 11; refine (copy_nil _).mono ?_; rintro e wn ⟨rfl, hb⟩; have HBc := Lib.hid (By.ext HBc.out hb); clear hb))
            go_ret
            exact ⟨rfl, HBR.out.trans (HBc.out.mono HBR.out.size)⟩
end Go.Proofs.YtdbaajgkcjpnoaaGreat.Rg
