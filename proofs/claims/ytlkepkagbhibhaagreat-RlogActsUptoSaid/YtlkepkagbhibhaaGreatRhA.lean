/- The law RlogActs, walked. -/
import Derived.Test.YtlkepkagbhibhaaGreatQh
namespace Go.Proofs.YtlkepkagbhibhaaGreat.Rg
open Go.RowKit By CoP Co Mo Kd

theorem logTestN (w : World) (a : Option Addr) : (binOp .neq 24 (.pointer a) (.pointer none)).run Tryz.prog w = .ok (.bool (!a.isNone)) w := by
  cases a with
  | none => kernel_rfl
  | some a => kernel_rfl
set_option maxRecDepth 100000 in
set_option maxHeartbeats 3200000 in
theorem rlogActs_walk (w : World) (i t : Nat) (A : Option Addr) (n c : Nat) (l : List A11) (h : ActsAt w.heap.size w A n c l) : Calls Tryz.prog 3 #[.int .u64 (i : Int), .int .u64 (t : Int), .slice A n c] w (True_ w) := by
  have q := logTest
  have q2 := logTestN
  have HAC := Lib.hid h
  have hn := h.2.2.1
  have hnl := h.1
  have HNL := Lib.hid hnl
  clear h hnl
  by_cases hok : i ≤ 4611686018427387904 ∧ t ≤ 4611686018427387904
  · have HBG := Lib.hid (begin_ok w.heap.size i t w (Nat.le_refl _) hok.1 hok.2)
    have hi1 : ¬ (4611686018427387904 : Int) < (i : Int) := by omega
    have ht1 : ¬ (4611686018427387904 : Int) < (t : Int) := by omega
    clear hok
    go_enter Tryz.func3, Tryz.ntmps3
    go_wp2_with (first
      | (go_at_call 9; refine HBG.out.mono ?_; rintro e w1 ⟨p, r, F, rfl, htw, hF, hb⟩; have HTW := Lib.hid htw; have HF := Lib.hid hF; have HB1 := Lib.hid hb; clear htw hF hb)
      | (go_at_call 10; refine (answers_any _).mono ?_; rintro e w2 ⟨rfl, hb⟩; have HTW2 := Lib.hid (HTW.out.below hb); have HB2 := Lib.hid (By.ext HB1.out hb); clear hb))
    go_loopw [7, 9] (fun pv k wr => ∃ (j p' : Nat) (F' : Nat → Prop), j ≤ n ∧ j ≤ 100 ∧ pv = ptr p' ∧ k = .int .i64 (j : Int) ∧ TwoAt w.heap.size wr p' r (growL ⟨i, t, []⟩ l j) (growL ⟨i, t, []⟩ l j) F' ∧ (growL ⟨i, t, []⟩ l j).es.length ≤ j * 9437184 ∧ Below w.heap.size w wr) (fun _ k _ => n - (intOf k).toNat)
    case atStart => exact ⟨0, p, F, Nat.zero_le _, Nat.zero_le _, rfl, rfl, HTW2.out, Nat.zero_le _, HB2.out⟩
    case round =>
      obtain ⟨j, p', F', hj, hj2, rfl, rfl, htw, hlen, hbr⟩ := hrel
      have HLN := Lib.hid hlen
      have HBR := Lib.hid hbr
      by_cases hjn : j < n
      · by_cases hj3 : j < 100
        · obtain ⟨a, ha⟩ : ∃ a, l[j]? = some a := ⟨_, List.getElem?_eq_getElem (by have := HNL.out; omega)⟩
          obtain ⟨-, -, -, hcell⟩ := HAC.out.below hbr
          obtain ⟨g, o, rfl, hg, hc⟩ := hcell (by omega)
          obtain ⟨Aj, cj, hav, e0, e1, e2, e3, e4⟩ := hc j a ha
          have HGS := Lib.hid (growL_step ⟨i, t, []⟩ ha)
          have HFW := Lib.hid hav.few
          have HAL := Lib.hid (actL_len (growL ⟨i, t, []⟩ l j) a)
          have hj4 : (j : Int) < (n : Int) := by omega
          have hj5 : (j : Int) < 100 := by omega
          have hcl : ∀ W, Below w.heap.size wr W → A11At w.heap.size W a Aj cj ∧ W.cell? ⟨g, o + j * 5, none⟩ = some (.int .i64 a.kd) ∧ W.cell? ⟨g, o + j * 5 + 1, none⟩ = some (.int .i64 a.n) ∧ W.cell? ⟨g, o + j * 5 + 2, none⟩ = some (.int .u64 (a.ix : Int)) ∧ W.cell? ⟨g, o + j * 5 + 3, none⟩ = some (.int .u64 (a.tm : Int)) ∧ W.cell? ⟨g, o + j * 5 + 4, none⟩ = some (.slice Aj a.l.length cj) := fun W hW => ⟨hav.below hW, (hW.cell (p := ⟨g, _, none⟩) hg).trans e0, (hW.cell (p := ⟨g, _, none⟩) hg).trans e1, (hW.cell (p := ⟨g, _, none⟩) hg).trans e2, (hW.cell (p := ⟨g, _, none⟩) hg).trans e3, (hW.cell (p := ⟨g, _, none⟩) hg).trans e4⟩
          have HCL := Lib.hid hcl
          have HROUND := Lib.hid (show ∀ (W : World) (p2 : Nat) (F2 : Nat → Prop), TwoAt w.heap.size W p2 r (growL ⟨i, t, []⟩ l j) (growL ⟨i, t, []⟩ l j) F2 → Below w.heap.size wr W → Calls Tryz.prog 12 #[ptr p2, ptr r, .agg #[.int .i64 a.kd, .int .i64 a.n, .int .u64 (a.ix : Int), .int .u64 (a.tm : Int), .slice Aj a.l.length cj]] W (ActPost w.heap.size p2 r (growL ⟨i, t, []⟩ l j) (growL ⟨i, t, []⟩ l j) a F2 W) from fun W p2 F2 h2 hW => act_any h2 a Aj cj (hcl W hW).1 (by have := hav.few; omega) (by have := hav.few; omega))
          have HMEAS := Lib.hid (show (actL (growL ⟨i, t, []⟩ l j) a).es.length ≤ 1073741823 by have := HAL.out; have := HFW.out; omega)
          have HFN := Lib.hid (show (actL (growL ⟨i, t, []⟩ l j) a).es.length ≤ (j + 1) * 9437184 by have := HAL.out; have := HFW.out; omega)
          have HTW3 := Lib.hid htw
          have HGL := Lib.hid (show (growL ⟨i, t, []⟩ l j).es.length ≤ 1073741823 by omega)
          clear hcell hc hav ha hlen hbr hg hcl e1 e2 e3 e4
          by_cases k6 : a.kd = 6
          · have HK6 := Lib.hid k6
            have k6b : (a.kd == 6) = true := beq_iff_eq.2 k6
            obtain ⟨v0, S0, hl0, -⟩ := htw.code
            have HCP := Lib.hid (copy_any wr hl0 HGL.out)
            clear hl0 htw k6
            go_wp2_with (first
              | (go_at_call 11; refine HCP.out.mono ?_; rintro e w3 ⟨g3, v3, S3, rfl, hl3, hs3, hb⟩; have HT4 := Lib.hid (two_copy HTW3.out hl3 hs3 hb); have HW3 := Lib.hid (hb.mono (show w.heap.size ≤ wr.heap.size from HBR.out.size)); obtain ⟨-, d0, d1, d2, d3, d4⟩ := HCL.out w3 HW3.out; clear hl3 hs3 hb)
              | (go_at_call 12; refine (HROUND.out _ _ _ HT4.out HW3.out).mono ?_; rintro e w4 ⟨bb, rfl, hbb, F4, htw4, hf4, hk4⟩; obtain rfl : bb = true := hbb rfl; have HT5 := Lib.hid htw4; have HAK := Lib.hid (alike_any htw4 HMEAS.out); have HW4 := Lib.hid (show Below w.heap.size w w4 from (HBR.out.trans HW3.out).trans (hk4.below (HBR.out.trans HW3.out).size (fun b hb => by obtain ⟨_, _, _, _, _, _, _, _, _, h6⟩ := HT4.out; exact (h6 b hb).1))); clear htw4 hf4 hk4 hbb)
              | (go_at_call 13; refine HAK.out.mono ?_; rintro e w5 ⟨rfl, hb⟩; have HT6 := Lib.hid (HT5.out.below hb); have HW5 := Lib.hid (By.ext HW4.out hb); clear hb))
            go_roundw
            case rel => exact ⟨j + 1, g3, F4, by omega, by omega, rfl, by go_num, by rw [HGS.out]; exact HT6.out, by rw [HGS.out]; exact HFN.out, HW5.out⟩
            case measure => simp [intOf]; omega
          · have k6b : (a.kd == 6) = false := beq_eq_false_iff_ne.2 k6
            have HW3 := Lib.hid (Below.refl w.heap.size wr)
            obtain ⟨-, d0, d1, d2, d3, d4⟩ := HCL.out wr HW3.out
            clear htw k6
            go_wp2_with (first
              | (go_at_call 12; refine (HROUND.out _ _ _ HTW3.out HW3.out).mono ?_; rintro e w4 ⟨bb, rfl, hbb, F4, htw4, hf4, hk4⟩; obtain rfl : bb = true := hbb rfl; have HT5 := Lib.hid htw4; have HAK := Lib.hid (alike_any htw4 HMEAS.out); have HW4 := Lib.hid (show Below w.heap.size w w4 from HBR.out.trans (hk4.below HBR.out.size (fun b hb => by obtain ⟨_, _, _, _, _, _, _, _, _, h6⟩ := HTW3.out; exact (h6 b hb).1))); clear htw4 hf4 hk4 hbb)
              | (go_at_call 13; refine HAK.out.mono ?_; rintro e w5 ⟨rfl, hb⟩; have HT6 := Lib.hid (HT5.out.below hb); have HW5 := Lib.hid (By.ext HW4.out hb); clear hb))
            go_roundw
            case rel => exact ⟨j + 1, p', F4, by omega, by omega, rfl, by go_num, by rw [HGS.out]; exact HT6.out, by rw [HGS.out]; exact HFN.out, HW5.out⟩
            case measure => simp [intOf]; omega
        · have hj4 : (j : Int) < (n : Int) := by omega
          have hj5 : ¬ (j : Int) < 100 := by omega
          clear htw hlen hbr
          go_wp2
          go_ret
          exact ⟨rfl, HBR.out⟩
      · have hj4 : ¬ (j : Int) < (n : Int) := by omega
        clear htw hlen hbr
        go_wp2
        go_ret
        exact ⟨rfl, HBR.out⟩
  · have hbad : 4611686018427387904 < i ∨ 4611686018427387904 < t := by omega
    have HBG := Lib.hid (begin_bad i t w hbad)
    have HFIN : ∀ w1 : World, True := fun _ => trivial
    rcases (show (4611686018427387904 : Int) < (i : Int) ∨ (¬ (4611686018427387904 : Int) < (i : Int) ∧ (4611686018427387904 : Int) < (t : Int)) by omega) with hi1 | ⟨hi1, ht1⟩
    all_goals
      clear hok hbad HFIN
      rcases Nat.eq_zero_or_pos n with h0 | h0
      · subst h0
        go_enter Tryz.func3, Tryz.ntmps3
        go_wp2_with (first
          | (go_at_call 9; refine HBG.out.mono ?_; rintro e w1 ⟨r, rfl, hb⟩; have HB1 := Lib.hid hb; clear hb)
          | (go_at_call 10; refine (answers_any _).mono ?_; rintro e w2 ⟨rfl, hb⟩; have HB2 := Lib.hid (By.ext HB1.out hb); clear hb))
        go_loopw [7, 9] (fun pv k wr => pv = .pointer none ∧ k = .int .i64 0 ∧ Below w.heap.size w wr) (fun _ _ _ => 0)
        case atStart => exact ⟨rfl, rfl, HB2.out⟩
        case round =>
          obtain ⟨rfl, rfl, hbr⟩ := hrel
          go_wp2
          go_ret
          exact ⟨rfl, hbr⟩
      · have h0i : (0 : Int) < (n : Int) := by omega
        go_enter Tryz.func3, Tryz.ntmps3
        go_wp2_with (first
          | (go_at_call 9; refine HBG.out.mono ?_; rintro e w1 ⟨r, rfl, hb⟩; have HB1 := Lib.hid hb; clear hb)
          | (go_at_call 10; refine (answers_any _).mono ?_; rintro e w2 ⟨rfl, hb⟩; have HB2 := Lib.hid (By.ext HB1.out hb); clear hb))
        go_loopw [7, 9] (fun pv k wr => pv = .pointer none ∧ k = .int .i64 0 ∧ Below w.heap.size w wr) (fun _ _ _ => 0)
        case atStart => exact ⟨rfl, rfl, HB2.out⟩
        case round =>
          obtain ⟨rfl, rfl, hbr⟩ := hrel
          go_wp2
          go_ret
          exact ⟨rfl, hbr⟩
end Go.Proofs.YtlkepkagbhibhaaGreat.Rg
