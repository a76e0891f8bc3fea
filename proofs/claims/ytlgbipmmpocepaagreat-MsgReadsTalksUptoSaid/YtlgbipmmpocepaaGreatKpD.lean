/- Package scupperref03's MsgOK; at messages: what is sound, its bytes. Written by genmsgok.py. -/
import Derived.Test.YtlgbipmmpocepaaGreatKpC
import Derived.Test.YtlgbipmmpocepaaGreatGR
import Derived.Deep.DeepCutAuto
namespace Go.Proofs.YtlgbipmmpocepaaGreat.Kd
open Go.RowKit By CoP Co Mo

set_option maxRecDepth 100000 in
set_option maxHeartbeats 8000000 in
theorem msgOK_any (w : World) (kd fr tt : Int) (tm ix lt cm rd : Nat) (ok : Bool) (Ae : Option Addr) (en ce : Nat) (es : List Data) (A : Option Addr) (vn c : Nat) (vs : List Int) (A2 : Option Addr) (ln c2 : Nat) (ls : List Int) (fo : Int) (A3 : Option Addr) (dn c3 : Nat)
    (hen : en = es.length) (hem : en ≤ 140737488355328) (he : entsK.rep w (Old w) [.slice Ae en ce] (.agg es)) (hcf : confK.rep w (Old w) [.slice A vn c, .slice A2 ln c2] (confD vs ls)) (hvn : vn = vs.length) (hln : ln = ls.length) (hvm : vn ≤ 140737488355328) (hlm : ln ≤ 140737488355328) (hdm : dn ≤ 140737488355328) :
    Calls Tryz.prog 28 #[.agg #[.int .i64 kd, .int .i64 fr, .int .i64 tt, .int .u64 (tm : Int), .int .u64 (ix : Int), .int .u64 (lt : Int), .int .u64 (cm : Int), .int .u64 (rd : Int), .bool ok, .slice Ae en ce, .slice A vn c, .slice A2 ln c2, .int .i64 fo, .slice A3 dn c3]] w (Says (msgB0 kd fr tt fo dn en && msgB1 kd vs ls && es.all entryK.sound) w) := by
  have hb0 : Below w.heap.size w (w.alloc (.cells #[.int .i64 kd, .int .i64 fr, .int .i64 tt, .int .u64 (tm : Int), .int .u64 (ix : Int), .int .u64 (lt : Int), .int .u64 (cm : Int), .int .u64 (rd : Int), .bool ok, .slice Ae en ce, .slice A vn c, .slice A2 ln c2, .int .i64 fo, .slice A3 dn c3] 29)) := (Below.refl _ _).alloc (Nat.le_refl _) _
  have hrow0 := heap_alloc_new w (.cells #[.int .i64 kd, .int .i64 fr, .int .i64 tt, .int .u64 (tm : Int), .int .u64 (ix : Int), .int .u64 (lt : Int), .int .u64 (cm : Int), .int .u64 (rd : Int), .bool ok, .slice Ae en ce, .slice A vn c, .slice A2 ln c2, .int .i64 fo, .slice A3 dn c3] 29)
  have HEN := Lib.hid hen
  have HE := Lib.hid he
  have HCF := Lib.hid hcf
  have HVN := Lib.hid hvn
  have HLN := Lib.hid hln
  have HB0 := Lib.hid hb0
  have HROW0 := Lib.hid hrow0
  clear hen he hcf hvn hln hb0 hrow0
  obtain ⟨b0, hb0⟩ : ∃ b, b = msgB0 kd fr tt fo dn en := ⟨_, rfl⟩
  rw [← hb0]
  have HBB := Lib.hid hb0
  clear hb0
  go_enter Tryz.func28, Tryz.ntmps28
  go_upto_region 1 with fail
  go_cut [3] (fun s wx => s = .bool b0 ∧ wx = (w.alloc (.cells #[.int .i64 kd, .int .i64 fr, .int .i64 tt, .int .u64 (tm : Int), .int .u64 (ix : Int), .int .u64 (lt : Int), .int .u64 (cm : Int), .int .u64 (rd : Int), .bool ok, .slice Ae en ce, .slice A vn c, .slice A2 ln c2, .int .i64 fo, .slice A3 dn c3] 29)))
  case first =>
    by_cases u0 : 1 ≤ kd
    case neg =>
      have v0 : kd < 1 := by omega
      have hb : b0 = false := by rw [HBB.out, ← Bool.not_eq_true]; unfold msgB0; simp only [Bool.and_eq_true, decide_eq_true_eq]; omega
      subst hb
      have d0 : decide (1 ≤ kd) = false := decide_eq_false u0
      clear HBB
      go_wp2_with fail
      go_meet
      exact ⟨rfl, rfl⟩
    have d0 : decide (1 ≤ kd) = true := decide_eq_true u0
    by_cases u1 : kd ≤ 9
    case neg =>
      have v1 : 9 < kd := by omega
      have hb : b0 = false := by rw [HBB.out, ← Bool.not_eq_true]; unfold msgB0; simp only [Bool.and_eq_true, decide_eq_true_eq]; omega
      subst hb
      have d1 : decide (kd ≤ 9) = false := decide_eq_false u1
      clear HBB
      go_wp2_with fail
      go_meet
      exact ⟨rfl, rfl⟩
    have d1 : decide (kd ≤ 9) = true := decide_eq_true u1
    by_cases u2 : 1 ≤ fr
    case neg =>
      have v2 : fr < 1 := by omega
      have hb : b0 = false := by rw [HBB.out, ← Bool.not_eq_true]; unfold msgB0; simp only [Bool.and_eq_true, decide_eq_true_eq]; omega
      subst hb
      have d2 : decide (1 ≤ fr) = false := decide_eq_false u2
      clear HBB
      go_wp2_with fail
      go_meet
      exact ⟨rfl, rfl⟩
    have d2 : decide (1 ≤ fr) = true := decide_eq_true u2
    by_cases u3 : fr ≤ 16
    case neg =>
      have v3 : 16 < fr := by omega
      have hb : b0 = false := by rw [HBB.out, ← Bool.not_eq_true]; unfold msgB0; simp only [Bool.and_eq_true, decide_eq_true_eq]; omega
      subst hb
      have d3 : decide (fr ≤ 16) = false := decide_eq_false u3
      clear HBB
      go_wp2_with fail
      go_meet
      exact ⟨rfl, rfl⟩
    have d3 : decide (fr ≤ 16) = true := decide_eq_true u3
    by_cases u4 : 1 ≤ tt
    case neg =>
      have v4 : tt < 1 := by omega
      have hb : b0 = false := by rw [HBB.out, ← Bool.not_eq_true]; unfold msgB0; simp only [Bool.and_eq_true, decide_eq_true_eq]; omega
      subst hb
      have d4 : decide (1 ≤ tt) = false := decide_eq_false u4
      clear HBB
      go_wp2_with fail
      go_meet
      exact ⟨rfl, rfl⟩
    have d4 : decide (1 ≤ tt) = true := decide_eq_true u4
    by_cases u5 : tt ≤ 16
    case neg =>
      have v5 : 16 < tt := by omega
      have hb : b0 = false := by rw [HBB.out, ← Bool.not_eq_true]; unfold msgB0; simp only [Bool.and_eq_true, decide_eq_true_eq]; omega
      subst hb
      have d5 : decide (tt ≤ 16) = false := decide_eq_false u5
      clear HBB
      go_wp2_with fail
      go_meet
      exact ⟨rfl, rfl⟩
    have d5 : decide (tt ≤ 16) = true := decide_eq_true u5
    by_cases u6 : 0 ≤ fo
    case neg =>
      have v6 : fo < 0 := by omega
      have hb : b0 = false := by rw [HBB.out, ← Bool.not_eq_true]; unfold msgB0; simp only [Bool.and_eq_true, decide_eq_true_eq]; omega
      subst hb
      have d6 : decide (0 ≤ fo) = false := decide_eq_false u6
      clear HBB
      go_wp2_with fail
      go_meet
      exact ⟨rfl, rfl⟩
    have d6 : decide (0 ≤ fo) = true := decide_eq_true u6
    by_cases u7 : fo ≤ 65536
    case neg =>
      have v7 : 65536 < fo := by omega
      have hb : b0 = false := by rw [HBB.out, ← Bool.not_eq_true]; unfold msgB0; simp only [Bool.and_eq_true, decide_eq_true_eq]; omega
      subst hb
      have d7 : decide (fo ≤ 65536) = false := decide_eq_false u7
      clear HBB
      go_wp2_with fail
      go_meet
      exact ⟨rfl, rfl⟩
    have d7 : decide (fo ≤ 65536) = true := decide_eq_true u7
    by_cases u8 : dn ≤ 256
    case neg =>
      have v8 : 256 < dn := by omega
      have hb : b0 = false := by rw [HBB.out, ← Bool.not_eq_true]; unfold msgB0; simp only [Bool.and_eq_true, decide_eq_true_eq]; omega
      subst hb
      have d8 : decide (dn ≤ 256) = false := decide_eq_false u8
      have w8 : 256 < (dn : Int) := by omega
      have e8 : decide ((dn : Int) ≤ 256) = false := decide_eq_false (by omega)
      clear HBB
      go_wp2_with fail
      go_meet
      exact ⟨rfl, rfl⟩
    have d8 : decide (dn ≤ 256) = true := decide_eq_true u8
    have w8 : (dn : Int) ≤ 256 := by omega
    have e8 : decide ((dn : Int) ≤ 256) = true := decide_eq_true w8
    by_cases u9 : en ≤ 8
    case neg =>
      have v9 : 8 < en := by omega
      have hb : b0 = false := by rw [HBB.out, ← Bool.not_eq_true]; unfold msgB0; simp only [Bool.and_eq_true, decide_eq_true_eq]; omega
      subst hb
      have d9 : decide (en ≤ 8) = false := decide_eq_false u9
      have w9 : 8 < (en : Int) := by omega
      have e9 : decide ((en : Int) ≤ 8) = false := decide_eq_false (by omega)
      clear HBB
      go_wp2_with fail
      go_meet
      exact ⟨rfl, rfl⟩
    have d9 : decide (en ≤ 8) = true := decide_eq_true u9
    have w9 : (en : Int) ≤ 8 := by omega
    have e9 : decide ((en : Int) ≤ 8) = true := decide_eq_true w9
    have hb : b0 = true := by rw [HBB.out]; unfold msgB0; simp only [Bool.and_eq_true, decide_eq_true_eq]; omega
    subst hb
    clear HBB
    go_wp2_with fail
    go_meet
    exact ⟨rfl, rfl⟩
  case rest =>
    obtain ⟨rfl, rfl⟩ := hcut
    go_upto_if 57 with fail
    go_cut [3] (fun s wx => s = .bool (b0 && msgB1 kd vs ls) ∧ Below w.heap.size w wx ∧ wx.heap[w.heap.size]? = some (.cells #[.int .i64 kd, .int .i64 fr, .int .i64 tt, .int .u64 (tm : Int), .int .u64 (ix : Int), .int .u64 (lt : Int), .int .u64 (cm : Int), .int .u64 (rd : Int), .bool ok, .slice Ae en ce, .slice A vn c, .slice A2 ln c2, .int .i64 fo, .slice A3 dn c3] 29 (0, 0)))
    case first =>
      by_cases h7 : kd = 7
      · have h7d : (kd == 7) = true := by rw [h7]; rfl
        have hm : msgB1 kd vs ls = confB vs ls := by unfold msgB1; rw [if_pos h7]
        clear h7
        have HM := Lib.hid hm
        clear hm
        cases b0 with
        | false =>
          have HB := Lib.hid HB0.out
          go_wp2_with fail
          go_meet
          exact ⟨rfl, HB.out, HROW0.out⟩
        | true =>
          have hcall := conf_ok _ (confK_ok.below HCF.out HB0.out)
          rw [conf_sound] at hcall
          have HC := Lib.hid hcall
          clear hcall
          go_wp2_with fail
          refine HC.out.mono ?_
          rintro e w1 ⟨rfl, hb1⟩
          have HB := Lib.hid (By.ext HB0.out hb1)
          have HR := Lib.hid ((hb1.block _ (row_lt HROW0.out)).trans HROW0.out)
          clear hb1
          go_wp2_with fail
          go_meet
          exact ⟨by rw [HM.out, Bool.true_and], HB.out, HR.out⟩
      · have h7d : (kd == 7) = false := by rw [beq_eq_false_iff_ne]; exact h7
        have hm : msgB1 kd vs ls = (decide (vn = 0) && decide (ln = 0)) := by
          unfold msgB1
          rw [if_neg h7, HVN.out, HLN.out]
          cases vs <;> cases ls <;> simp
        have HM := Lib.hid hm
        clear hm
        cases b0 with
        | false =>
          go_wp2_with fail
          go_meet
          exact ⟨rfl, HB0.out, HROW0.out⟩
        | true =>
          by_cases k1 : vn = 0
          · have kd1 : (vn == 0) = true := by rw [k1]; rfl
            by_cases k2 : ln = 0
            · subst k1 k2
              go_wp2_with fail
              go_meet
              exact ⟨by rw [HM.out]; rfl, HB0.out, HROW0.out⟩
            · subst k1
              have kd2 : (ln == 0) = false := by rw [beq_eq_false_iff_ne]; exact k2
              have kd3 : ((ln : Int) == 0) = false := by rw [beq_eq_false_iff_ne]; omega
              have kd4 : decide (ln = 0) = false := decide_eq_false k2
              have HM4 := Lib.hid kd4
              go_wp2_with fail
              go_meet
              exact ⟨by rw [HM.out, HM4.out]; rfl, HB0.out, HROW0.out⟩
          · have kd2 : (vn == 0) = false := by rw [beq_eq_false_iff_ne]; exact k1
            have kd3 : ((vn : Int) == 0) = false := by rw [beq_eq_false_iff_ne]; omega
            have kd4 : decide (vn = 0) = false := decide_eq_false k1
            have HM4 := Lib.hid kd4
            go_wp2_with fail
            go_meet
            exact ⟨by rw [HM.out, HM4.out]; rfl, HB0.out, HROW0.out⟩
    case rest =>
      obtain ⟨rfl, hbc, hrc⟩ := hcut
      obtain ⟨b1, hb1⟩ : ∃ b, b = (b0 && msgB1 kd vs ls) := ⟨_, rfl⟩
      have HB1 := Lib.hid hb1
      rw [← hb1]
      clear hb1 HBB
      have HBC := Lib.hid hbc
      have HRC := Lib.hid hrc
      clear hbc hrc
      go_wp2
      go_loopw [3, 4] (fun s i wr => ∃ j : Nat, j ≤ en ∧ i = .int .i64 (j : Int) ∧ s = .bool (b1 && (es.take j).all entryK.sound) ∧ Below w.heap.size w wr ∧ wr.heap[w.heap.size]? = some (.cells #[.int .i64 kd, .int .i64 fr, .int .i64 tt, .int .u64 (tm : Int), .int .u64 (ix : Int), .int .u64 (lt : Int), .int .u64 (cm : Int), .int .u64 (rd : Int), .bool ok, .slice Ae en ce, .slice A vn c, .slice A2 ln c2, .int .i64 fo, .slice A3 dn c3] 29 (0, 0))) (fun _ i _ => en - (intOf i).toNat)
      case atStart => exact ⟨0, Nat.zero_le _, rfl, by simp, HBC.out, HRC.out⟩
      case round =>
        obtain ⟨j, hj, rfl, rfl, hbw, hrw⟩ := hrel
        have hx9 : wr.cell? ⟨w.heap.size, 9, none⟩ = some (.slice Ae en ce) := by rw [cell_of_row _ w.heap.size 9 _ _ _ hrw]; rfl
        have HBW := Lib.hid hbw
        have HRW := Lib.hid hrw
        clear hbw hrw
        cases hbj : (b1 && (es.take j).all entryK.sound) with
        | false =>
          have hres : (b1 && es.all entryK.sound) = false := by
            rw [← Bool.not_eq_true] at hbj ⊢
            intro h
            apply hbj
            rw [Bool.and_eq_true, List.all_eq_true] at h ⊢
            exact ⟨h.1, fun x hx => h.2 x (List.mem_of_mem_take hx)⟩
          have HRES := Lib.hid hres
          clear hbj hres
          go_wp2
          go_ret
          exact ⟨by rw [← HB1.out, HRES.out]; rfl, HBW.out⟩
        | true =>
          by_cases hjn : j < en
          · have hjl : j < es.length := by have := HEN.out; omega
            have hjd : decide ((j : Int) < (en : Int)) = true := decide_eq_true (by omega)
            have hjd2 : decide (j < en) = true := decide_eq_true hjn
            obtain ⟨Aq, cq, eq, q1, q2, _, _, q3⟩ := HE.out
            obtain rfl := Data.agg.inj q2
            simp only [List.cons.injEq, Value.slice.injEq, and_true] at q1
            obtain ⟨rfl, -, rfl⟩ := q1
            obtain ⟨g, o, rfl, hg, hcells⟩ := q3 (by omega)
            obtain ⟨xs, hxs, hrd⟩ := hcells j es[j] (List.getElem?_eq_getElem hjl)
            have HSUC := Lib.hid (show (b1 && (es.take (j + 1)).all entryK.sound) = entryK.sound es[j] by
              rw [List.take_succ_eq_append_getElem hjl, List.all_append, ← Bool.and_assoc, hbj]
              simp)
            generalize es[j] = d at hxs HSUC
            have hxs' := entryK_ok.below hxs HBW.out
            obtain ⟨eix, etm, ekd, edl, Ad, cd, eda, rfl, -⟩ := entry_shape hxs
            have hcell : ∀ (q : Nat) (v : Value), [Value.int .u64 (eix : Int), .int .u64 (etm : Int), .int .i64 ekd, .int .i64 edl, .slice Ad eda.length cd][q]? = some v → wr.cell? ⟨g, o + j * 5 + q, none⟩ = some v := fun q v h => (HBW.out.cell (p := ⟨g, o + j * 5 + q, none⟩) (block_lt_of_cell (hrd q v h))).trans (hrd q v h)
            have x0 : wr.cell? ⟨g, o + j * 5, none⟩ = some (.int .u64 (eix : Int)) := hcell 0 _ rfl
            have x1 : wr.cell? ⟨g, o + j * 5 + 1, none⟩ = some (.int .u64 (etm : Int)) := hcell 1 _ rfl
            have x2 : wr.cell? ⟨g, o + j * 5 + 2, none⟩ = some (.int .i64 ekd) := hcell 2 _ rfl
            have x3 : wr.cell? ⟨g, o + j * 5 + 3, none⟩ = some (.int .i64 edl) := hcell 3 _ rfl
            have x4 : wr.cell? ⟨g, o + j * 5 + 4, none⟩ = some (.slice Ad eda.length cd) := hcell 4 _ rfl
            have HC := Lib.hid (ent_ok _ hxs')
            clear hxs hxs' hcell hrd hcells q3 q2 hbj
            generalize eda.length = eln at *
            go_wp2_with fail
            refine HC.out.mono ?_
            rintro e w2 ⟨rfl, hb2⟩
            have HB2 := Lib.hid (By.ext HBW.out hb2)
            have HR2 := Lib.hid ((hb2.block _ (row_lt HRW.out)).trans HRW.out)
            clear hb2 x0 x1 x2 x3 x4 hx9
            go_wp2
            go_roundw
            case rel => exact ⟨j + 1, by omega, by go_num, by rw [HSUC.out], HB2.out, HR2.out⟩
            case measure => simp [intOf]; omega
          · obtain rfl : j = en := by omega
            have htk : es.take j = es := List.take_of_length_le (by have := HEN.out; omega)
            rw [htk] at hbj
            have HRES := Lib.hid hbj
            clear hbj htk
            have hjd : decide ((j : Int) < (j : Int)) = false := decide_eq_false (by omega)
            go_wp2
            go_ret
            exact ⟨by rw [← HB1.out, HRES.out]; rfl, HBW.out⟩
theorem msg_ok {xs : List Value} {d : Data} (w : World) (h : msgK.rep w (Old w) xs d) : Calls Tryz.prog 28 #[.agg xs.toArray] w (Says (msgK.sound d) w) := by
  obtain ⟨kd, fr, tt, tm, ix, lt, cm, rd, ok, Ae, ce, es, A, c, vs, A2, c2, ls, fo, A3, c3, da, rfl, rfl, _, hu, ⟨h1, he⟩, ⟨_, h2, _, _, h3, _, hcf⟩, _, h4, _⟩ := msg_shape h
  rw [msg_sound hu]
  exact msgOK_any w kd fr tt tm ix lt cm rd ok Ae _ ce es A _ c vs A2 _ c2 ls fo A3 _ c3 rfl h1 he hcf rfl rfl h2 h3 h4
end Go.Proofs.YtlgbipmmpocepaaGreat.Kd
