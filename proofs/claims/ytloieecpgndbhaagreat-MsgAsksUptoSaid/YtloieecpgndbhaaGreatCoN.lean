/- Num and its reference's, as contracts of calls. -/
import Derived.Test.YtloieecpgndbhaaGreatCoW
namespace Go.Proofs.YtloieecpgndbhaaGreat.Co
open Go.RowKit By CoP

set_option maxHeartbeats 400000 in
theorem from_at (A : Option Addr) (n c k m d : Nat) (hm : n = k + m) (hd : c = k + d) (w : World) :
    Calls Tryz.prog 391 #[.slice A n c, .int .i64 (k : Int)] w (Ret (.tuple #[.slice (cutA A c k) m d, .int .i64 0]) w) := by
  subst hm hd
  have := from_ok A (k + m) (k + d) k w (by omega)
  rwa [show k + m - k = m by omega, show k + d - k = d by omega] at this

set_option maxHeartbeats 400000 in
theorem num_out (A : Option Addr) (n c : Nat) (k : Int) (w : World) (hk : k < 0 ∨ (n : Int) < k) :
    Calls Tryz.prog 242 #[.slice A n c, .int .i64 k] w (GivesN 0 0 1 w) := by
  have HK := Lib.hid hk
  clear hk
  go_enter Tryz.func242, Tryz.ntmps242
  go_wp2_with fail
  refine (from_out A n c k w HK.out).mono ?_
  rintro e w1 ⟨rfl, rfl⟩
  go_wp2
  go_ret3
  exact GivesN.of rfl rfl rfl (Below.refl _ _)
set_option maxHeartbeats 800000 in
theorem num_in (A : Option Addr) (n c k B : Nat) (l : List UInt8) (hn : n = l.length) (hc : n ≤ c) (hk : k ≤ n) (hm : n ≤ 140737488355328) (w : World) (hr : Lies w B A l) :
    Calls Tryz.prog 242 #[.slice A n c, .int .i64 (k : Int)] w (GivesN (numR (l.drop k)).1 (nextI k (numR (l.drop k)).2.1 (numR (l.drop k)).2.2) (numR (l.drop k)).2.2 w) := by
  obtain ⟨m, hm1⟩ : ∃ m, n = k + m := ⟨n - k, by omega⟩
  obtain ⟨d, hd1⟩ : ∃ d, c = k + d := ⟨c - k, by omega⟩
  by_cases h0 : m = 0
  · have hdrop : l.drop k = [] := List.drop_eq_nil_of_le (by omega)
    rw [hdrop]
    subst h0
    have HM := Lib.hid hm1
    have HD := Lib.hid hd1
    clear hm1 hd1 hn hdrop hr
    go_enter Tryz.func242, Tryz.ntmps242
    go_wp2_with fail
    refine (from_at A n c k 0 d HM.out HD.out w).mono ?_
    rintro e w1 ⟨rfl, rfl⟩
    go_wp2
    go_ret3
    exact GivesN.of rfl rfl rfl (Below.refl _ _)
  · obtain ⟨m1, rfl⟩ : ∃ m1, m = m1 + 1 := ⟨m - 1, by omega⟩
    obtain ⟨d1, rfl⟩ : ∃ d1, d = d1 + 1 := ⟨d - 1, by omega⟩
    have hkl : k < l.length := by omega
    have hdrop : l.drop k = l[k] :: l.drop (k + 1) := List.drop_eq_getElem_cons hkl
    obtain ⟨g, o, rfl, hg, hcell⟩ := hr.at_ hkl
    have hcut : cutA (some ⟨g, o, none⟩) c k = some ⟨g, o + k, none⟩ := cutA_some (by omega)
    have hr2 : Lies w B (cutA (some ⟨g, o + k, none⟩) (d1 + 1) 1) (l.drop (k + 1)) := by
      have h := (hr.cut (c := c) (by omega) k l.length (by omega) (Nat.le_refl _))
      rw [List.take_length, hcut] at h
      have h2 := h.cut (c := d1 + 1) (by rw [List.length_drop]; omega) 1 (l.drop k).length (by rw [List.length_drop]; omega) (Nat.le_refl _)
      rwa [List.take_length, List.drop_drop] at h2
    have hq : ∀ w, (Instr.slice 23 (.slice (some ⟨g, o + k, none⟩) (m1 + 1) (d1 + 1)) (some (.int .i64 1)) none none).run Tryz.prog w = .ok (.slice (cutA (some ⟨g, o + k, none⟩) (d1 + 1) 1) m1 d1) w :=
      fun w => run_from' w _ (m1 + 1) (d1 + 1) 1 m1 d1 (by omega) (by omega)
    rw [hdrop]
    have hl1 : (l.drop (k + 1)).length = m1 := by rw [List.length_drop]; omega
    generalize l[k] = x at hcell ⊢
    generalize l.drop (k + 1) = t at hr2 hl1 ⊢
    generalize cutA (some ⟨g, o + k, none⟩) (d1 + 1) 1 = A2 at hr2 hq
    have HM := Lib.hid hm1
    have HD := Lib.hid hd1
    have HL1 := Lib.hid hl1
    have HR2 := Lib.hid hr2
    have hf := from_at (some ⟨g, o, none⟩) n c k (m1 + 1) (d1 + 1) hm1 hd1 w
    rw [hcut] at hf
    have HF := Lib.hid hf
    have x0 := byte_lo x
    have x1 := byte_hi x
    have hm1d : m1 ≤ d1 := by omega
    have hk47 : (k : Int) ≤ 140737488355328 := by omega
    obtain ⟨s, hs⟩ : ∃ s, x.toNat = s := ⟨_, rfl⟩
    have HS := Lib.hid hs
    rw [hs] at hcell x0 x1
    clear hs
    clear hm1 hd1 hn hdrop hr hkl h0 hcut hl1 hr2 hf
    go_enter Tryz.func242, Tryz.ntmps242
    go_wp2_with fail
    refine HF.out.mono ?_
    rintro e w1 ⟨rfl, rfl⟩
    go_wp2
    go_quiet (fail)
    by_cases h8 : 8 < s
    · have HE := Lib.hid (numR_big (x := x) (t := t) (by have := HS.out; omega))
      go_wp2
      go_ret3
      rw [HE.out]
      exact GivesN.of rfl rfl rfl (below_drewN (Below.refl _ _) _)
    · by_cases hz : 0 < s ∧ t[0]? = some 0
      · obtain ⟨hs0, ht0⟩ := hz
        have htl : 0 < t.length := by
          rcases Nat.eq_zero_or_pos t.length with h | h
          · rw [List.getElem?_eq_none (by omega)] at ht0; cases ht0
          · exact h
        have hm0 : 0 < m1 := by have := HL1.out; omega
        obtain ⟨g2, o2, rfl, _, hc2⟩ := HR2.out.at_ htl
        have hy : t[0] = 0 := by rw [List.getElem?_eq_getElem htl] at ht0; injection ht0
        rw [hy] at hc2
        have hc3 : w.cell? ⟨g2, o2, none⟩ = some (.int .u8 0) := hc2
        have HE := Lib.hid (numR_zero (x := x) (t := t) (by have := HS.out; omega) ht0)
        clear hc2 ht0 hy HR2 htl
        go_wp2
        go_ret3
        rw [HE.out]
        exact GivesN.of rfl rfl rfl (below_drewN (Below.refl _ _) _)
      · by_cases hs0 : s = 0
        · subst hs0
          have HE := Lib.hid (numR_ok (x := x) (t := t) (by have := HS.out; omega) (by rw [HS.out]; exact hz) (by have := HS.out; omega))
          have hqt := fun w => run_to w A2 m1 d1 0 (by omega)
          clear hz
          go_wp2_with fail
          refine (join_any A2 0 d1 B [] rfl (by simp) _ (Lies.empty _ _ _)).mono ?_
          rintro e w2 ⟨rfl, rfl⟩
          go_wp2
          go_ret3
          rw [HE.out, HS.out]
          exact GivesN.of rfl (by show _ = nextI k (1 + 0) 0; rw [nextI_ok]; omega) rfl (below_drewN (Below.refl _ _) _)
        · have hsp : 0 < s := by omega
          by_cases hm0 : m1 = 0
          · subst hm0
            have HE := Lib.hid (numR_short (x := x) (t := t) (by have := HS.out; omega) (by rw [HS.out]; exact hz) (by have := HS.out; have := HL1.out; omega))
            clear hz
            go_wp2
            go_ret3
            rw [HE.out]
            exact GivesN.of rfl rfl rfl (below_drewN (Below.refl _ _) _)
          · have hmp : 0 < m1 := by omega
            have htl : 0 < t.length := by have := HL1.out; omega
            obtain ⟨g2, o2, rfl, hg2, hc2⟩ := HR2.out.at_ htl
            have hy : t[0].toNat ≠ 0 := by
              intro h
              refine hz ⟨hsp, ?_⟩
              rw [List.getElem?_eq_getElem htl]
              congr 1
              exact UInt8.toNat_inj.1 h
            have y0 := byte_lo t[0]
            have y1 := byte_hi t[0]
            generalize t[0].toNat = y at hc2 hy y0 y1
            have hc3 : w.cell? ⟨g2, o2, none⟩ = some (.int .u8 (y : Int)) := hc2
            have hyb : ((y : Int) == 0) = false := by rw [beq_eq_false_iff_ne]; omega
            clear hc2 hy htl
            by_cases hsh : m1 < s
            · have HE := Lib.hid (numR_short (x := x) (t := t) (by have := HS.out; omega) (by rw [HS.out]; exact hz) (by have := HS.out; have := HL1.out; omega))
              clear hz
              go_wp2
              go_ret3
              rw [HE.out]
              exact GivesN.of rfl rfl rfl (below_drewN (Below.refl _ _) _)
            · have HE := Lib.hid (numR_ok (x := x) (t := t) (by have := HS.out; omega) (by rw [HS.out]; exact hz) (by have := HS.out; have := HL1.out; omega))
              have HLT := Lib.hid (show s = (t.take s).length by have := HL1.out; rw [List.length_take]; omega)
              have hqt := fun w => run_to w (some ⟨g2, o2, none⟩) m1 d1 s (by omega)
              clear hz
              go_wp2_with fail
              refine (join_any (some ⟨g2, o2, none⟩) s d1 B (t.take s) HLT.out (by have := HLT.out; omega) _ (lies_take (HR2.out.drewN _) s)).mono ?_
              rintro e w2 ⟨rfl, rfl⟩
              go_wp2
              go_ret3
              rw [HE.out, HS.out]
              exact GivesN.of rfl (by show _ = nextI k (1 + s) 0; rw [nextI_ok]; omega) rfl (below_drewN (Below.refl _ _) _)

end Go.Proofs.YtloieecpgndbhaaGreat.Co
