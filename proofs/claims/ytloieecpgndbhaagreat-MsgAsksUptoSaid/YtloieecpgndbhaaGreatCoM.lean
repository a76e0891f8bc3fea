/- The reference's Num, as a contract of calls. -/
import Derived.Test.YtloieecpgndbhaaGreatCoG
namespace Go.Proofs.YtloieecpgndbhaaGreat.Co
open Go.RowKit By CoP

set_option maxHeartbeats 400000 in
theorem rnum_out (A : Option Addr) (n c : Nat) (k : Int) (w : World) (hk : k < 0 ∨ (n : Int) < k) :
    Calls Tryz.prog 230 #[.slice A n c, .int .i64 k] w (GivesN 0 0 1 w) := by
  rcases Int.lt_or_le k 0 with h0 | h0
  · clear hk
    go_enter Tryz.func230, Tryz.ntmps230
    go_wp2
    go_ret3
    exact GivesN.of rfl rfl rfl (Below.refl _ _)
  · have h1 : (n : Int) < k := by omega
    have h2 : ¬ (k < 0) := by omega
    clear hk
    go_enter Tryz.func230, Tryz.ntmps230
    go_wp2
    go_ret3
    exact GivesN.of rfl rfl rfl (Below.refl _ _)
set_option maxRecDepth 100000 in
set_option maxHeartbeats 800000 in
theorem rnum_in (A : Option Addr) (n c k B : Nat) (l : List UInt8) (hn : n = l.length) (hk : k ≤ n) (hm : n ≤ 140737488355328) (w : World) (hr : Lies w B A l) :
    Calls Tryz.prog 230 #[.slice A n c, .int .i64 (k : Int)] w (GivesN (numR (l.drop k)).1 (nextI k (numR (l.drop k)).2.1 (numR (l.drop k)).2.2) (numR (l.drop k)).2.2 w) := by
  have hk0 : ¬ ((k : Int) < 0) := by omega
  have hkn : ¬ ((n : Int) < (k : Int)) := by omega
  by_cases h0 : k = n
  · have hdrop : l.drop k = [] := List.drop_eq_nil_of_le (by omega)
    rw [hdrop]
    have hb : ((k : Int) == (n : Int)) = true := by rw [beq_iff_eq]; omega
    subst h0
    clear hn hdrop hr
    go_enter Tryz.func230, Tryz.ntmps230
    go_wp2
    go_ret3
    exact GivesN.of rfl rfl rfl (Below.refl _ _)
  · have hkl : k < l.length := by omega
    have hkn2 : k < n := by omega
    have hb : ((k : Int) == (n : Int)) = false := by rw [beq_eq_false_iff_ne]; omega
    have hdrop : l.drop k = l[k] :: l.drop (k + 1) := List.drop_eq_getElem_cons hkl
    obtain ⟨g, o, rfl, hg, hcell⟩ := hr.at_ hkl
    rw [hdrop]
    have hl1 : (l.drop (k + 1)).length = n - k - 1 := by rw [List.length_drop]; omega
    have hget : ∀ j, (hj : k + (j + 1) < n) → ∃ hj2 : j < (l.drop (k + 1)).length, w.cell? ⟨g, o + (k + (j + 1)), none⟩ = some (.int .u8 (((l.drop (k + 1))[j]).toNat : Int)) := by
      intro j hj
      refine ⟨by omega, ?_⟩
      obtain ⟨g', o', e, _, hc⟩ := hr.at_ (k := k + (j + 1)) (by omega)
      injection e with e
      injection e with e1 e2
      subst e1 e2
      rw [hc]
      congr 3
      rw [List.getElem_drop]
      congr 2
      omega
    have HG := Lib.hid hget
    generalize l[k] = x at hcell ⊢
    generalize l.drop (k + 1) = t at hl1 HG ⊢
    have HL1 := Lib.hid hl1
    have x0 := byte_lo x
    have x1 := byte_hi x
    obtain ⟨s, hs⟩ : ∃ s, x.toNat = s := ⟨_, rfl⟩
    have HS := Lib.hid hs
    rw [hs] at hcell x0 x1
    clear hs hn hdrop hr hkl h0 hl1 hget
    by_cases h8 : 8 < s
    · have HE := Lib.hid (numR_big (x := x) (t := t) (by have := HS.out; omega))
      go_enter Tryz.func230, Tryz.ntmps230
      go_wp2
      go_ret3
      rw [HE.out]
      exact GivesN.of rfl rfl rfl (Below.refl _ _)
    · by_cases hz : 0 < s ∧ t[0]? = some 0
      · obtain ⟨hs0, ht0⟩ := hz
        have htl : 0 < t.length := by
          rcases Nat.eq_zero_or_pos t.length with h | h
          · rw [List.getElem?_eq_none (by omega)] at ht0; cases ht0
          · exact h
        have hk1 : k + 1 < n := by have := HL1.out; omega
        obtain ⟨_, hc2⟩ := HG.out 0 (by omega)
        have hy : t[0] = 0 := by rw [List.getElem?_eq_getElem htl] at ht0; injection ht0
        rw [hy] at hc2
        have hc3 : w.cell? ⟨g, o + (k + 1), none⟩ = some (.int .u8 0) := hc2
        have HE := Lib.hid (numR_zero (x := x) (t := t) (by have := HS.out; omega) ht0)
        clear hc2 ht0 hy htl
        go_enter Tryz.func230, Tryz.ntmps230
        go_wp2
        go_ret3
        rw [HE.out]
        exact GivesN.of rfl rfl rfl (Below.refl _ _)
      · by_cases hsh : n - k - 1 < s
        · have HE := Lib.hid (numR_short (x := x) (t := t) (by have := HS.out; omega) (by rw [HS.out]; exact hz) (by have := HS.out; have := HL1.out; omega))
          have hsp : 0 < s := by omega
          have hsi : (n : Int) - (k : Int) - 1 < (s : Int) := by omega
          by_cases hk1 : k + 1 < n
          · obtain ⟨htl, hc2⟩ := HG.out 0 (by omega)
            have hy : t[0].toNat ≠ 0 := by
              intro h
              refine hz ⟨hsp, ?_⟩
              rw [List.getElem?_eq_getElem htl]
              congr 1
              exact UInt8.toNat_inj.1 h
            have y0 := byte_lo t[0]
            have y1 := byte_hi t[0]
            generalize t[0].toNat = y at hc2 hy y0 y1
            have hc3 : w.cell? ⟨g, o + (k + 1), none⟩ = some (.int .u8 (y : Int)) := hc2
            have hyb : ((y : Int) == 0) = false := by rw [beq_eq_false_iff_ne]; omega
            clear hc2 hy htl hz
            go_enter Tryz.func230, Tryz.ntmps230
            go_wp2
            go_ret3
            rw [HE.out]
            exact GivesN.of rfl rfl rfl (Below.refl _ _)
          · clear hz
            go_enter Tryz.func230, Tryz.ntmps230
            go_wp2
            go_ret3
            rw [HE.out]
            exact GivesN.of rfl rfl rfl (Below.refl _ _)
        · have HE := Lib.hid (numR_ok (x := x) (t := t) (by have := HS.out; omega) (by rw [HS.out]; exact hz) (by have := HS.out; have := HL1.out; omega))
          have hsi : ¬ ((n : Int) - (k : Int) - 1 < (s : Int)) := by omega
          by_cases hs0 : 0 < s
          · have hk1 : k + 1 < n := by omega
            obtain ⟨htl, hc2⟩ := HG.out 0 (by omega)
            have hy : t[0].toNat ≠ 0 := by
              intro h
              refine hz ⟨hs0, ?_⟩
              rw [List.getElem?_eq_getElem htl]
              congr 1
              exact UInt8.toNat_inj.1 h
            have y0 := byte_lo t[0]
            have y1 := byte_hi t[0]
            generalize t[0].toNat = y at hc2 hy y0 y1
            have hc3 : w.cell? ⟨g, o + (k + 1), none⟩ = some (.int .u8 (y : Int)) := hc2
            have hyb : ((y : Int) == 0) = false := by rw [beq_eq_false_iff_ne]; omega
            clear hc2 hy htl hz
            go_enter Tryz.func230, Tryz.ntmps230
            go_wp2
            go_loop [8, 9] (fun y i => ∃ (j : Nat), j ≤ s ∧ i = .int .i64 ((j : Int) + 1) ∧ y = .int .u64 (val (t.take j) : Nat)) (fun _ i => (s + 1) - (intOf i).toNat)
            case atStart => exact ⟨0, by omega, rfl, rfl⟩
            case round =>
              obtain ⟨j, hj, rfl, rfl⟩ := hrel
              by_cases hjs : j < s
              · obtain ⟨hj2, hc⟩ := HG.out j (by omega)
                have hv := val_lt (t.take j)
                have hlen : (t.take j).length = j := by rw [List.length_take]; omega
                have hs2 := val_take hj2
                have z255 : t[j].toNat < 256 := t[j].toNat_lt
                generalize t[j].toNat = z at hc hs2 z255
                obtain ⟨v, hv2⟩ : ∃ v, val (t.take j) = v := ⟨_, rfl⟩
                rw [hv2, hlen] at hv
                rw [hv2] at hs2 ⊢
                have hvb : v < 72057594037927936 := by
                  have h7 : 256 ^ j ≤ 256 ^ 7 := Nat.pow_le_pow_right (by omega) (by omega)
                  have h72 : (256 : Nat) ^ 7 = 72057594037927936 := by decide
                  omega
                have HV := Lib.hid (show (v : Int) * 256 + (z : Int) = ((val (t.take (j + 1)) : Nat) : Int) by rw [hs2]; omega)
                have z0 : (0 : Int) ≤ (z : Int) := by omega
                have z1 : (z : Int) ≤ 255 := by omega
                have v0 : (0 : Int) ≤ (v : Int) := by omega
                have v1 : (v : Int) ≤ 72057594037927935 := by omega
                clear hs2 hv hv2 hlen hvb z255 hj2
                go_wp2
                go_round
                case rel => exact ⟨j + 1, by omega, by go_num, by rw [HV.out]⟩
                case measure => simp [intOf]; omega
              · obtain rfl : j = s := by omega
                go_wp2
                go_ret3
                rw [HE.out, HS.out]
                exact GivesN.of rfl (by show _ = nextI k (1 + j) 0; rw [nextI_ok]; omega) rfl (Below.refl _ _)
          · clear hz
            go_enter Tryz.func230, Tryz.ntmps230
            go_wp2
            go_loop [8, 9] (fun y i => ∃ (j : Nat), j ≤ s ∧ i = .int .i64 ((j : Int) + 1) ∧ y = .int .u64 (val (t.take j) : Nat)) (fun _ i => (s + 1) - (intOf i).toNat)
            case atStart => exact ⟨0, by omega, rfl, rfl⟩
            case round =>
              obtain ⟨j, hj, rfl, rfl⟩ := hrel
              by_cases hjs : j < s
              · exact absurd hjs (by omega)
              · obtain rfl : j = s := by omega
                go_wp2
                go_ret3
                rw [HE.out, HS.out]
                exact GivesN.of rfl (by show _ = nextI k (1 + j) 0; rw [nextI_ok]; omega) rfl (Below.refl _ _)
end Go.Proofs.YtloieecpgndbhaaGreat.Co
