/- The reference's PutNum and PutBytes, as contracts of calls. -/
import Derived.Test.YtloieecpgndbhaaGreatCoG
namespace Go.Proofs.YtloieecpgndbhaaGreat.Co
open Go.RowKit By CoP

set_option maxHeartbeats 400000 in
theorem rputNum_any (n : Nat) (N : Int) (hN : N = n) (hn : n < 18446744073709551616) (w : World) : Calls Tryz.prog 151 #[.int .u64 N] w (Gives w.heap.size (putNum n) w) := by
  subst hN
  have hk8 : (lows n).length ≤ 8 := nb_le (n := n) (k := 8) (by simpa using hn)
  have HN := Lib.hid hn
  clear hn
  go_enter Tryz.func151, Tryz.ntmps151
  go_wp2
  go_loopw [0, 3] (fun m v wr => ∃ (q : Nat) (lo : List UInt8), m = .int .u64 q ∧ q < 18446744073709551616 ∧ Own w.heap.size wr v lo ∧ lo ++ lows q = lows n ∧ Below w.heap.size w wr) (fun m _ _ => (intOf m).toNat)
  case atStart => exact ⟨n, [], rfl, HN.out, Own.nil _ _, rfl, Below.refl _ _⟩
  case round =>
    obtain ⟨q, lo, rfl, hq, ho, hl, hbw⟩ := hrel
    have hsz := hbw.size
    have hlo : lo.length ≤ 8 := by have := congrArg List.length hl; rw [List.length_append] at this; omega
    have HL := Lib.hid hl
    have HQ := Lib.hid hq
    have q0 : (0 : Int) ≤ (q : Int) := by omega
    have q1 : (q : Int) ≤ 18446744073709551615 := by omega
    clear hl hq
    by_cases hp : 0 < q
    · have HB := Lib.hid hbw
      clear hbw
      go_wp2_with (at_builtin; refine wpList_app rfl (.tmp 8) (.tmp 12) rfl rfl (ho.alloc _) rfl rfl (Lies.one _ _ (UInt8.ofNat (q % 256)) ?cx) ?cs ?cb ?_)
      case cx => rw [ofNat_mod]; omega
      case cs => rw [List.length_singleton]; omega
      case cb => rw [World.size_alloc]; omega
      intro v' w1 ho1 hb1 _
      have hbw1 : Below w.heap.size w w1 := (HB.out.alloc hsz _).trans hb1
      have HB1 := Lib.hid hbw1
      have hl2 : (lo ++ [UInt8.ofNat (q % 256)]) ++ lows (q / 256) = lows n := by
        have h := HL.out
        rw [lows_pos (by omega)] at h
        rw [List.append_assoc]; exact h
      have HL2 := Lib.hid hl2
      clear hl2 hbw1 hb1
      go_wp2
      go_roundw
      case rel => exact ⟨q / 256, _, by go_num, by have := HQ.out; omega, ho1, HL2.out, HB1.out⟩
      case measure => simp [intOf]; omega
    · obtain rfl : q = 0 := by omega
      rw [show ((0 : Nat) : Int) = 0 from rfl]
      have hl := HL.out
      rw [lows_zero, List.append_nil] at hl
      subst hl
      obtain ⟨A, c, rfl, hc1, hc2, hc3, hr, hown⟩ := ho.form
      clear HL HQ q0 q1 hp ho
      obtain ⟨k, hk⟩ : ∃ k, (lows n).length = k := ⟨_, rfl⟩
      rw [hk] at hlo
      rw [hk]
      have HK := Lib.hid hk
      have HB := Lib.hid hbw
      clear hk hbw hc1 hc2 hc3 hown hk8
      obtain ⟨wo, rfl⟩ : ∃ wo : World, wo = wr := ⟨_, rfl⟩
      have hone : Own wo.heap.size (wo.alloc (.cells #[.int .u8 (k : Int)] 5)) (.slice (some ⟨wo.heap.size, 0, none⟩) 1 1) [UInt8.ofNat k] :=
        Own.lit' wo _ _ _ 1 (by simp only [bvs, List.map_cons, List.map_nil, bv, ofNat_mod]; rw [Nat.mod_eq_of_lt (by omega)]) rfl (Nat.le_refl _) (by simp [maxLen])
      have hb0 : Below wo.heap.size wo (wo.alloc (.cells #[.int .u8 (k : Int)] 5)) := (Below.refl _ _).alloc (Nat.le_refl _) _
      have HONE := Lib.hid hone
      have HB0 := Lib.hid hb0
      clear hone hb0
      go_wp2
      go_loopw [4, 5] (fun v i w2 => ∃ (j : Nat), j ≤ k ∧ i = .int .i64 ((k : Int) - 1 - j) ∧ Own wo.heap.size w2 v (UInt8.ofNat k :: (lows n).reverse.take j) ∧ Below wo.heap.size wo w2) (fun _ i _ => (intOf i + 1).toNat)
      case atStart => exact ⟨0, by omega, by simp, HONE.out, HB0.out⟩
      case round =>
        obtain ⟨j, hj, rfl, ho2, hb2⟩ := hrel
        have hz2 := hb2.size
        by_cases hjk : j < k
        · have hkl : k - 1 - j < (lows n).length := by have := HK.out; omega
          obtain ⟨g, o, rfl, hg, hc⟩ := (hr.below hb2).at_ hkl
          have HR := Lib.hid (show (lows n).reverse.take (j + 1) = (lows n).reverse.take j ++ [(lows n)[k - 1 - j]] by
            have h1 : j < (lows n).reverse.length := by rw [List.length_reverse]; have := HK.out; omega
            rw [List.take_succ_eq_append_getElem h1, List.getElem_reverse]
            have := HK.out
            congr 3
            omega)
          generalize (lows n)[k - 1 - j] = x at hc HR
          have HO := Lib.hid ho2
          have HB2 := Lib.hid hb2
          clear hr ho2 hb2 HK hkl
          have x0 := byte_lo x
          have x1 := byte_hi x
          have i0 : (0 : Int) ≤ (k : Int) - 1 - (j : Int) := by omega
          go_wp2_with (at_builtin; refine wpList_app rfl (.tmp 27) (.tmp 32) rfl rfl (HO.out.alloc _) rfl rfl (Lies.one _ _ x rfl) ?cs2 ?cb2 ?_)
          case cs2 => simp; omega
          case cb2 => rw [World.size_alloc]; omega
          intro v2 w3 ho3 hb3 _
          have ho4 : Own wo.heap.size w3 v2 (UInt8.ofNat k :: (lows n).reverse.take (j + 1)) := by rw [HR.out]; simpa using ho3
          have hb4 : Below wo.heap.size wo w3 := (HB2.out.alloc hz2 _).trans hb3
          have HO4 := Lib.hid ho4
          have HB4 := Lib.hid hb4
          clear ho3 hb3 ho4 hb4 hc
          go_wp2
          go_roundw
          case rel => exact ⟨j + 1, by omega, by go_num, HO4.out, HB4.out⟩
          case measure => simp [intOf]; omega
        · obtain rfl : j = k := by omega
          have hk := HK.out
          have hl : (lows n).reverse.take j = (lows n).reverse := List.take_of_length_le (by rw [List.length_reverse]; omega)
          rw [hl] at ho2
          have i0 : (j : Int) - 1 - (j : Int) < 0 := by omega
          have HO2 := Lib.hid ho2
          have HB2 := Lib.hid hb2
          clear hk hl hr ho2 hb2
          go_wp2
          go_ret
          refine ⟨_, rfl, ?_, HB.out.trans (HB2.out.mono hsz)⟩
          have h3 : UInt8.ofNat j :: (lows n).reverse = putNum n := by
            unfold putNum nb
            rw [lows_rev n, HK.out]
          have h4 := HO2.out.more hsz
          rw [h3] at h4
          exact h4

set_option maxHeartbeats 400000 in
theorem rputBytes_any (A : Option Addr) (m c B : Nat) (l : List UInt8) (hm : m = l.length) (w : World) (hr : Lies w B A l) (hB : B ≤ w.heap.size) (hs : l.length + 9 ≤ 140737488355328) :
    Calls Tryz.prog 152 #[.slice A m c] w (Gives w.heap.size (putBytes l) w) := by
  have HM := Lib.hid hm
  have HL := Lib.hid hs
  have hm63 : m ≤ 9223372036854775807 := by omega
  clear hm hs
  go_enter Tryz.func152, Tryz.ntmps152
  go_wp2_with fail
  refine (rputNum_any l.length _ (by rw [HM.out]) (by have := HL.out; omega) w).mono ?_
  rintro e w1 ⟨v1, rfl, ho1, hb1⟩
  have hz1 := hb1.size
  have hr1 := hr.below (hb1.mono hB)
  go_wp2_with (at_builtin; refine wpList_app rfl (.tmp 6) (.tmp 7) rfl rfl ho1 rfl HM.out hr1 ?cs ?cb ?_)
  case cs =>
    have h1 := HL.out
    have h2 : nb l.length ≤ 8 := nb_le (by omega)
    rw [putNum_length]; omega
  case cb => omega
  intro v2 w2 ho2 hb2 _
  go_wp2
  go_ret
  exact ⟨_, rfl, ho2, hb1.trans hb2⟩
end Go.Proofs.YtloieecpgndbhaaGreat.Co
