/- Package codec's Sum and its reference's, as contracts of calls. -/
import Derived.Test.YtnjifhbooikdbaaGreatDoorGE
namespace Go.Proofs.YtnjifhbooikdbaaGreatDoor.Co
open Go.RowKit By CoP

theorem low_bit (x : Nat) (hx : x < 4294967296) : bits .and .u32 (x : Int) 1 = ((x % 2 : Nat) : Int) := by
  rw [show (1 : Int) = ((1 : Nat) : Int) from rfl, u32_and_nat x 1 hx (by omega), Nat.and_one_is_mod]
theorem xor_poly (x : Nat) (hx : x < 4294967296) : bits .xor .u32 ((x : Int) / 2) 3988292384 = ((x / 2 ^^^ 3988292384 : Nat) : Int) := by
  rw [show (x : Int) / 2 = ((x / 2 : Nat) : Int) from by omega, show (3988292384 : Int) = ((3988292384 : Nat) : Int) from rfl, u32_xor_nat _ _ (by omega) (by omega)]

set_option maxHeartbeats 400000 in
theorem shift_any (s : Nat) (N : Int) (hN : N = s) (hs : s < 4294967296) (w : World) : Calls Tryz.prog 77 #[.int .u32 N] w (Ret (.int .u32 (steps 8 s : Nat)) w) := by
  subst hN
  go_enter Tryz.func77, Tryz.ntmps77
  go_wp2
  go_loop [0, 4] (fun y i => ∃ (k : Nat), k ≤ 8 ∧ i = .int .i64 k ∧ y = .int .u32 (steps k s : Nat)) (fun _ i => 8 - (intOf i).toNat)
  case atStart => exact ⟨0, by omega, rfl, rfl⟩
  case round =>
    obtain ⟨k, hk, rfl, rfl⟩ := hrel
    have hlt := steps_lt (k := k) hs
    obtain ⟨x, hx⟩ : ∃ x, steps k s = x := ⟨_, rfl⟩
    have HX := Lib.hid hx
    rw [hx] at hlt ⊢
    clear hx
    by_cases hk8 : k < 8
    · by_cases hp : x % 2 = 1
      · have HS := Lib.hid (show bits .xor .u32 ((x : Int) / 2) 3988292384 = ((steps (k + 1) s : Nat) : Int) by
          rw [xor_poly x hlt]
          show _ = ((bitStep (steps k s) : Nat) : Int)
          rw [HX.out, bitStep, if_pos hp])
        have hq : (bits .and .u32 (x : Int) 1 == 1) = true := by rw [low_bit x hlt, hp]; rfl
        clear hp
        go_wp2
        go_round
        case rel => exact ⟨k + 1, by omega, by go_num, by rw [HS.out]⟩
        case measure => simp [intOf]; omega
      · have HS := Lib.hid (show ((x : Int) / 2) = ((steps (k + 1) s : Nat) : Int) by
          show _ = ((bitStep (steps k s) : Nat) : Int)
          rw [HX.out, bitStep, if_neg hp]
          omega)
        have hq : (bits .and .u32 (x : Int) 1 == 1) = false := by
          rw [low_bit x hlt, show x % 2 = 0 by omega]; rfl
        clear hp
        go_wp2
        go_round
        case rel => exact ⟨k + 1, by omega, by go_num, by rw [HS.out]⟩
        case measure => simp [intOf]; omega
    · obtain rfl : k = 8 := by omega
      go_wp2
      go_ret
      exact Ret.int _ (by rw [HX.out])

theorem xor32 (s x : Nat) (hs : s < 4294967296) (hx : x < 256) : bits .xor .u32 (s : Int) (x : Int) = ((s ^^^ x : Nat) : Int) := u32_xor_nat s x hs (by omega)
theorem not32 (s : Nat) (hs : s < 4294967296) : bits .xor .u32 IntKind.u32.max (s : Int) = ((4294967295 - s : Nat) : Int) := by
  have e : IntKind.u32.max = ((4294967295 : Nat) : Int) := by decide
  have h1 : (4294967295 : Nat) < 4294967296 := by omega
  rw [e, u32_xor_nat 4294967295 s h1 hs]
  have h2 : BitVec.allOnes 32 ^^^ BitVec.ofNat 32 s = ~~~ BitVec.ofNat 32 s := BitVec.allOnes_xor
  have h3 := congrArg BitVec.toNat h2
  rw [BitVec.toNat_xor, BitVec.toNat_not, BitVec.toNat_allOnes, BitVec.toNat_ofNat, Nat.mod_eq_of_lt (by simpa using hs)] at h3
  have h4 : (2 : Nat) ^ 32 - 1 = 4294967295 := by decide
  rw [h4] at h3
  rw [h3]
set_option maxHeartbeats 800000 in
theorem sum_any (A : Option Addr) (n c B : Nat) (ls : List (List UInt8)) (hn : n = ls.length) (hm : n ≤ 140737488355328) (hms : ∀ l ∈ ls, l.length ≤ 140737488355328) (w : World) (hr : LiesL w B A ls) :
    Calls Tryz.prog 58 #[.slice A n c] w (Ret (.int .u32 (crc ls.flatten : Nat)) w) := by
  have HN := Lib.hid hn
  have HM := Lib.hid hms
  clear hn hms
  have h00 : (4294967295 : Nat) < 4294967296 := by omega
  go_enter Tryz.func58, Tryz.ntmps58
  go_wp2
  go_loop [3, 10] (fun y i => ∃ (k : Nat), k ≤ n ∧ i = .int .i64 k ∧ y = .int .u32 (crcFrom 4294967295 (ls.take k).flatten : Nat)) (fun _ i => n - (intOf i).toNat)
  case atStart => exact ⟨0, by omega, rfl, rfl⟩
  case round =>
    obtain ⟨k, hk, rfl, rfl⟩ := hrel
    by_cases hkn : k < n
    · have hkl : k < ls.length := by have := HN.out; omega
      obtain ⟨g, o, Aj, cj, rfl, hg, hc, hrj⟩ := hr.at_ hkl
      have hml := HM.out _ (List.getElem_mem hkl)
      have HT := Lib.hid (show (ls.take (k + 1)).flatten = (ls.take k).flatten ++ ls[k] by rw [List.take_succ_eq_append_getElem hkl, List.flatten_append, List.flatten_cons, List.flatten_nil, List.append_nil])
      generalize ls[k] = l at hc hrj hml HT
      have hs0 : crcFrom 4294967295 (ls.take k).flatten < 4294967296 := crcFrom_lt h00
      obtain ⟨s, hs⟩ : ∃ s, crcFrom 4294967295 (ls.take k).flatten = s := ⟨_, rfl⟩
      rw [hs] at hs0 ⊢
      have HS := Lib.hid hs
      clear hs hr hkl
      obtain ⟨m, hm2⟩ : ∃ m, l.length = m := ⟨_, rfl⟩
      rw [hm2] at hc hml
      have HML := Lib.hid hm2
      clear hm2
      go_wp2
      go_loop [3, 16] (fun y i => ∃ (j : Nat), j ≤ m ∧ i = .int .i64 j ∧ y = .int .u32 (crcFrom s (l.take j) : Nat)) (fun _ i => m - (intOf i).toNat)
      case atStart => exact ⟨0, by omega, rfl, rfl⟩
      case round =>
        obtain ⟨j, hj, rfl, rfl⟩ := hrel
        by_cases hjm : j < m
        · have hjl : j < l.length := by have := HML.out; omega
          obtain ⟨g2, o2, rfl, hg2, hc2⟩ := hrj.at_ hjl
          have HT2 := Lib.hid (crcFrom_take s hjl)
          have hx256 : l[j].toNat < 256 := l[j].toNat_lt
          generalize l[j].toNat = x at hc2 HT2 hx256
          have hs1 : crcFrom s (l.take j) < 4294967296 := crcFrom_lt hs0
          obtain ⟨s1, hs2⟩ : ∃ s1, crcFrom s (l.take j) = s1 := ⟨_, rfl⟩
          rw [hs2] at hs1 ⊢
          have HS1 := Lib.hid hs2
          clear hs2 hrj hjl
          have x0 : (0 : Int) ≤ (x : Int) := by omega
          have x1 : (x : Int) ≤ 255 := by omega
          go_wp2_with fail
          refine (shift_any (s1 ^^^ x) _ (xor32 s1 x hs1 hx256) (xor_lt32 hs1 (by omega)) _).mono ?_
          rintro e w' ⟨rfl, rfl⟩
          go_wp2
          go_round
          case rel => exact ⟨j + 1, by omega, by go_num, by rw [HT2.out, HS1.out]; rfl⟩
          case measure => simp [intOf]; omega
        · obtain rfl : j = m := by omega
          have HE := Lib.hid (show crcFrom s (l.take j) = crcFrom 4294967295 (ls.take (k + 1)).flatten by rw [HT.out, crcFrom_append, HS.out, List.take_of_length_le (by have := HML.out; omega)])
          go_wp2
          go_round
          case rel => exact ⟨k + 1, by omega, by go_num, by rw [HE.out]⟩
          case measure => simp [intOf]; omega
    · obtain rfl : k = n := by omega
      have HE := Lib.hid (show (ls.take k) = ls from List.take_of_length_le (by have := HN.out; omega))
      have hlt : crcFrom 4294967295 (ls.take k).flatten < 4294967296 := crcFrom_lt h00
      rw [HE.out] at hlt ⊢
      clear hr HE
      go_wp2
      go_ret
      exact Ret.int _ (by rw [not32 _ hlt]; rfl)

theorem bit_of (x k : Nat) : ((x : Int) / 2 ^ k).tmod 2 = ((x / 2 ^ k % 2 : Nat) : Int) := by
  have e : (2 : Int) ^ k = ((2 ^ k : Nat) : Int) := by simp
  rw [e, ← Int.natCast_ediv, Int.tmod_eq_emod_of_nonneg (Int.natCast_nonneg _)]
  omega
theorem bit_yes {x r k : Nat} (h : x / 2 ^ k % 2 ≠ r % 2) : (((x : Int) / 2 ^ k).tmod 2 != (r : Int) % 2) = true := by
  rw [bit_of, bne_iff_ne]
  omega
theorem bit_no {x r k : Nat} (h : x / 2 ^ k % 2 = r % 2) : (((x : Int) / 2 ^ k).tmod 2 != (r : Int) % 2) = false := by
  rw [bit_of, bne_eq_false_iff_eq]
  omega
end Go.Proofs.YtnjifhbooikdbaaGreatDoor.Co
