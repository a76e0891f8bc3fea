/- Package clock's drawn, as a contract of a call. -/
import Derived.Test.YthpcmcnkiiebkaaCkB
import Derived.Laws.Bits64b
namespace Go.Proofs.Ythpcmcnkiiebkaa.Ck
open Go.RowKit Go.Maps By Mp SumP SumW

/-- The place of the bits of an end. -/
def placeF (e : Int) : Int := if e < 0 then (7 - e) % 16 else e - 1
theorem and15 (x : Int) (h0 : 0 ≤ x) (h1 : x ≤ 18446744073709551615) : bits .and .u64 x 15 = x % 16 := by
  obtain ⟨n, rfl⟩ : ∃ n : Nat, x = n := ⟨x.toNat, by omega⟩
  have h := bits_and_u64_nat n 15 (by omega) (by omega)
  have h2 : n &&& 15 = n % 16 := Nat.and_two_pow_sub_one_eq_mod n 4
  rw [show (15 : Int) = ((15 : Nat) : Int) from rfl, h, h2]
  omega
theorem div_in {d : Int} (d0 : 0 ≤ d) (d1 : d ≤ 18446744073709551615) (b : Nat) : 0 ≤ d / 2 ^ b ∧ d / 2 ^ b ≤ 18446744073709551615 := by
  have hp : (0 : Int) < 2 ^ b := Int.pow_pos (by omega)
  exact ⟨Int.ediv_nonneg d0 (by omega), Int.le_trans (Int.ediv_le_self _ d0) d1⟩
theorem dr_eq {d : Int} (d0 : 0 ≤ d) (d1 : d ≤ 18446744073709551615) (b : Nat) : wrap64 (bits .and .u64 (d / 2 ^ b) 15) = dr d b := by
  have h := div_in d0 d1 b
  rw [and15 _ h.1 h.2]
  unfold dr wrap64
  omega
theorem drawn_any (d e : Int) (d0 : 0 ≤ d) (d1 : d ≤ 18446744073709551615) (h : 1 ≤ e ∧ e ≤ 16 ∨ -16 ≤ e ∧ e ≤ -1) (w : World) :
    Calls Try.prog 26 #[.int .u64 d, .int .i64 e] w (Ret (.int .i64 (dr d (4 * placeF e).toNat)) w) := by
  rcases h with ⟨h1, h2⟩ | ⟨h1, h2⟩
  · have h3 : ¬ e < 0 := by omega
    have H := Lib.hid (show wrap64 (bits .and .u64 (d / 2 ^ (4 * (e - 1)).toNat) 15) = dr d (4 * placeF e).toNat by rw [dr_eq d0 d1, placeF, if_neg h3])
    go_enter Try.func26, Try.ntmps26
    go_wp2
    go_ret
    exact ⟨congrArg (fun z => Ending.returned (Value.int .i64 z)) H.out, rfl⟩
  · have h3 : e < 0 := by omega
    have H := Lib.hid (show wrap64 (bits .and .u64 (d / 2 ^ (4 * ((7 - e) % 16)).toNat) 15) = dr d (4 * placeF e).toNat by rw [dr_eq d0 d1, placeF, if_pos h3])
    go_enter Try.func26, Try.ntmps26
    go_wp2
    go_ret
    exact ⟨congrArg (fun z => Ending.returned (Value.int .i64 z)) H.out, rfl⟩
theorem place_bit {N M : Nat} (hN : N ≤ 16) (hM : M ≤ 16) {e : Int} (h : 0 ≤ atF N M e) : (4 * placeF e).toNat = bitAt N (atF N M e).toNat := by
  obtain ⟨h1, h2⟩ := atF_in h
  unfold placeF bitAt
  rcases h2 with ⟨a1, a2, a3⟩ | ⟨a1, a2, a3⟩
  · rw [if_neg (by omega), if_pos (by omega)]; omega
  · rw [if_pos (by omega), if_neg (by omega)]; omega
theorem at_end {N M : Nat} (hN : N ≤ 16) (hM : M ≤ 16) {e : Int} (h : 0 ≤ atF N M e) : 1 ≤ e ∧ e ≤ 16 ∨ -16 ≤ e ∧ e ≤ -1 := by
  obtain ⟨h1, h2⟩ := atF_in h
  omega
end Go.Proofs.Ythpcmcnkiiebkaa.Ck
