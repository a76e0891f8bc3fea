/- The library's own contract of bits.Len64, laid at this program's numbers. | Package codec's small functions as contracts of calls. | Num and its reference's, as contracts of calls. | Bytes, as a contract of calls. | codec.PutBytes, as a contract of calls. -/
import Derived.Shelf.Strconv.Itoa0
import Derived.Test.YtnjifhbooikdbaaGreatDoorProg
import Derived.Test.YtnjifhbooikdbaaGreatDoorGA
/-! The library's own contract of bits.Len64, laid at this program's numbers. -/
namespace Go.Proofs.YtnjifhbooikdbaaGreatDoor.Sh
open Go.Shelf
def ren : Go.Shelf.Ren := ⟨fun | 129 => 92 | n => n, fun | 53 => 34 | 3 => 3 | 4 => 4 | 46 => 114 | 5 => 5 | 9 => 9 | n => n, fun | n => n⟩
theorem lays : Go.Proofs.Lays.n129 Tryz.prog ren := {
  mixed := by kernel_rfl
  f129 := Tryz.func92.trans (congrArg some (by kernel_rfl))
  t3 := Tryz.underlying3
  a3 := Tryz.isAgg3
  z3 := Tryz.sizeOf3
  v3 := Tryz.zeroValue3
  t4 := Tryz.underlying4
  a4 := Tryz.isAgg4
  z4 := Tryz.sizeOf4
  v4 := Tryz.zeroValue4
  t5 := Tryz.underlying5
  a5 := Tryz.isAgg5
  z5 := Tryz.sizeOf5
  v5 := Tryz.zeroValue5
  t9 := Tryz.underlying9
  a9 := Tryz.isAgg9
  z9 := Tryz.sizeOf9
  v9 := Tryz.zeroValue9
  t46 := Tryz.underlying114
  a46 := Tryz.isAgg114
  z46 := Tryz.sizeOf114
  v46 := Tryz.zeroValue114
  t53 := Tryz.underlying34
  a53 := Tryz.isAgg34
  z53 := Tryz.sizeOf34
  v53 := Tryz.zeroValue34 }
theorem len64 (x : Int) (w : World) (h0 : 0 ≤ x) (h1 : x ≤ 18446744073709551615) :
    Calls Tryz.prog 92 #[.int .u64 x] w fun e w' => e = .returned (.int .i64 (Lib.bitLen x.toNat)) ∧ w' = w := Any.bits_Len64 lays x w h0 h1
end Go.Proofs.YtnjifhbooikdbaaGreatDoor.Sh

/-! Package codec's small functions as contracts of calls. -/
namespace Go.Proofs.YtnjifhbooikdbaaGreatDoor.Co
open Go.RowKit By CoP

theorem shl_or (v c : Nat) (hv : v * 256 + 255 < 18446744073709551616) (hc : c < 256) : bits .or .u64 ((v : Int) * 256) (c : Int) = ((v * 256 + c : Nat) : Int) := by
  have h1 : v * 256 < 18446744073709551616 := Nat.lt_of_le_of_lt (Nat.le_add_right _ _) hv
  have h2 : c < 18446744073709551616 := by omega
  have e : (v : Int) * 256 = ((v * 256 : Nat) : Int) := by omega
  have h3 := u64_or_nat (v * 256) c h1 h2
  have h4 : v * 256 + c = v * 256 ||| c := by
    have := Nat.two_pow_add_eq_or_of_lt (i := 8) (b := c) (by simpa using hc) v
    rw [show (2 : Nat) ^ 8 = 256 from rfl, Nat.mul_comm] at this
    exact this
  rw [e, h3, h4]
set_option maxHeartbeats 400000 in
theorem join_any (A : Option Addr) (n c B : Nat) (l : List UInt8) (hn : n = l.length) (h8 : l.length ≤ 8) (w : World) (hr : Lies w B A l) : Calls Tryz.prog 57 #[.slice A n c] w (Ret (.int .u64 (val l : Nat)) w) := by
  have HN := Lib.hid hn
  have h8' : n ≤ 8 := by omega
  clear hn h8
  go_enter Tryz.func57, Tryz.ntmps57
  go_wp2
  go_loop [3, 8] (fun y i => ∃ (k : Nat), k ≤ n ∧ i = .int .i64 k ∧ y = .int .u64 (val (l.take k) : Nat)) (fun _ i => n - (intOf i).toNat)
  case atStart => exact ⟨0, by omega, rfl, rfl⟩
  case round =>
    obtain ⟨k, hk, rfl, rfl⟩ := hrel
    have hn := HN.out
    have hv := val_lt (l.take k)
    by_cases hkn : k < n
    · have hkl : k < l.length := by omega
      have hlen : (l.take k).length = k := by rw [List.length_take]; omega
      obtain ⟨g, o, rfl, hg, hc⟩ := hr.at_ hkl
      have hs := val_take hkl
      obtain ⟨x, hx⟩ : ∃ x, l[k].toNat = x := ⟨_, rfl⟩
      have hx255 : x < 256 := by rw [← hx]; exact l[k].toNat_lt
      rw [hx] at hs hc
      clear hx
      obtain ⟨v, hv2⟩ : ∃ v, val (l.take k) = v := ⟨_, rfl⟩
      rw [hv2, hlen] at hv
      rw [hv2] at hs ⊢
      have hvb : v * 256 + 255 < 18446744073709551616 := by
        have h7 : 256 ^ k ≤ 256 ^ 7 := Nat.pow_le_pow_right (by omega) (by omega)
        have h72 : (256 : Nat) ^ 7 = 72057594037927936 := by decide
        omega
      have HS := Lib.hid (show bits .or .u64 ((v : Int) * 256) (x : Int) = ((val (l.take (k + 1)) : Nat) : Int) by rw [shl_or v x hvb hx255, hs])
      have x0 : (0 : Int) ≤ (x : Int) := by omega
      have x1 : (x : Int) ≤ 255 := by omega
      have v0 : (0 : Int) ≤ (v : Int) := by omega
      have v1 : (v : Int) * 256 ≤ 18446744073709551615 := by omega
      clear hs hv hv2 hlen hn hvb hx255 hr hkl
      go_wp2
      go_round
      case rel => exact ⟨k + 1, by omega, by go_num, by rw [HS.out]⟩
      case measure => simp [intOf]; omega
    · obtain rfl : k = n := by omega
      have e : l.take k = l := List.take_of_length_le (by omega)
      rw [e]
      clear hn hv hr e
      go_wp2
      go_ret
      exact Ret.int _ rfl

theorem nilTest (w : World) (a : Option Addr) (n c n' c' : Nat) : (binOp .eql 32 (.slice a n c) (.slice none n' c')).run Tryz.prog w = .ok (.bool a.isNone) w :=
  Lib.run_eql_slice_nil w _ _ a n c n' c' Tryz.underlying32
set_option maxHeartbeats 400000 in
theorem clone_any (A : Option Addr) (n c B : Nat) (l : List UInt8) (hn : n = l.length) (w : World) (hr : Lies w B A l) (hB : B ≤ w.heap.size) (hs : l.length ≤ 140737488355328) :
    Calls Tryz.prog 59 #[.slice A n c] w (Gives w.heap.size l w) := by
  have q22 := nilTest
  have HN := Lib.hid hn
  clear hn
  have hn0 : A = none → l = [] := fun e => by
    rcases Nat.eq_zero_or_pos l.length with h0 | h0
    · exact List.length_eq_zero_iff.1 h0
    · obtain ⟨g, o, e2, _⟩ := hr h0
      rw [e] at e2; cases e2
  rcases A with _ | ad
  · have hl := hn0 rfl
    clear hn0
    subst hl
    go_enter Tryz.func59, Tryz.ntmps59
    go_wp2
    go_ret
    exact ⟨_, rfl, Own.nil _ _, Below.refl _ _⟩
  · clear hn0
    go_enter Tryz.func59, Tryz.ntmps59
    go_wp2_with (at_builtin; refine wpList_app rfl (.tmp 5) (.tmp 6) rfl rfl (Own.made w w.heap.size #[] 0 (Nat.le_refl _) (by decide) rfl) rfl HN.out (hr.alloc hB _) (by simp; omega) (by simp) ?_; intro v' w1 hown hb1 hg1)
    go_ret
    exact ⟨_, rfl, by simpa using hown, ((Below.refl _ _).alloc (Nat.le_refl _) _).trans hb1⟩
set_option maxHeartbeats 400000 in
theorem from_ok (A : Option Addr) (n c k : Nat) (w : World) (hk : k ≤ n) :
    Calls Tryz.prog 56 #[.slice A n c, .int .i64 (k : Int)] w (Ret (.tuple #[.slice (cutA A c k) (n - k) (c - k), .int .i64 0]) w) := by
  have q := fun w => run_from w A n c k hk
  have h0 : ¬ ((k : Int) < 0) := by omega
  have h1 : ¬ ((n : Int) < (k : Int)) := by omega
  go_enter Tryz.func56, Tryz.ntmps56
  go_wp2
  go_ret2
  exact ⟨rfl, rfl⟩
set_option maxHeartbeats 400000 in
theorem from_out (A : Option Addr) (n c : Nat) (k : Int) (w : World) (hk : k < 0 ∨ (n : Int) < k) :
    Calls Tryz.prog 56 #[.slice A n c, .int .i64 k] w (Ret (.tuple #[.slice none 0 0, .int .i64 1]) w) := by
  rcases Int.lt_or_le k 0 with h0 | h0
  · clear hk
    go_enter Tryz.func56, Tryz.ntmps56
    go_wp2
    go_ret2
    exact ⟨rfl, rfl⟩
  · have h1 : (n : Int) < k := by omega
    have h2 : ¬ (k < 0) := by omega
    clear hk
    go_enter Tryz.func56, Tryz.ntmps56
    go_wp2
    go_ret2
    exact ⟨rfl, rfl⟩

theorem shift_byte (n j : Nat) : (n : Int) / 2 ^ (8 * j) % 256 = ((UInt8.ofNat (n / 256 ^ j)).toNat : Int) := by
  have e1 : (2 : Int) ^ (8 * j) = ((256 ^ j : Nat) : Int) := by
    rw [Int.pow_mul]
    simp
  rw [ofNat_mod, e1]
  omega
set_option maxHeartbeats 400000 in
theorem split_any {base : Nat} (v : Value) (l : List UInt8) (n size : Nat) (N m : Int) (hN : N = n) (hm : m = size) (h8 : size ≤ 8) (hn : n < 18446744073709551616) (w : World) (hown : Own base w v l) (hb : base ≤ w.heap.size) (hs : l.length + 8 ≤ 140737488355328) :
    Calls Tryz.prog 73 #[v, .int .u64 N, .int .i64 m] w (Gives base (l ++ be size n) w) := by
  subst hN hm
  have n0 : (0 : Int) ≤ (n : Int) := by omega
  have n1 : (n : Int) ≤ 18446744073709551615 := by omega
  have HL := Lib.hid hs
  clear hn hs
  go_enter Tryz.func73, Tryz.ntmps73
  go_wp2
  go_loopw [0, 9] (fun b i wr => ∃ (k : Nat), k ≤ size ∧ i = .int .i64 k ∧ Own base wr b (l ++ (be size n).take k) ∧ Below base w wr ∧ base ≤ wr.heap.size) (fun _ i _ => size - (intOf i).toNat)
  case atStart => exact ⟨0, by omega, rfl, by simpa using hown, Below.refl _ _, hb⟩
  case round =>
    obtain ⟨k, hk, rfl, ho, hbw, hbs⟩ := hrel
    by_cases hks : k < size
    · have hlen : (l ++ (be size n).take k).length = l.length + k := by rw [List.length_append, List.length_take, be_length]; omega
      have HLEN := Lib.hid hlen
      clear hlen
      go_wp2_with (at_builtin; refine wpList_app rfl (.tmp 12) (.tmp 21) rfl rfl (ho.alloc _) rfl rfl (Lies.one _ _ (UInt8.ofNat (n / 256 ^ (size - 1 - k))) ?cx) ?cs ?cb ?_)
      case cx => exact shift_byte n (size - 1 - k)
      case cs =>
        have h1 := HLEN.out
        have h2 := HL.out
        rw [h1, List.length_singleton]
        omega
      case cb => rw [World.size_alloc]; omega
      intro v' w1 hown1 hb1 hg1
      have hown2 : Own base w1 v' (l ++ (be size n).take (k + 1)) := by rw [be_take_succ hks]; simpa using hown1
      have hbw1 : Below base w w1 := (hbw.alloc hbs _).trans hb1
      have hbs1 : base ≤ w1.heap.size := by have := hbw1.size; omega
      clear hb1 hg1 ho hbw hown1
      go_wp2
      go_roundw
      case rel => exact ⟨k + 1, by omega, by go_num, hown2, hbw1, hbs1⟩
      case measure => simp [intOf]; omega
    · obtain rfl : k = size := by omega
      rw [List.take_of_length_le (by rw [be_length]; exact Nat.le_refl _)] at ho
      go_wp2
      go_ret
      exact ⟨_, rfl, ho, hbw⟩

theorem len64_any (x : Nat) (hx : x < 18446744073709551616) (w : World) : Calls Tryz.prog 92 #[.int .u64 (x : Int)] w (Ret (.int .i64 (Lib.bitLen x : Nat)) w) :=
  (Sh.len64 (x : Int) w (by omega) (by omega)).mono fun _ _ h => ⟨h.1, h.2.symm⟩
end Go.Proofs.YtnjifhbooikdbaaGreatDoor.Co

/-! Num and its reference's, as contracts of calls. -/
namespace Go.Proofs.YtnjifhbooikdbaaGreatDoor.Co
open Go.RowKit By CoP

set_option maxHeartbeats 400000 in
theorem from_at (A : Option Addr) (n c k m d : Nat) (hm : n = k + m) (hd : c = k + d) (w : World) :
    Calls Tryz.prog 56 #[.slice A n c, .int .i64 (k : Int)] w (Ret (.tuple #[.slice (cutA A c k) m d, .int .i64 0]) w) := by
  subst hm hd
  have := from_ok A (k + m) (k + d) k w (by omega)
  rwa [show k + m - k = m by omega, show k + d - k = d by omega] at this

end Go.Proofs.YtnjifhbooikdbaaGreatDoor.Co

/-! Bytes, as a contract of calls. -/
namespace Go.Proofs.YtnjifhbooikdbaaGreatDoor.Co
open Go.RowKit By CoP

end Go.Proofs.YtnjifhbooikdbaaGreatDoor.Co

/-! codec.PutBytes, as a contract of calls. -/
namespace Go.Proofs.YtnjifhbooikdbaaGreatDoor.Co
open Go.RowKit By CoP

end Go.Proofs.YtnjifhbooikdbaaGreatDoor.Co
