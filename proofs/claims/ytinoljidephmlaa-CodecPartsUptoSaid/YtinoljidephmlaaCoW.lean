/- Package codec's small functions as contracts of calls. -/
import Derived.Test.YtinoljidephmlaaBy
import Derived.Test.YtinoljidephmlaaCoP
import Derived.Laws.BitsAllLaws
import Derived.Lib.BitFns
import Derived.OwnWalk
import Derived.Test.YtinoljidephmlaaSh
namespace Go.Proofs.Ytinoljidephmlaa.Co
open Go.RowKit By CoP

/-- Gives a value, all memory as it was. -/
def Ret (v : Value) (w : World) (e : Ending) (w' : World) : Prop := e = .returned v ∧ w = w'
theorem Ret.int {k : IntKind} {a b : Int} (w : World) (h : a = b) : Ret (.int k a) w (.returned (.int k b)) w := ⟨by rw [h], rfl⟩
/-- Gives bytes of the call's own, from block base on. -/
def Gives (base : Nat) (l : List UInt8) (w : World) (e : Ending) (w' : World) : Prop := ∃ v, e = .returned v ∧ Own base w' v l ∧ Below base w w'

theorem low_bit (x : Nat) (hx : x < 4294967296) : bits .and .u32 (x : Int) 1 = ((x % 2 : Nat) : Int) := by
  rw [show (1 : Int) = ((1 : Nat) : Int) from rfl, u32_and_nat x 1 hx (by omega), Nat.and_one_is_mod]
theorem xor_poly (x : Nat) (hx : x < 4294967296) : bits .xor .u32 ((x : Int) / 2) 3988292384 = ((x / 2 ^^^ 3988292384 : Nat) : Int) := by
  rw [show (x : Int) / 2 = ((x / 2 : Nat) : Int) from by omega, show (3988292384 : Int) = ((3988292384 : Nat) : Int) from rfl, u32_xor_nat _ _ (by omega) (by omega)]

set_option maxHeartbeats 400000 in
theorem shift_any (s : Nat) (N : Int) (hN : N = s) (hs : s < 4294967296) (w : World) : Calls Try.prog 32 #[.int .u32 N] w (Ret (.int .u32 (steps 8 s : Nat)) w) := by
  subst hN
  go_enter Try.func32, Try.ntmps32
  go_wp2
  go_loop [0, 4] (fun y i => ∃ (k : Nat), k ≤ 8 ∧ i = .int .i64 k ∧ y = .int .u32 (steps k s : Nat)) (fun _ i => 8 - (intOf i).toNat)
  case atStart => exact ⟨0, by omega, rfl, rfl⟩
  case round =>
    obtain ⟨k, hk, rfl, rfl⟩ := hrel
    have hlt := steps_lt (k := k) hs
    obtain ⟨x, hx⟩ : ∃ x, steps k s = x := ⟨_, rfl⟩
    have HX := Lib.hid hx
    rw [hx] at hlt ⊢
    clear hx
    by_cases hk8 : k < 8
    · by_cases hp : x % 2 = 1
      · have HS := Lib.hid (show bits .xor .u32 ((x : Int) / 2) 3988292384 = ((steps (k + 1) s : Nat) : Int) by
          rw [xor_poly x hlt]
          show _ = ((bitStep (steps k s) : Nat) : Int)
          rw [HX.out, bitStep, if_pos hp])
        have hq : (bits .and .u32 (x : Int) 1 == 1) = true := by rw [low_bit x hlt, hp]; rfl
        clear hp
        go_wp2
        go_round
        case rel => exact ⟨k + 1, by omega, by go_num, by rw [HS.out]⟩
        case measure => simp [intOf]; omega
      · have HS := Lib.hid (show ((x : Int) / 2) = ((steps (k + 1) s : Nat) : Int) by
          show _ = ((bitStep (steps k s) : Nat) : Int)
          rw [HX.out, bitStep, if_neg hp]
          omega)
        have hq : (bits .and .u32 (x : Int) 1 == 1) = false := by
          rw [low_bit x hlt, show x % 2 = 0 by omega]; rfl
        clear hp
        go_wp2
        go_round
        case rel => exact ⟨k + 1, by omega, by go_num, by rw [HS.out]⟩
        case measure => simp [intOf]; omega
    · obtain rfl : k = 8 := by omega
      go_wp2
      go_ret
      exact Ret.int _ (by rw [HX.out])

theorem shl_or (v c : Nat) (hv : v * 256 + 255 < 18446744073709551616) (hc : c < 256) : bits .or .u64 ((v : Int) * 256) (c : Int) = ((v * 256 + c : Nat) : Int) := by
  have h1 : v * 256 < 18446744073709551616 := Nat.lt_of_le_of_lt (Nat.le_add_right _ _) hv
  have h2 : c < 18446744073709551616 := by omega
  have e : (v : Int) * 256 = ((v * 256 : Nat) : Int) := by omega
  have h3 := u64_or_nat (v * 256) c h1 h2
  have h4 : v * 256 + c = v * 256 ||| c := by
    have := Nat.two_pow_add_eq_or_of_lt (i := 8) (b := c) (by simpa using hc) v
    rw [show (2 : Nat) ^ 8 = 256 from rfl, Nat.mul_comm] at this
    exact this
  rw [e, h3, h4]
set_option maxHeartbeats 400000 in
theorem join_any (A : Option Addr) (n c B : Nat) (l : List UInt8) (hn : n = l.length) (h8 : l.length ≤ 8) (w : World) (hr : Lies w B A l) : Calls Try.prog 29 #[.slice A n c] w (Ret (.int .u64 (val l : Nat)) w) := by
  have HN := Lib.hid hn
  have h8' : n ≤ 8 := by omega
  clear hn h8
  go_enter Try.func29, Try.ntmps29
  go_wp2
  go_loop [3, 8] (fun y i => ∃ (k : Nat), k ≤ n ∧ i = .int .i64 k ∧ y = .int .u64 (val (l.take k) : Nat)) (fun _ i => n - (intOf i).toNat)
  case atStart => exact ⟨0, by omega, rfl, rfl⟩
  case round =>
    obtain ⟨k, hk, rfl, rfl⟩ := hrel
    have hn := HN.out
    have hv := val_lt (l.take k)
    by_cases hkn : k < n
    · have hkl : k < l.length := by omega
      have hlen : (l.take k).length = k := by rw [List.length_take]; omega
      obtain ⟨g, o, rfl, hg, hc⟩ := hr.at_ hkl
      have hs := val_take hkl
      obtain ⟨x, hx⟩ : ∃ x, l[k].toNat = x := ⟨_, rfl⟩
      have hx255 : x < 256 := by rw [← hx]; exact l[k].toNat_lt
      rw [hx] at hs hc
      clear hx
      obtain ⟨v, hv2⟩ : ∃ v, val (l.take k) = v := ⟨_, rfl⟩
      rw [hv2, hlen] at hv
      rw [hv2] at hs ⊢
      have hvb : v * 256 + 255 < 18446744073709551616 := by
        have h7 : 256 ^ k ≤ 256 ^ 7 := Nat.pow_le_pow_right (by omega) (by omega)
        have h72 : (256 : Nat) ^ 7 = 72057594037927936 := by decide
        omega
      have HS := Lib.hid (show bits .or .u64 ((v : Int) * 256) (x : Int) = ((val (l.take (k + 1)) : Nat) : Int) by rw [shl_or v x hvb hx255, hs])
      have x0 : (0 : Int) ≤ (x : Int) := by omega
      have x1 : (x : Int) ≤ 255 := by omega
      have v0 : (0 : Int) ≤ (v : Int) := by omega
      have v1 : (v : Int) * 256 ≤ 18446744073709551615 := by omega
      clear hs hv hv2 hlen hn hvb hx255 hr hkl
      go_wp2
      go_round
      case rel => exact ⟨k + 1, by omega, by go_num, by rw [HS.out]⟩
      case measure => simp [intOf]; omega
    · obtain rfl : k = n := by omega
      have e : l.take k = l := List.take_of_length_le (by omega)
      rw [e]
      clear hn hv hr e
      go_wp2
      go_ret
      exact Ret.int _ rfl

theorem nilTest (w : World) (a : Option Addr) (n c n' c' : Nat) : (binOp .eql 22 (.slice a n c) (.slice none n' c')).run Try.prog w = .ok (.bool a.isNone) w :=
  Lib.run_eql_slice_nil w _ _ a n c n' c' Try.underlying22
set_option maxHeartbeats 400000 in
theorem clone_any (A : Option Addr) (n c B : Nat) (l : List UInt8) (hn : n = l.length) (w : World) (hr : Lies w B A l) (hB : B ≤ w.heap.size) (hs : l.length ≤ 140737488355328) :
    Calls Try.prog 27 #[.slice A n c] w (Gives w.heap.size l w) := by
  have q22 := nilTest
  have HN := Lib.hid hn
  clear hn
  have hn0 : A = none → l = [] := fun e => by
    rcases Nat.eq_zero_or_pos l.length with h0 | h0
    · exact List.length_eq_zero_iff.1 h0
    · obtain ⟨g, o, e2, _⟩ := hr h0
      rw [e] at e2; cases e2
  rcases A with _ | ad
  · have hl := hn0 rfl
    clear hn0
    subst hl
    go_enter Try.func27, Try.ntmps27
    go_wp2
    go_ret
    exact ⟨_, rfl, Own.nil _ _, Below.refl _ _⟩
  · clear hn0
    go_enter Try.func27, Try.ntmps27
    go_wp2_with (at_builtin; refine wpList_app rfl (.tmp 5) (.tmp 6) rfl rfl (Own.made w w.heap.size #[] 0 (Nat.le_refl _) (by decide) rfl) rfl HN.out (hr.alloc hB _) (by simp; omega) (by simp) ?_; intro v' w1 hown hb1 hg1)
    go_ret
    exact ⟨_, rfl, by simpa using hown, ((Below.refl _ _).alloc (Nat.le_refl _) _).trans hb1⟩
set_option maxHeartbeats 400000 in
theorem from_ok (A : Option Addr) (n c k : Nat) (w : World) (hk : k ≤ n) :
    Calls Try.prog 28 #[.slice A n c, .int .i64 (k : Int)] w (Ret (.tuple #[.slice (cutA A c k) (n - k) (c - k), .int .i64 0]) w) := by
  have q := fun w => run_from w A n c k hk
  have h0 : ¬ ((k : Int) < 0) := by omega
  have h1 : ¬ ((n : Int) < (k : Int)) := by omega
  go_enter Try.func28, Try.ntmps28
  go_wp2
  go_ret2
  exact ⟨rfl, rfl⟩
set_option maxHeartbeats 400000 in
theorem from_out (A : Option Addr) (n c : Nat) (k : Int) (w : World) (hk : k < 0 ∨ (n : Int) < k) :
    Calls Try.prog 28 #[.slice A n c, .int .i64 k] w (Ret (.tuple #[.slice none 0 0, .int .i64 1]) w) := by
  rcases Int.lt_or_le k 0 with h0 | h0
  · clear hk
    go_enter Try.func28, Try.ntmps28
    go_wp2
    go_ret2
    exact ⟨rfl, rfl⟩
  · have h1 : (n : Int) < k := by omega
    have h2 : ¬ (k < 0) := by omega
    clear hk
    go_enter Try.func28, Try.ntmps28
    go_wp2
    go_ret2
    exact ⟨rfl, rfl⟩

theorem shift_byte (n j : Nat) : (n : Int) / 2 ^ (8 * j) % 256 = ((UInt8.ofNat (n / 256 ^ j)).toNat : Int) := by
  have e1 : (2 : Int) ^ (8 * j) = ((256 ^ j : Nat) : Int) := by
    rw [Int.pow_mul]
    simp
  rw [ofNat_mod, e1]
  omega
set_option maxHeartbeats 400000 in
theorem split_any {base : Nat} (v : Value) (l : List UInt8) (n size : Nat) (N m : Int) (hN : N = n) (hm : m = size) (h8 : size ≤ 8) (hn : n < 18446744073709551616) (w : World) (hown : Own base w v l) (hb : base ≤ w.heap.size) (hs : l.length + 8 ≤ 140737488355328) :
    Calls Try.prog 30 #[v, .int .u64 N, .int .i64 m] w (Gives base (l ++ be size n) w) := by
  subst hN hm
  have n0 : (0 : Int) ≤ (n : Int) := by omega
  have n1 : (n : Int) ≤ 18446744073709551615 := by omega
  have HL := Lib.hid hs
  clear hn hs
  go_enter Try.func30, Try.ntmps30
  go_wp2
  go_loopw [0, 9] (fun b i wr => ∃ (k : Nat), k ≤ size ∧ i = .int .i64 k ∧ Own base wr b (l ++ (be size n).take k) ∧ Below base w wr ∧ base ≤ wr.heap.size) (fun _ i _ => size - (intOf i).toNat)
  case atStart => exact ⟨0, by omega, rfl, by simpa using hown, Below.refl _ _, hb⟩
  case round =>
    obtain ⟨k, hk, rfl, ho, hbw, hbs⟩ := hrel
    by_cases hks : k < size
    · have hlen : (l ++ (be size n).take k).length = l.length + k := by rw [List.length_append, List.length_take, be_length]; omega
      have HLEN := Lib.hid hlen
      clear hlen
      go_wp2_with (at_builtin; refine wpList_app rfl (.tmp 12) (.tmp 21) rfl rfl (ho.alloc _) rfl rfl (Lies.one _ _ (UInt8.ofNat (n / 256 ^ (size - 1 - k))) ?cx) ?cs ?cb ?_)
      case cx => exact shift_byte n (size - 1 - k)
      case cs =>
        have h1 := HLEN.out
        have h2 := HL.out
        rw [h1, List.length_singleton]
        omega
      case cb => rw [World.size_alloc]; omega
      intro v' w1 hown1 hb1 hg1
      have hown2 : Own base w1 v' (l ++ (be size n).take (k + 1)) := by rw [be_take_succ hks]; simpa using hown1
      have hbw1 : Below base w w1 := (hbw.alloc hbs _).trans hb1
      have hbs1 : base ≤ w1.heap.size := by have := hbw1.size; omega
      clear hb1 hg1 ho hbw hown1
      go_wp2
      go_roundw
      case rel => exact ⟨k + 1, by omega, by go_num, hown2, hbw1, hbs1⟩
      case measure => simp [intOf]; omega
    · obtain rfl : k = size := by omega
      rw [List.take_of_length_le (by rw [be_length]; exact Nat.le_refl _)] at ho
      go_wp2
      go_ret
      exact ⟨_, rfl, ho, hbw⟩

theorem len64_any (x : Nat) (hx : x < 18446744073709551616) (w : World) : Calls Try.prog 33 #[.int .u64 (x : Int)] w (Ret (.int .i64 (Lib.bitLen x : Nat)) w) :=
  (Sh.len64 (x : Int) w (by omega) (by omega)).mono fun _ _ h => ⟨h.1, h.2.symm⟩
set_option maxHeartbeats 400000 in
theorem appendNum_any {base : Nat} (v : Value) (l : List UInt8) (n : Nat) (N : Int) (hN : N = n) (hn : n < 18446744073709551616) (w : World) (hown : Own base w v l) (hb : base ≤ w.heap.size) (hs : l.length + 9 ≤ 140737488355328) :
    Calls Try.prog 26 #[v, .int .u64 N] w (Gives base (l ++ putNum n) w) := by
  subst hN
  have hq := nb_bits n hn
  have hq64 := Lib.bitLen_le n 64 (by omega) (by simpa using hn)
  have HN := Lib.hid hn
  have HL := Lib.hid hs
  have hc := len64_any n hn w
  generalize Lib.bitLen n = q at hq hq64 hc
  have HQ := Lib.hid hq
  have HC := Lib.hid hc
  clear hq hn hs hc
  have q0 : (0 : Int) ≤ (q : Int) := by omega
  have q1 : (q : Int) ≤ 64 := by omega
  go_enter Try.func26, Try.ntmps26
  go_wp2_with fail
  refine HC.out.mono ?_
  rintro e w' ⟨rfl, rfl⟩
  clear HC
  go_wp2_with (at_builtin; refine wpList_app rfl (.tmp 10) (.tmp 13) rfl rfl (hown.alloc _) rfl rfl (Lies.one _ _ (UInt8.ofNat (nb n)) ?cx) ?cs ?cb ?_)
  case cx =>
    have := HQ.out
    rw [ofNat_mod]
    omega
  case cs => have := HL.out; rw [List.length_singleton]; omega
  case cb => rw [World.size_alloc]; omega
  intro v' w1 hown1 hb1 hg1
  have hbw1 : Below base w w1 := ((Below.refl base w).alloc hb _).trans hb1
  clear hb1 hg1
  go_wp2_with fail
  refine (split_any v' _ n (nb n) _ _ rfl (by have := HQ.out; omega) (by have := HQ.out; omega) HN.out w1 hown1 (by have := hbw1.size; omega) (by have := HL.out; rw [List.length_append, List.length_singleton]; omega)).mono ?_
  rintro e w2 ⟨v2, rfl, ho2, hb2⟩
  go_wp2
  go_ret
  exact ⟨_, rfl, by rw [List.append_assoc] at ho2; exact ho2, hbw1.trans hb2⟩
set_option maxHeartbeats 400000 in
theorem putNum_any (A : Option Addr) (m c B : Nat) (l : List UInt8) (n : Nat) (N : Int) (hN : N = n) (hn : n < 18446744073709551616) (hm : m = l.length) (w : World) (hr : Lies w B A l) (hB : B ≤ w.heap.size) (hs : l.length + 9 ≤ 140737488355328) :
    Calls Try.prog 10 #[.slice A m c, .int .u64 N] w (Gives w.heap.size (l ++ putNum n) w) := by
  subst hN
  have HN := Lib.hid hn
  have HM := Lib.hid hm
  have HL := Lib.hid hs
  clear hn hm hs
  go_enter Try.func10, Try.ntmps10
  go_wp2_with fail
  refine (clone_any A m c B l HM.out w hr hB (by have := HL.out; omega)).mono ?_
  rintro e w1 ⟨v1, rfl, ho1, hb1⟩
  go_wp2_with fail
  refine (appendNum_any v1 l n _ rfl HN.out w1 ho1 hb1.size HL.out).mono ?_
  rintro e w2 ⟨v2, rfl, ho2, hb2⟩
  go_wp2
  go_ret
  exact ⟨_, rfl, ho2, hb1.trans hb2⟩
set_option maxHeartbeats 400000 in
theorem own_any (A : Option Addr) (m c B : Nat) (l : List UInt8) (hm : m = l.length) (w : World) (hr : Lies w B A l) (hB : B ≤ w.heap.size) (hs : l.length + 9 ≤ 140737488355328) :
    Calls Try.prog 11 #[.slice A m c] w (Gives w.heap.size l w) := by
  obtain ⟨i0, hi, hz0, hz1, hz2⟩ := info_parts u8Info
  have HI := Lib.hid hi
  have HZ0 := Lib.hid hz0
  have HZ1 := Lib.hid hz1
  have HZ2 := Lib.hid hz2
  clear hi hz0 hz1 hz2
  have HM := Lib.hid hm
  have hm2 : m ≤ 140737488355328 := by omega
  have HL := Lib.hid hs
  clear hm hs
  go_enter Try.func11, Try.ntmps11
  go_wp2_with (at_make; refine wpList_make_own _ rfl _ _ 22 rfl w.heap.size 5 i0 (.int .u8 0) 1 Try.underlying22 HI.out HZ0.out HZ1.out _ _ _ (m + 9) rfl rfl (by omega) ?cb ?cm ?cz ?_)
  case cb => rw [HZ2.out]; omega
  case cm => unfold maxLen; omega
  case cz => exact Nat.le_refl _
  intro w1 hown hg
  have hown0 : Own w.heap.size w1 (.slice (some ⟨w.heap.size, 0, none⟩) 0 (m + 9)) [] := hown
  have hbw : Below w.heap.size w w1 := (Below.refl _ _).grown hg (Nat.le_refl _) (by simp)
  have hr1 := hr.below (hbw.mono hB)
  have hsz := hbw.size
  clear hown hg
  go_wp2_with (at_builtin; refine wpList_app rfl (.tmp 6) (.tmp 7) rfl rfl hown0 rfl HM.out hr1 ?cs ?cb ?_)
  case cs => have := HL.out; simp; omega
  case cb => omega
  intro v' w2 hown2 hb2 _
  go_wp2
  go_ret
  exact ⟨_, rfl, by simpa using hown2, hbw.trans hb2⟩
end Go.Proofs.Ytinoljidephmlaa.Co
