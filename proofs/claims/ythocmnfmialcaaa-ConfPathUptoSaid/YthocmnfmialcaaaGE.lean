/- The library's own contract of bits.Len64, laid at this program's numbers. | Package codec's small functions as contracts of calls. | Num and its reference's, as contracts of calls. | Bytes, as a contract of calls. | codec.PutBytes, as a contract of calls. -/
import Derived.Shelf.Strconv.Itoa0
import Derived.Test.YthocmnfmialcaaaProg
import Derived.Test.YthocmnfmialcaaaGA
/-! The library's own contract of bits.Len64, laid at this program's numbers. -/
namespace Go.Proofs.Ythocmnfmialcaaa.Sh
open Go.Shelf
def ren : Go.Shelf.Ren := ⟨fun | 129 => 83 | n => n, fun | 53 => 40 | 3 => 3 | 4 => 4 | 46 => 98 | 5 => 5 | 9 => 9 | n => n, fun | n => n⟩
theorem lays : Go.Proofs.Lays.n129 Try.prog ren := {
  mixed := by kernel_rfl
  f129 := Try.func83.trans (congrArg some (by kernel_rfl))
  t3 := Try.underlying3
  a3 := Try.isAgg3
  z3 := Try.sizeOf3
  v3 := Try.zeroValue3
  t4 := Try.underlying4
  a4 := Try.isAgg4
  z4 := Try.sizeOf4
  v4 := Try.zeroValue4
  t5 := Try.underlying5
  a5 := Try.isAgg5
  z5 := Try.sizeOf5
  v5 := Try.zeroValue5
  t9 := Try.underlying9
  a9 := Try.isAgg9
  z9 := Try.sizeOf9
  v9 := Try.zeroValue9
  t46 := Try.underlying98
  a46 := Try.isAgg98
  z46 := Try.sizeOf98
  v46 := Try.zeroValue98
  t53 := Try.underlying40
  a53 := Try.isAgg40
  z53 := Try.sizeOf40
  v53 := Try.zeroValue40 }
theorem len64 (x : Int) (w : World) (h0 : 0 ≤ x) (h1 : x ≤ 18446744073709551615) :
    Calls Try.prog 83 #[.int .u64 x] w fun e w' => e = .returned (.int .i64 (Lib.bitLen x.toNat)) ∧ w' = w := Any.bits_Len64 lays x w h0 h1
end Go.Proofs.Ythocmnfmialcaaa.Sh

/-! Package codec's small functions as contracts of calls. -/
namespace Go.Proofs.Ythocmnfmialcaaa.Co
open Go.RowKit By CoP

theorem shl_or (v c : Nat) (hv : v * 256 + 255 < 18446744073709551616) (hc : c < 256) : bits .or .u64 ((v : Int) * 256) (c : Int) = ((v * 256 + c : Nat) : Int) := by
  have h1 : v * 256 < 18446744073709551616 := Nat.lt_of_le_of_lt (Nat.le_add_right _ _) hv
  have h2 : c < 18446744073709551616 := by omega
  have e : (v : Int) * 256 = ((v * 256 : Nat) : Int) := by omega
  have h3 := u64_or_nat (v * 256) c h1 h2
  have h4 : v * 256 + c = v * 256 ||| c := by
    have := Nat.two_pow_add_eq_or_of_lt (i := 8) (b := c) (by simpa using hc) v
    rw [show (2 : Nat) ^ 8 = 256 from rfl, Nat.mul_comm] at this
    exact this
  rw [e, h3, h4]
set_option maxHeartbeats 400000 in
theorem join_any (A : Option Addr) (n c B : Nat) (l : List UInt8) (hn : n = l.length) (h8 : l.length ≤ 8) (w : World) (hr : Lies w B A l) : Calls Try.prog 81 #[.slice A n c] w (Ret (.int .u64 (val l : Nat)) w) := by
  have HN := Lib.hid hn
  have h8' : n ≤ 8 := by omega
  clear hn h8
  go_enter Try.func81, Try.ntmps81
  go_wp2
  go_loop [3, 8] (fun y i => ∃ (k : Nat), k ≤ n ∧ i = .int .i64 k ∧ y = .int .u64 (val (l.take k) : Nat)) (fun _ i => n - (intOf i).toNat)
  case atStart => exact ⟨0, by omega, rfl, rfl⟩
  case round =>
    obtain ⟨k, hk, rfl, rfl⟩ := hrel
    have hn := HN.out
    have hv := val_lt (l.take k)
    by_cases hkn : k < n
    · have hkl : k < l.length := by omega
      have hlen : (l.take k).length = k := by rw [List.length_take]; omega
      obtain ⟨g, o, rfl, hg, hc⟩ := hr.at_ hkl
      have hs := val_take hkl
      obtain ⟨x, hx⟩ : ∃ x, l[k].toNat = x := ⟨_, rfl⟩
      have hx255 : x < 256 := by rw [← hx]; exact l[k].toNat_lt
      rw [hx] at hs hc
      clear hx
      obtain ⟨v, hv2⟩ : ∃ v, val (l.take k) = v := ⟨_, rfl⟩
      rw [hv2, hlen] at hv
      rw [hv2] at hs ⊢
      have hvb : v * 256 + 255 < 18446744073709551616 := by
        have h7 : 256 ^ k ≤ 256 ^ 7 := Nat.pow_le_pow_right (by omega) (by omega)
        have h72 : (256 : Nat) ^ 7 = 72057594037927936 := by decide
        omega
      have HS := Lib.hid (show bits .or .u64 ((v : Int) * 256) (x : Int) = ((val (l.take (k + 1)) : Nat) : Int) by rw [shl_or v x hvb hx255, hs])
      have x0 : (0 : Int) ≤ (x : Int) := by omega
      have x1 : (x : Int) ≤ 255 := by omega
      have v0 : (0 : Int) ≤ (v : Int) := by omega
      have v1 : (v : Int) * 256 ≤ 18446744073709551615 := by omega
      clear hs hv hv2 hlen hn hvb hx255 hr hkl
      go_wp2
      go_round
      case rel => exact ⟨k + 1, by omega, by go_num, by rw [HS.out]⟩
      case measure => simp [intOf]; omega
    · obtain rfl : k = n := by omega
      have e : l.take k = l := List.take_of_length_le (by omega)
      rw [e]
      clear hn hv hr e
      go_wp2
      go_ret
      exact Ret.int _ rfl

theorem nilTest (w : World) (a : Option Addr) (n c n' c' : Nat) : (binOp .eql 46 (.slice a n c) (.slice none n' c')).run Try.prog w = .ok (.bool a.isNone) w :=
  Lib.run_eql_slice_nil w _ _ a n c n' c' Try.underlying46
set_option maxHeartbeats 400000 in
theorem clone_any (A : Option Addr) (n c B : Nat) (l : List UInt8) (hn : n = l.length) (w : World) (hr : Lies w B A l) (hB : B ≤ w.heap.size) (hs : l.length ≤ 140737488355328) :
    Calls Try.prog 79 #[.slice A n c] w (Gives w.heap.size l w) := by
  have q22 := nilTest
  have HN := Lib.hid hn
  clear hn
  have hn0 : A = none → l = [] := fun e => by
    rcases Nat.eq_zero_or_pos l.length with h0 | h0
    · exact List.length_eq_zero_iff.1 h0
    · obtain ⟨g, o, e2, _⟩ := hr h0
      rw [e] at e2; cases e2
  rcases A with _ | ad
  · have hl := hn0 rfl
    clear hn0
    subst hl
    go_enter Try.func79, Try.ntmps79
    go_wp2
    go_ret
    exact ⟨_, rfl, Own.nil _ _, Below.refl _ _⟩
  · clear hn0
    go_enter Try.func79, Try.ntmps79
    go_wp2_with (at_builtin; refine wpList_app rfl (.tmp 5) (.tmp 6) rfl rfl (Own.made w w.heap.size #[] 0 (Nat.le_refl _) (by decide) rfl) rfl HN.out (hr.alloc hB _) (by simp; omega) (by simp) ?_; intro v' w1 hown hb1 hg1)
    go_ret
    exact ⟨_, rfl, by simpa using hown, ((Below.refl _ _).alloc (Nat.le_refl _) _).trans hb1⟩
set_option maxHeartbeats 400000 in
theorem from_ok (A : Option Addr) (n c k : Nat) (w : World) (hk : k ≤ n) :
    Calls Try.prog 80 #[.slice A n c, .int .i64 (k : Int)] w (Ret (.tuple #[.slice (cutA A c k) (n - k) (c - k), .int .i64 0]) w) := by
  have q := fun w => run_from w A n c k hk
  have h0 : ¬ ((k : Int) < 0) := by omega
  have h1 : ¬ ((n : Int) < (k : Int)) := by omega
  go_enter Try.func80, Try.ntmps80
  go_wp2
  go_ret2
  exact ⟨rfl, rfl⟩
set_option maxHeartbeats 400000 in
theorem from_out (A : Option Addr) (n c : Nat) (k : Int) (w : World) (hk : k < 0 ∨ (n : Int) < k) :
    Calls Try.prog 80 #[.slice A n c, .int .i64 k] w (Ret (.tuple #[.slice none 0 0, .int .i64 1]) w) := by
  rcases Int.lt_or_le k 0 with h0 | h0
  · clear hk
    go_enter Try.func80, Try.ntmps80
    go_wp2
    go_ret2
    exact ⟨rfl, rfl⟩
  · have h1 : (n : Int) < k := by omega
    have h2 : ¬ (k < 0) := by omega
    clear hk
    go_enter Try.func80, Try.ntmps80
    go_wp2
    go_ret2
    exact ⟨rfl, rfl⟩

theorem shift_byte (n j : Nat) : (n : Int) / 2 ^ (8 * j) % 256 = ((UInt8.ofNat (n / 256 ^ j)).toNat : Int) := by
  have e1 : (2 : Int) ^ (8 * j) = ((256 ^ j : Nat) : Int) := by
    rw [Int.pow_mul]
    simp
  rw [ofNat_mod, e1]
  omega
set_option maxHeartbeats 400000 in
theorem split_any {base : Nat} (v : Value) (l : List UInt8) (n size : Nat) (N m : Int) (hN : N = n) (hm : m = size) (h8 : size ≤ 8) (hn : n < 18446744073709551616) (w : World) (hown : Own base w v l) (hb : base ≤ w.heap.size) (hs : l.length + 8 ≤ 140737488355328) :
    Calls Try.prog 84 #[v, .int .u64 N, .int .i64 m] w (Gives base (l ++ be size n) w) := by
  subst hN hm
  have n0 : (0 : Int) ≤ (n : Int) := by omega
  have n1 : (n : Int) ≤ 18446744073709551615 := by omega
  have HL := Lib.hid hs
  clear hn hs
  go_enter Try.func84, Try.ntmps84
  go_wp2
  go_loopw [0, 9] (fun b i wr => ∃ (k : Nat), k ≤ size ∧ i = .int .i64 k ∧ Own base wr b (l ++ (be size n).take k) ∧ Below base w wr ∧ base ≤ wr.heap.size) (fun _ i _ => size - (intOf i).toNat)
  case atStart => exact ⟨0, by omega, rfl, by simpa using hown, Below.refl _ _, hb⟩
  case round =>
    obtain ⟨k, hk, rfl, ho, hbw, hbs⟩ := hrel
    by_cases hks : k < size
    · have hlen : (l ++ (be size n).take k).length = l.length + k := by rw [List.length_append, List.length_take, be_length]; omega
      have HLEN := Lib.hid hlen
      clear hlen
      go_wp2_with (at_builtin; refine wpList_app rfl (.tmp 12) (.tmp 21) rfl rfl (ho.alloc _) rfl rfl (Lies.one _ _ (UInt8.ofNat (n / 256 ^ (size - 1 - k))) ?cx) ?cs ?cb ?_)
      case cx => exact shift_byte n (size - 1 - k)
      case cs =>
        have h1 := HLEN.out
        have h2 := HL.out
        rw [h1, List.length_singleton]
        omega
      case cb => rw [World.size_alloc]; omega
      intro v' w1 hown1 hb1 hg1
      have hown2 : Own base w1 v' (l ++ (be size n).take (k + 1)) := by rw [be_take_succ hks]; simpa using hown1
      have hbw1 : Below base w w1 := (hbw.alloc hbs _).trans hb1
      have hbs1 : base ≤ w1.heap.size := by have := hbw1.size; omega
      clear hb1 hg1 ho hbw hown1
      go_wp2
      go_roundw
      case rel => exact ⟨k + 1, by omega, by go_num, hown2, hbw1, hbs1⟩
      case measure => simp [intOf]; omega
    · obtain rfl : k = size := by omega
      rw [List.take_of_length_le (by rw [be_length]; exact Nat.le_refl _)] at ho
      go_wp2
      go_ret
      exact ⟨_, rfl, ho, hbw⟩

theorem len64_any (x : Nat) (hx : x < 18446744073709551616) (w : World) : Calls Try.prog 83 #[.int .u64 (x : Int)] w (Ret (.int .i64 (Lib.bitLen x : Nat)) w) :=
  (Sh.len64 (x : Int) w (by omega) (by omega)).mono fun _ _ h => ⟨h.1, h.2.symm⟩
set_option maxHeartbeats 400000 in
theorem appendNum_any {base : Nat} (v : Value) (l : List UInt8) (n : Nat) (N : Int) (hN : N = n) (hn : n < 18446744073709551616) (w : World) (hown : Own base w v l) (hb : base ≤ w.heap.size) (hs : l.length + 9 ≤ 140737488355328) :
    Calls Try.prog 78 #[v, .int .u64 N] w (Gives base (l ++ putNum n) w) := by
  subst hN
  have hq := nb_bits n hn
  have hq64 := Lib.bitLen_le n 64 (by omega) (by simpa using hn)
  have HN := Lib.hid hn
  have HL := Lib.hid hs
  have hc := len64_any n hn w
  generalize Lib.bitLen n = q at hq hq64 hc
  have HQ := Lib.hid hq
  have HC := Lib.hid hc
  clear hq hn hs hc
  have q0 : (0 : Int) ≤ (q : Int) := by omega
  have q1 : (q : Int) ≤ 64 := by omega
  go_enter Try.func78, Try.ntmps78
  go_wp2_with fail
  refine HC.out.mono ?_
  rintro e w' ⟨rfl, rfl⟩
  clear HC
  go_wp2_with (at_builtin; refine wpList_app rfl (.tmp 10) (.tmp 13) rfl rfl (hown.alloc _) rfl rfl (Lies.one _ _ (UInt8.ofNat (nb n)) ?cx) ?cs ?cb ?_)
  case cx =>
    have := HQ.out
    rw [ofNat_mod]
    omega
  case cs => have := HL.out; rw [List.length_singleton]; omega
  case cb => rw [World.size_alloc]; omega
  intro v' w1 hown1 hb1 hg1
  have hbw1 : Below base w w1 := ((Below.refl base w).alloc hb _).trans hb1
  clear hb1 hg1
  go_wp2_with fail
  refine (split_any v' _ n (nb n) _ _ rfl (by have := HQ.out; omega) (by have := HQ.out; omega) HN.out w1 hown1 (by have := hbw1.size; omega) (by have := HL.out; rw [List.length_append, List.length_singleton]; omega)).mono ?_
  rintro e w2 ⟨v2, rfl, ho2, hb2⟩
  go_wp2
  go_ret
  exact ⟨_, rfl, by rw [List.append_assoc] at ho2; exact ho2, hbw1.trans hb2⟩
set_option maxHeartbeats 400000 in
theorem putNum_any (A : Option Addr) (m c B : Nat) (l : List UInt8) (n : Nat) (N : Int) (hN : N = n) (hn : n < 18446744073709551616) (hm : m = l.length) (w : World) (hr : Lies w B A l) (hB : B ≤ w.heap.size) (hs : l.length + 9 ≤ 140737488355328) :
    Calls Try.prog 63 #[.slice A m c, .int .u64 N] w (Gives w.heap.size (l ++ putNum n) w) := by
  subst hN
  have HN := Lib.hid hn
  have HM := Lib.hid hm
  have HL := Lib.hid hs
  clear hn hm hs
  go_enter Try.func63, Try.ntmps63
  go_wp2_with fail
  refine (clone_any A m c B l HM.out w hr hB (by have := HL.out; omega)).mono ?_
  rintro e w1 ⟨v1, rfl, ho1, hb1⟩
  go_wp2_with fail
  refine (appendNum_any v1 l n _ rfl HN.out w1 ho1 hb1.size HL.out).mono ?_
  rintro e w2 ⟨v2, rfl, ho2, hb2⟩
  go_wp2
  go_ret
  exact ⟨_, rfl, ho2, hb1.trans hb2⟩
end Go.Proofs.Ythocmnfmialcaaa.Co

/-! Num and its reference's, as contracts of calls. -/
namespace Go.Proofs.Ythocmnfmialcaaa.Co
open Go.RowKit By CoP

set_option maxHeartbeats 400000 in
theorem from_at (A : Option Addr) (n c k m d : Nat) (hm : n = k + m) (hd : c = k + d) (w : World) :
    Calls Try.prog 80 #[.slice A n c, .int .i64 (k : Int)] w (Ret (.tuple #[.slice (cutA A c k) m d, .int .i64 0]) w) := by
  subst hm hd
  have := from_ok A (k + m) (k + d) k w (by omega)
  rwa [show k + m - k = m by omega, show k + d - k = d by omega] at this

set_option maxHeartbeats 400000 in
theorem num_out (A : Option Addr) (n c : Nat) (k : Int) (w : World) (hk : k < 0 ∨ (n : Int) < k) :
    Calls Try.prog 65 #[.slice A n c, .int .i64 k] w (GivesN 0 0 1 w) := by
  have HK := Lib.hid hk
  clear hk
  go_enter Try.func65, Try.ntmps65
  go_wp2_with fail
  refine (from_out A n c k w HK.out).mono ?_
  rintro e w1 ⟨rfl, rfl⟩
  go_wp2
  go_ret3
  exact GivesN.of rfl rfl rfl (Below.refl _ _)
set_option maxHeartbeats 800000 in
theorem num_in (A : Option Addr) (n c k B : Nat) (l : List UInt8) (hn : n = l.length) (hc : n ≤ c) (hk : k ≤ n) (hm : n ≤ 140737488355328) (w : World) (hr : Lies w B A l) :
    Calls Try.prog 65 #[.slice A n c, .int .i64 (k : Int)] w (GivesN (numR (l.drop k)).1 (nextI k (numR (l.drop k)).2.1 (numR (l.drop k)).2.2) (numR (l.drop k)).2.2 w) := by
  obtain ⟨m, hm1⟩ : ∃ m, n = k + m := ⟨n - k, by omega⟩
  obtain ⟨d, hd1⟩ : ∃ d, c = k + d := ⟨c - k, by omega⟩
  by_cases h0 : m = 0
  · have hdrop : l.drop k = [] := List.drop_eq_nil_of_le (by omega)
    rw [hdrop]
    subst h0
    have HM := Lib.hid hm1
    have HD := Lib.hid hd1
    clear hm1 hd1 hn hdrop hr
    go_enter Try.func65, Try.ntmps65
    go_wp2_with fail
    refine (from_at A n c k 0 d HM.out HD.out w).mono ?_
    rintro e w1 ⟨rfl, rfl⟩
    go_wp2
    go_ret3
    exact GivesN.of rfl rfl rfl (Below.refl _ _)
  · obtain ⟨m1, rfl⟩ : ∃ m1, m = m1 + 1 := ⟨m - 1, by omega⟩
    obtain ⟨d1, rfl⟩ : ∃ d1, d = d1 + 1 := ⟨d - 1, by omega⟩
    have hkl : k < l.length := by omega
    have hdrop : l.drop k = l[k] :: l.drop (k + 1) := List.drop_eq_getElem_cons hkl
    obtain ⟨g, o, rfl, hg, hcell⟩ := hr.at_ hkl
    have hcut : cutA (some ⟨g, o, none⟩) c k = some ⟨g, o + k, none⟩ := cutA_some (by omega)
    have hr2 : Lies w B (cutA (some ⟨g, o + k, none⟩) (d1 + 1) 1) (l.drop (k + 1)) := by
      have h := (hr.cut (c := c) (by omega) k l.length (by omega) (Nat.le_refl _))
      rw [List.take_length, hcut] at h
      have h2 := h.cut (c := d1 + 1) (by rw [List.length_drop]; omega) 1 (l.drop k).length (by rw [List.length_drop]; omega) (Nat.le_refl _)
      rwa [List.take_length, List.drop_drop] at h2
    have hq : ∀ w, (Instr.slice 46 (.slice (some ⟨g, o + k, none⟩) (m1 + 1) (d1 + 1)) (some (.int .i64 1)) none none).run Try.prog w = .ok (.slice (cutA (some ⟨g, o + k, none⟩) (d1 + 1) 1) m1 d1) w :=
      fun w => run_from' w _ (m1 + 1) (d1 + 1) 1 m1 d1 (by omega) (by omega)
    rw [hdrop]
    have hl1 : (l.drop (k + 1)).length = m1 := by rw [List.length_drop]; omega
    generalize l[k] = x at hcell ⊢
    generalize l.drop (k + 1) = t at hr2 hl1 ⊢
    generalize cutA (some ⟨g, o + k, none⟩) (d1 + 1) 1 = A2 at hr2 hq
    have HM := Lib.hid hm1
    have HD := Lib.hid hd1
    have HL1 := Lib.hid hl1
    have HR2 := Lib.hid hr2
    have hf := from_at (some ⟨g, o, none⟩) n c k (m1 + 1) (d1 + 1) hm1 hd1 w
    rw [hcut] at hf
    have HF := Lib.hid hf
    have x0 := byte_lo x
    have x1 := byte_hi x
    have hm1d : m1 ≤ d1 := by omega
    have hk47 : (k : Int) ≤ 140737488355328 := by omega
    obtain ⟨s, hs⟩ : ∃ s, x.toNat = s := ⟨_, rfl⟩
    have HS := Lib.hid hs
    rw [hs] at hcell x0 x1
    clear hs
    clear hm1 hd1 hn hdrop hr hkl h0 hcut hl1 hr2 hf
    go_enter Try.func65, Try.ntmps65
    go_wp2_with fail
    refine HF.out.mono ?_
    rintro e w1 ⟨rfl, rfl⟩
    go_wp2
    go_quiet (fail)
    by_cases h8 : 8 < s
    · have HE := Lib.hid (numR_big (x := x) (t := t) (by have := HS.out; omega))
      go_wp2
      go_ret3
      rw [HE.out]
      exact GivesN.of rfl rfl rfl (below_drewN (Below.refl _ _) _)
    · by_cases hz : 0 < s ∧ t[0]? = some 0
      · obtain ⟨hs0, ht0⟩ := hz
        have htl : 0 < t.length := by
          rcases Nat.eq_zero_or_pos t.length with h | h
          · rw [List.getElem?_eq_none (by omega)] at ht0; cases ht0
          · exact h
        have hm0 : 0 < m1 := by have := HL1.out; omega
        obtain ⟨g2, o2, rfl, _, hc2⟩ := HR2.out.at_ htl
        have hy : t[0] = 0 := by rw [List.getElem?_eq_getElem htl] at ht0; injection ht0
        rw [hy] at hc2
        have hc3 : w.cell? ⟨g2, o2, none⟩ = some (.int .u8 0) := hc2
        have HE := Lib.hid (numR_zero (x := x) (t := t) (by have := HS.out; omega) ht0)
        clear hc2 ht0 hy HR2 htl
        go_wp2
        go_ret3
        rw [HE.out]
        exact GivesN.of rfl rfl rfl (below_drewN (Below.refl _ _) _)
      · by_cases hs0 : s = 0
        · subst hs0
          have HE := Lib.hid (numR_ok (x := x) (t := t) (by have := HS.out; omega) (by rw [HS.out]; exact hz) (by have := HS.out; omega))
          have hqt := fun w => run_to w A2 m1 d1 0 (by omega)
          clear hz
          go_wp2_with fail
          refine (join_any A2 0 d1 B [] rfl (by simp) _ (Lies.empty _ _ _)).mono ?_
          rintro e w2 ⟨rfl, rfl⟩
          go_wp2
          go_ret3
          rw [HE.out, HS.out]
          exact GivesN.of rfl (by show _ = nextI k (1 + 0) 0; rw [nextI_ok]; omega) rfl (below_drewN (Below.refl _ _) _)
        · have hsp : 0 < s := by omega
          by_cases hm0 : m1 = 0
          · subst hm0
            have HE := Lib.hid (numR_short (x := x) (t := t) (by have := HS.out; omega) (by rw [HS.out]; exact hz) (by have := HS.out; have := HL1.out; omega))
            clear hz
            go_wp2
            go_ret3
            rw [HE.out]
            exact GivesN.of rfl rfl rfl (below_drewN (Below.refl _ _) _)
          · have hmp : 0 < m1 := by omega
            have htl : 0 < t.length := by have := HL1.out; omega
            obtain ⟨g2, o2, rfl, hg2, hc2⟩ := HR2.out.at_ htl
            have hy : t[0].toNat ≠ 0 := by
              intro h
              refine hz ⟨hsp, ?_⟩
              rw [List.getElem?_eq_getElem htl]
              congr 1
              exact UInt8.toNat_inj.1 h
            have y0 := byte_lo t[0]
            have y1 := byte_hi t[0]
            generalize t[0].toNat = y at hc2 hy y0 y1
            have hc3 : w.cell? ⟨g2, o2, none⟩ = some (.int .u8 (y : Int)) := hc2
            have hyb : ((y : Int) == 0) = false := by rw [beq_eq_false_iff_ne]; omega
            clear hc2 hy htl
            by_cases hsh : m1 < s
            · have HE := Lib.hid (numR_short (x := x) (t := t) (by have := HS.out; omega) (by rw [HS.out]; exact hz) (by have := HS.out; have := HL1.out; omega))
              clear hz
              go_wp2
              go_ret3
              rw [HE.out]
              exact GivesN.of rfl rfl rfl (below_drewN (Below.refl _ _) _)
            · have HE := Lib.hid (numR_ok (x := x) (t := t) (by have := HS.out; omega) (by rw [HS.out]; exact hz) (by have := HS.out; have := HL1.out; omega))
              have HLT := Lib.hid (show s = (t.take s).length by have := HL1.out; rw [List.length_take]; omega)
              have hqt := fun w => run_to w (some ⟨g2, o2, none⟩) m1 d1 s (by omega)
              clear hz
              go_wp2_with fail
              refine (join_any (some ⟨g2, o2, none⟩) s d1 B (t.take s) HLT.out (by have := HLT.out; omega) _ (lies_take (HR2.out.drewN _) s)).mono ?_
              rintro e w2 ⟨rfl, rfl⟩
              go_wp2
              go_ret3
              rw [HE.out, HS.out]
              exact GivesN.of rfl (by show _ = nextI k (1 + s) 0; rw [nextI_ok]; omega) rfl (below_drewN (Below.refl _ _) _)

end Go.Proofs.Ythocmnfmialcaaa.Co

/-! Bytes, as a contract of calls. -/
namespace Go.Proofs.Ythocmnfmialcaaa.Co
open Go.RowKit By CoP

end Go.Proofs.Ythocmnfmialcaaa.Co

/-! codec.PutBytes, as a contract of calls. -/
namespace Go.Proofs.Ythocmnfmialcaaa.Co
open Go.RowKit By CoP

end Go.Proofs.Ythocmnfmialcaaa.Co
