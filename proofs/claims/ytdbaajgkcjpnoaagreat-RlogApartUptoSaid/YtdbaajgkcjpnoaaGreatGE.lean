/- The library's own contract of bits.Len64, laid at this program's numbers. | Package codec's small functions as contracts of calls. | Num and its reference's, as contracts of calls. | Bytes, as a contract of calls. | codec.PutBytes, as a contract of calls. -/
import Derived.Shelf.Strconv.Itoa0
import Derived.Test.YtdbaajgkcjpnoaaGreatProg
import Derived.Test.YtdbaajgkcjpnoaaGreatGA
/-! The library's own contract of bits.Len64, laid at this program's numbers. -/
namespace Go.Proofs.YtdbaajgkcjpnoaaGreat.Sh
open Go.Shelf
def ren : Go.Shelf.Ren := ⟨fun | 129 => 118 | n => n, fun | 53 => 22 | 3 => 3 | 4 => 4 | 46 => 84 | 5 => 5 | 9 => 9 | n => n, fun | n => n⟩
theorem lays : Go.Proofs.Lays.n129 Tryz.prog ren := {
  mixed := by kernel_rfl
  f129 := Tryz.func118.trans (congrArg some (by kernel_rfl))
  t3 := Tryz.underlying3
  a3 := Tryz.isAgg3
  z3 := Tryz.sizeOf3
  v3 := Tryz.zeroValue3
  t4 := Tryz.underlying4
  a4 := Tryz.isAgg4
  z4 := Tryz.sizeOf4
  v4 := Tryz.zeroValue4
  t5 := Tryz.underlying5
  a5 := Tryz.isAgg5
  z5 := Tryz.sizeOf5
  v5 := Tryz.zeroValue5
  t9 := Tryz.underlying9
  a9 := Tryz.isAgg9
  z9 := Tryz.sizeOf9
  v9 := Tryz.zeroValue9
  t46 := Tryz.underlying84
  a46 := Tryz.isAgg84
  z46 := Tryz.sizeOf84
  v46 := Tryz.zeroValue84
  t53 := Tryz.underlying22
  a53 := Tryz.isAgg22
  z53 := Tryz.sizeOf22
  v53 := Tryz.zeroValue22 }
theorem len64 (x : Int) (w : World) (h0 : 0 ≤ x) (h1 : x ≤ 18446744073709551615) :
    Calls Tryz.prog 118 #[.int .u64 x] w fun e w' => e = .returned (.int .i64 (Lib.bitLen x.toNat)) ∧ w' = w := Any.bits_Len64 lays x w h0 h1
end Go.Proofs.YtdbaajgkcjpnoaaGreat.Sh

/-! Package codec's small functions as contracts of calls. -/
namespace Go.Proofs.YtdbaajgkcjpnoaaGreat.Co
open Go.RowKit By CoP

theorem shl_or (v c : Nat) (hv : v * 256 + 255 < 18446744073709551616) (hc : c < 256) : bits .or .u64 ((v : Int) * 256) (c : Int) = ((v * 256 + c : Nat) : Int) := by
  have h1 : v * 256 < 18446744073709551616 := Nat.lt_of_le_of_lt (Nat.le_add_right _ _) hv
  have h2 : c < 18446744073709551616 := by omega
  have e : (v : Int) * 256 = ((v * 256 : Nat) : Int) := by omega
  have h3 := u64_or_nat (v * 256) c h1 h2
  have h4 : v * 256 + c = v * 256 ||| c := by
    have := Nat.two_pow_add_eq_or_of_lt (i := 8) (b := c) (by simpa using hc) v
    rw [show (2 : Nat) ^ 8 = 256 from rfl, Nat.mul_comm] at this
    exact this
  rw [e, h3, h4]
set_option maxHeartbeats 400000 in
theorem join_any (A : Option Addr) (n c B : Nat) (l : List UInt8) (hn : n = l.length) (h8 : l.length ≤ 8) (w : World) (hr : Lies w B A l) : Calls Tryz.prog 110 #[.slice A n c] w (Ret (.int .u64 (val l : Nat)) w) := by
  have HN := Lib.hid hn
  have h8' : n ≤ 8 := by omega
  clear hn h8
  go_enter Tryz.func110, Tryz.ntmps110
  go_wp2
  go_loop [3, 8] (fun y i => ∃ (k : Nat), k ≤ n ∧ i = .int .i64 k ∧ y = .int .u64 (val (l.take k) : Nat)) (fun _ i => n - (intOf i).toNat)
  case atStart => exact ⟨0, by omega, rfl, rfl⟩
  case round =>
    obtain ⟨k, hk, rfl, rfl⟩ := hrel
    have hn := HN.out
    have hv := val_lt (l.take k)
    by_cases hkn : k < n
    · have hkl : k < l.length := by omega
      have hlen : (l.take k).length = k := by rw [List.length_take]; omega
      obtain ⟨g, o, rfl, hg, hc⟩ := hr.at_ hkl
      have hs := val_take hkl
      obtain ⟨x, hx⟩ : ∃ x, l[k].toNat = x := ⟨_, rfl⟩
      have hx255 : x < 256 := by rw [← hx]; exact l[k].toNat_lt
      rw [hx] at hs hc
      clear hx
      obtain ⟨v, hv2⟩ : ∃ v, val (l.take k) = v := ⟨_, rfl⟩
      rw [hv2, hlen] at hv
      rw [hv2] at hs ⊢
      have hvb : v * 256 + 255 < 18446744073709551616 := by
        have h7 : 256 ^ k ≤ 256 ^ 7 := Nat.pow_le_pow_right (by omega) (by omega)
        have h72 : (256 : Nat) ^ 7 = 72057594037927936 := by decide
        omega
      have HS := Lib.hid (show bits .or .u64 ((v : Int) * 256) (x : Int) = ((val (l.take (k + 1)) : Nat) : Int) by rw [shl_or v x hvb hx255, hs])
      have x0 : (0 : Int) ≤ (x : Int) := by omega
      have x1 : (x : Int) ≤ 255 := by omega
      have v0 : (0 : Int) ≤ (v : Int) := by omega
      have v1 : (v : Int) * 256 ≤ 18446744073709551615 := by omega
      clear hs hv hv2 hlen hn hvb hx255 hr hkl
      go_wp2
      go_round
      case rel => exact ⟨k + 1, by omega, by go_num, by rw [HS.out]⟩
      case measure => simp [intOf]; omega
    · obtain rfl : k = n := by omega
      have e : l.take k = l := List.take_of_length_le (by omega)
      rw [e]
      clear hn hv hr e
      go_wp2
      go_ret
      exact Ret.int _ rfl

theorem nilTest (w : World) (a : Option Addr) (n c n' c' : Nat) : (binOp .eql 37 (.slice a n c) (.slice none n' c')).run Tryz.prog w = .ok (.bool a.isNone) w :=
  Lib.run_eql_slice_nil w _ _ a n c n' c' Tryz.underlying37
set_option maxHeartbeats 400000 in
theorem clone_any (A : Option Addr) (n c B : Nat) (l : List UInt8) (hn : n = l.length) (w : World) (hr : Lies w B A l) (hB : B ≤ w.heap.size) (hs : l.length ≤ 140737488355328) :
    Calls Tryz.prog 108 #[.slice A n c] w (Gives w.heap.size l w) := by
  have q22 := nilTest
  have HN := Lib.hid hn
  clear hn
  have hn0 : A = none → l = [] := fun e => by
    rcases Nat.eq_zero_or_pos l.length with h0 | h0
    · exact List.length_eq_zero_iff.1 h0
    · obtain ⟨g, o, e2, _⟩ := hr h0
      rw [e] at e2; cases e2
  rcases A with _ | ad
  · have hl := hn0 rfl
    clear hn0
    subst hl
    go_enter Tryz.func108, Tryz.ntmps108
    go_wp2
    go_ret
    exact ⟨_, rfl, Own.nil _ _, Below.refl _ _⟩
  · clear hn0
    go_enter Tryz.func108, Tryz.ntmps108
    go_wp2_with (at_builtin; refine wpList_app rfl (.tmp 5) (.tmp 6) rfl rfl (Own.made w w.heap.size #[] 0 (Nat.le_refl _) (by decide) rfl) rfl HN.out (hr.alloc hB _) (by simp; omega) (by simp) ?_; intro v' w1 hown hb1 hg1)
    go_ret
    exact ⟨_, rfl, by simpa using hown, ((Below.refl _ _).alloc (Nat.le_refl _) _).trans hb1⟩
set_option maxHeartbeats 400000 in
theorem from_ok (A : Option Addr) (n c k : Nat) (w : World) (hk : k ≤ n) :
    Calls Tryz.prog 109 #[.slice A n c, .int .i64 (k : Int)] w (Ret (.tuple #[.slice (cutA A c k) (n - k) (c - k), .int .i64 0]) w) := by
  have q := fun w => run_from w A n c k hk
  have h0 : ¬ ((k : Int) < 0) := by omega
  have h1 : ¬ ((n : Int) < (k : Int)) := by omega
  go_enter Tryz.func109, Tryz.ntmps109
  go_wp2
  go_ret2
  exact ⟨rfl, rfl⟩
set_option maxHeartbeats 400000 in
theorem from_out (A : Option Addr) (n c : Nat) (k : Int) (w : World) (hk : k < 0 ∨ (n : Int) < k) :
    Calls Tryz.prog 109 #[.slice A n c, .int .i64 k] w (Ret (.tuple #[.slice none 0 0, .int .i64 1]) w) := by
  rcases Int.lt_or_le k 0 with h0 | h0
  · clear hk
    go_enter Tryz.func109, Tryz.ntmps109
    go_wp2
    go_ret2
    exact ⟨rfl, rfl⟩
  · have h1 : (n : Int) < k := by omega
    have h2 : ¬ (k < 0) := by omega
    clear hk
    go_enter Tryz.func109, Tryz.ntmps109
    go_wp2
    go_ret2
    exact ⟨rfl, rfl⟩

theorem shift_byte (n j : Nat) : (n : Int) / 2 ^ (8 * j) % 256 = ((UInt8.ofNat (n / 256 ^ j)).toNat : Int) := by
  have e1 : (2 : Int) ^ (8 * j) = ((256 ^ j : Nat) : Int) := by
    rw [Int.pow_mul]
    simp
  rw [ofNat_mod, e1]
  omega
set_option maxHeartbeats 400000 in
theorem split_any {base : Nat} (v : Value) (l : List UInt8) (n size : Nat) (N m : Int) (hN : N = n) (hm : m = size) (h8 : size ≤ 8) (hn : n < 18446744073709551616) (w : World) (hown : Own base w v l) (hb : base ≤ w.heap.size) (hs : l.length + 8 ≤ 140737488355328) :
    Calls Tryz.prog 119 #[v, .int .u64 N, .int .i64 m] w (Gives base (l ++ be size n) w) := by
  subst hN hm
  have n0 : (0 : Int) ≤ (n : Int) := by omega
  have n1 : (n : Int) ≤ 18446744073709551615 := by omega
  have HL := Lib.hid hs
  clear hn hs
  go_enter Tryz.func119, Tryz.ntmps119
  go_wp2
  go_loopw [0, 9] (fun b i wr => ∃ (k : Nat), k ≤ size ∧ i = .int .i64 k ∧ Own base wr b (l ++ (be size n).take k) ∧ Below base w wr ∧ base ≤ wr.heap.size) (fun _ i _ => size - (intOf i).toNat)
  case atStart => exact ⟨0, by omega, rfl, by simpa using hown, Below.refl _ _, hb⟩
  case round =>
    obtain ⟨k, hk, rfl, ho, hbw, hbs⟩ := hrel
    by_cases hks : k < size
    · have hlen : (l ++ (be size n).take k).length = l.length + k := by rw [List.length_append, List.length_take, be_length]; omega
      have HLEN := Lib.hid hlen
      clear hlen
      go_wp2_with (at_builtin; refine wpList_app rfl (.tmp 12) (.tmp 21) rfl rfl (ho.alloc _) rfl rfl (Lies.one _ _ (UInt8.ofNat (n / 256 ^ (size - 1 - k))) ?cx) ?cs ?cb ?_)
      case cx => exact shift_byte n (size - 1 - k)
      case cs =>
        have h1 := HLEN.out
        have h2 := HL.out
        rw [h1, List.length_singleton]
        omega
      case cb => rw [World.size_alloc]; omega
      intro v' w1 hown1 hb1 hg1
      have hown2 : Own base w1 v' (l ++ (be size n).take (k + 1)) := by rw [be_take_succ hks]; simpa using hown1
      have hbw1 : Below base w w1 := (hbw.alloc hbs _).trans hb1
      have hbs1 : base ≤ w1.heap.size := by have := hbw1.size; omega
      clear hb1 hg1 ho hbw hown1
      go_wp2
      go_roundw
      case rel => exact ⟨k + 1, by omega, by go_num, hown2, hbw1, hbs1⟩
      case measure => simp [intOf]; omega
    · obtain rfl : k = size := by omega
      rw [List.take_of_length_le (by rw [be_length]; exact Nat.le_refl _)] at ho
      go_wp2
      go_ret
      exact ⟨_, rfl, ho, hbw⟩

theorem len64_any (x : Nat) (hx : x < 18446744073709551616) (w : World) : Calls Tryz.prog 118 #[.int .u64 (x : Int)] w (Ret (.int .i64 (Lib.bitLen x : Nat)) w) :=
  (Sh.len64 (x : Int) w (by omega) (by omega)).mono fun _ _ h => ⟨h.1, h.2.symm⟩
set_option maxHeartbeats 400000 in
theorem appendNum_any {base : Nat} (v : Value) (l : List UInt8) (n : Nat) (N : Int) (hN : N = n) (hn : n < 18446744073709551616) (w : World) (hown : Own base w v l) (hb : base ≤ w.heap.size) (hs : l.length + 9 ≤ 140737488355328) :
    Calls Tryz.prog 107 #[v, .int .u64 N] w (Gives base (l ++ putNum n) w) := by
  subst hN
  have hq := nb_bits n hn
  have hq64 := Lib.bitLen_le n 64 (by omega) (by simpa using hn)
  have HN := Lib.hid hn
  have HL := Lib.hid hs
  have hc := len64_any n hn w
  generalize Lib.bitLen n = q at hq hq64 hc
  have HQ := Lib.hid hq
  have HC := Lib.hid hc
  clear hq hn hs hc
  have q0 : (0 : Int) ≤ (q : Int) := by omega
  have q1 : (q : Int) ≤ 64 := by omega
  go_enter Tryz.func107, Tryz.ntmps107
  go_wp2_with fail
  refine HC.out.mono ?_
  rintro e w' ⟨rfl, rfl⟩
  clear HC
  go_wp2_with (at_builtin; refine wpList_app rfl (.tmp 10) (.tmp 13) rfl rfl (hown.alloc _) rfl rfl (Lies.one _ _ (UInt8.ofNat (nb n)) ?cx) ?cs ?cb ?_)
  case cx =>
    have := HQ.out
    rw [ofNat_mod]
    omega
  case cs => have := HL.out; rw [List.length_singleton]; omega
  case cb => rw [World.size_alloc]; omega
  intro v' w1 hown1 hb1 hg1
  have hbw1 : Below base w w1 := ((Below.refl base w).alloc hb _).trans hb1
  clear hb1 hg1
  go_wp2_with fail
  refine (split_any v' _ n (nb n) _ _ rfl (by have := HQ.out; omega) (by have := HQ.out; omega) HN.out w1 hown1 (by have := hbw1.size; omega) (by have := HL.out; rw [List.length_append, List.length_singleton]; omega)).mono ?_
  rintro e w2 ⟨v2, rfl, ho2, hb2⟩
  go_wp2
  go_ret
  exact ⟨_, rfl, by rw [List.append_assoc] at ho2; exact ho2, hbw1.trans hb2⟩
set_option maxHeartbeats 400000 in
theorem putNum_any (A : Option Addr) (m c B : Nat) (l : List UInt8) (n : Nat) (N : Int) (hN : N = n) (hn : n < 18446744073709551616) (hm : m = l.length) (w : World) (hr : Lies w B A l) (hB : B ≤ w.heap.size) (hs : l.length + 9 ≤ 140737488355328) :
    Calls Tryz.prog 81 #[.slice A m c, .int .u64 N] w (Gives w.heap.size (l ++ putNum n) w) := by
  subst hN
  have HN := Lib.hid hn
  have HM := Lib.hid hm
  have HL := Lib.hid hs
  clear hn hm hs
  go_enter Tryz.func81, Tryz.ntmps81
  go_wp2_with fail
  refine (clone_any A m c B l HM.out w hr hB (by have := HL.out; omega)).mono ?_
  rintro e w1 ⟨v1, rfl, ho1, hb1⟩
  go_wp2_with fail
  refine (appendNum_any v1 l n _ rfl HN.out w1 ho1 hb1.size HL.out).mono ?_
  rintro e w2 ⟨v2, rfl, ho2, hb2⟩
  go_wp2
  go_ret
  exact ⟨_, rfl, ho2, hb1.trans hb2⟩
end Go.Proofs.YtdbaajgkcjpnoaaGreat.Co

/-! Num and its reference's, as contracts of calls. -/
namespace Go.Proofs.YtdbaajgkcjpnoaaGreat.Co
open Go.RowKit By CoP

set_option maxHeartbeats 400000 in
theorem from_at (A : Option Addr) (n c k m d : Nat) (hm : n = k + m) (hd : c = k + d) (w : World) :
    Calls Tryz.prog 109 #[.slice A n c, .int .i64 (k : Int)] w (Ret (.tuple #[.slice (cutA A c k) m d, .int .i64 0]) w) := by
  subst hm hd
  have := from_ok A (k + m) (k + d) k w (by omega)
  rwa [show k + m - k = m by omega, show k + d - k = d by omega] at this

set_option maxHeartbeats 400000 in
theorem num_out (A : Option Addr) (n c : Nat) (k : Int) (w : World) (hk : k < 0 ∨ (n : Int) < k) :
    Calls Tryz.prog 83 #[.slice A n c, .int .i64 k] w (GivesN 0 0 1 w) := by
  have HK := Lib.hid hk
  clear hk
  go_enter Tryz.func83, Tryz.ntmps83
  go_wp2_with fail
  refine (from_out A n c k w HK.out).mono ?_
  rintro e w1 ⟨rfl, rfl⟩
  go_wp2
  go_ret3
  exact GivesN.of rfl rfl rfl (Below.refl _ _)
set_option maxHeartbeats 800000 in
theorem num_in (A : Option Addr) (n c k B : Nat) (l : List UInt8) (hn : n = l.length) (hc : n ≤ c) (hk : k ≤ n) (hm : n ≤ 140737488355328) (w : World) (hr : Lies w B A l) :
    Calls Tryz.prog 83 #[.slice A n c, .int .i64 (k : Int)] w (GivesN (numR (l.drop k)).1 (nextI k (numR (l.drop k)).2.1 (numR (l.drop k)).2.2) (numR (l.drop k)).2.2 w) := by
  obtain ⟨m, hm1⟩ : ∃ m, n = k + m := ⟨n - k, by omega⟩
  obtain ⟨d, hd1⟩ : ∃ d, c = k + d := ⟨c - k, by omega⟩
  by_cases h0 : m = 0
  · have hdrop : l.drop k = [] := List.drop_eq_nil_of_le (by omega)
    rw [hdrop]
    subst h0
    have HM := Lib.hid hm1
    have HD := Lib.hid hd1
    clear hm1 hd1 hn hdrop hr
    go_enter Tryz.func83, Tryz.ntmps83
    go_wp2_with fail
    refine (from_at A n c k 0 d HM.out HD.out w).mono ?_
    rintro e w1 ⟨rfl, rfl⟩
    go_wp2
    go_ret3
    exact GivesN.of rfl rfl rfl (Below.refl _ _)
  · obtain ⟨m1, rfl⟩ : ∃ m1, m = m1 + 1 := ⟨m - 1, by omega⟩
    obtain ⟨d1, rfl⟩ : ∃ d1, d = d1 + 1 := ⟨d - 1, by omega⟩
    have hkl : k < l.length := by omega
    have hdrop : l.drop k = l[k] :: l.drop (k + 1) := List.drop_eq_getElem_cons hkl
    obtain ⟨g, o, rfl, hg, hcell⟩ := hr.at_ hkl
    have hcut : cutA (some ⟨g, o, none⟩) c k = some ⟨g, o + k, none⟩ := cutA_some (by omega)
    have hr2 : Lies w B (cutA (some ⟨g, o + k, none⟩) (d1 + 1) 1) (l.drop (k + 1)) := by
      have h := (hr.cut (c := c) (by omega) k l.length (by omega) (Nat.le_refl _))
      rw [List.take_length, hcut] at h
      have h2 := h.cut (c := d1 + 1) (by rw [List.length_drop]; omega) 1 (l.drop k).length (by rw [List.length_drop]; omega) (Nat.le_refl _)
      rwa [List.take_length, List.drop_drop] at h2
    have hq : ∀ w, (Instr.slice 37 (.slice (some ⟨g, o + k, none⟩) (m1 + 1) (d1 + 1)) (some (.int .i64 1)) none none).run Tryz.prog w = .ok (.slice (cutA (some ⟨g, o + k, none⟩) (d1 + 1) 1) m1 d1) w :=
      fun w => run_from' w _ (m1 + 1) (d1 + 1) 1 m1 d1 (by omega) (by omega)
    rw [hdrop]
    have hl1 : (l.drop (k + 1)).length = m1 := by rw [List.length_drop]; omega
    generalize l[k] = x at hcell ⊢
    generalize l.drop (k + 1) = t at hr2 hl1 ⊢
    generalize cutA (some ⟨g, o + k, none⟩) (d1 + 1) 1 = A2 at hr2 hq
    have HM := Lib.hid hm1
    have HD := Lib.hid hd1
    have HL1 := Lib.hid hl1
    have HR2 := Lib.hid hr2
    have hf := from_at (some ⟨g, o, none⟩) n c k (m1 + 1) (d1 + 1) hm1 hd1 w
    rw [hcut] at hf
    have HF := Lib.hid hf
    have x0 := byte_lo x
    have x1 := byte_hi x
    have hm1d : m1 ≤ d1 := by omega
    have hk47 : (k : Int) ≤ 140737488355328 := by omega
    obtain ⟨s, hs⟩ : ∃ s, x.toNat = s := ⟨_, rfl⟩
    have HS := Lib.hid hs
    rw [hs] at hcell x0 x1
    clear hs
    clear hm1 hd1 hn hdrop hr hkl h0 hcut hl1 hr2 hf
    go_enter Tryz.func83, Tryz.ntmps83
    go_wp2_with fail
    refine HF.out.mono ?_
    rintro e w1 ⟨rfl, rfl⟩
    go_wp2
    go_quiet (fail)
    by_cases h8 : 8 < s
    · have HE := Lib.hid (numR_big (x := x) (t := t) (by have := HS.out; omega))
      go_wp2
      go_ret3
      rw [HE.out]
      exact GivesN.of rfl rfl rfl (below_drewN (Below.refl _ _) _)
    · by_cases hz : 0 < s ∧ t[0]? = some 0
      · obtain ⟨hs0, ht0⟩ := hz
        have htl : 0 < t.length := by
          rcases Nat.eq_zero_or_pos t.length with h | h
          · rw [List.getElem?_eq_none (by omega)] at ht0; cases ht0
          · exact h
        have hm0 : 0 < m1 := by have := HL1.out; omega
        obtain ⟨g2, o2, rfl, _, hc2⟩ := HR2.out.at_ htl
        have hy : t[0] = 0 := by rw [List.getElem?_eq_getElem htl] at ht0; injection ht0
        rw [hy] at hc2
        have hc3 : w.cell? ⟨g2, o2, none⟩ = some (.int .u8 0) := hc2
        have HE := Lib.hid (numR_zero (x := x) (t := t) (by have := HS.out; omega) ht0)
        clear hc2 ht0 hy HR2 htl
        go_wp2
        go_ret3
        rw [HE.out]
        exact GivesN.of rfl rfl rfl (below_drewN (Below.refl _ _) _)
      · by_cases hs0 : s = 0
        · subst hs0
          have HE := Lib.hid (numR_ok (x := x) (t := t) (by have := HS.out; omega) (by rw [HS.out]; exact hz) (by have := HS.out; omega))
          have hqt := fun w => run_to w A2 m1 d1 0 (by omega)
          clear hz
          go_wp2_with fail
          refine (join_any A2 0 d1 B [] rfl (by simp) _ (Lies.empty _ _ _)).mono ?_
          rintro e w2 ⟨rfl, rfl⟩
          go_wp2
          go_ret3
          rw [HE.out, HS.out]
          exact GivesN.of rfl (by show _ = nextI k (1 + 0) 0; rw [nextI_ok]; omega) rfl (below_drewN (Below.refl _ _) _)
        · have hsp : 0 < s := by omega
          by_cases hm0 : m1 = 0
          · subst hm0
            have HE := Lib.hid (numR_short (x := x) (t := t) (by have := HS.out; omega) (by rw [HS.out]; exact hz) (by have := HS.out; have := HL1.out; omega))
            clear hz
            go_wp2
            go_ret3
            rw [HE.out]
            exact GivesN.of rfl rfl rfl (below_drewN (Below.refl _ _) _)
          · have hmp : 0 < m1 := by omega
            have htl : 0 < t.length := by have := HL1.out; omega
            obtain ⟨g2, o2, rfl, hg2, hc2⟩ := HR2.out.at_ htl
            have hy : t[0].toNat ≠ 0 := by
              intro h
              refine hz ⟨hsp, ?_⟩
              rw [List.getElem?_eq_getElem htl]
              congr 1
              exact UInt8.toNat_inj.1 h
            have y0 := byte_lo t[0]
            have y1 := byte_hi t[0]
            generalize t[0].toNat = y at hc2 hy y0 y1
            have hc3 : w.cell? ⟨g2, o2, none⟩ = some (.int .u8 (y : Int)) := hc2
            have hyb : ((y : Int) == 0) = false := by rw [beq_eq_false_iff_ne]; omega
            clear hc2 hy htl
            by_cases hsh : m1 < s
            · have HE := Lib.hid (numR_short (x := x) (t := t) (by have := HS.out; omega) (by rw [HS.out]; exact hz) (by have := HS.out; have := HL1.out; omega))
              clear hz
              go_wp2
              go_ret3
              rw [HE.out]
              exact GivesN.of rfl rfl rfl (below_drewN (Below.refl _ _) _)
            · have HE := Lib.hid (numR_ok (x := x) (t := t) (by have := HS.out; omega) (by rw [HS.out]; exact hz) (by have := HS.out; have := HL1.out; omega))
              have HLT := Lib.hid (show s = (t.take s).length by have := HL1.out; rw [List.length_take]; omega)
              have hqt := fun w => run_to w (some ⟨g2, o2, none⟩) m1 d1 s (by omega)
              clear hz
              go_wp2_with fail
              refine (join_any (some ⟨g2, o2, none⟩) s d1 B (t.take s) HLT.out (by have := HLT.out; omega) _ (lies_take (HR2.out.drewN _) s)).mono ?_
              rintro e w2 ⟨rfl, rfl⟩
              go_wp2
              go_ret3
              rw [HE.out, HS.out]
              exact GivesN.of rfl (by show _ = nextI k (1 + s) 0; rw [nextI_ok]; omega) rfl (below_drewN (Below.refl _ _) _)

end Go.Proofs.YtdbaajgkcjpnoaaGreat.Co

/-! Bytes, as a contract of calls. -/
namespace Go.Proofs.YtdbaajgkcjpnoaaGreat.Co
open Go.RowKit By CoP

set_option maxHeartbeats 400000 in
theorem bytes_out (A : Option Addr) (n c : Nat) (k : Int) (w : World) (hk : k < 0 ∨ (n : Int) < k) :
    Calls Tryz.prog 103 #[.slice A n c, .int .i64 k] w (Gives3 w.heap.size [] 0 1 w) := by
  have HK := Lib.hid hk
  clear hk
  go_enter Tryz.func103, Tryz.ntmps103
  go_wp2_with fail
  refine (num_out A n c k w HK.out).mono ?_
  rintro e w1 ⟨rfl, hb⟩
  go_wp2
  go_ret3
  exact Gives3.of rfl rfl (Own.nil _ _) hb
set_option maxHeartbeats 800000 in
theorem bytes_in (A : Option Addr) (n c k B : Nat) (l : List UInt8) (hn : n = l.length) (hc : n ≤ c) (hk : k ≤ n) (hm : n ≤ 140737488355328) (w : World) (hr : Lies w B A l) (hB : B ≤ w.heap.size) :
    Calls Tryz.prog 103 #[.slice A n c, .int .i64 (k : Int)] w (Gives3 w.heap.size (bytesR (l.drop k)).1 (nextI k (bytesR (l.drop k)).2.1 (bytesR (l.drop k)).2.2) (bytesR (l.drop k)).2.2 w) := by
  have hnum := num_in A n c k B l hn hc hk hm w hr
  have hfac := numR_facts (l.drop k)
  have hbr : bytesR (l.drop k) = bytesR (l.drop k) := rfl
  conv at hbr => rhs; unfold bytesR
  have hdl : (l.drop k).length = n - k := by rw [List.length_drop]; omega
  rw [hdl] at hbr hfac
  generalize numR (l.drop k) = N at hnum hfac hbr
  obtain ⟨v, used, er⟩ := N
  have hnum2 : Calls Tryz.prog 83 #[.slice A n c, .int .i64 (k : Int)] w (GivesN v (nextI k used er) (er : Int) w) := hnum
  simp only at hbr hfac
  have HNUM := Lib.hid hnum2
  have HBR := Lib.hid hbr
  have HN := Lib.hid hn
  have HR := Lib.hid hr
  clear hnum hnum2 hbr hn hr hdl
  by_cases he : er = 0
  · subst he
    obtain ⟨hu, hv⟩ := hfac rfl
    obtain ⟨st, hst⟩ : ∃ st, k + used = st := ⟨_, rfl⟩
    have hst2 : nextI k used 0 = (st : Int) := by rw [nextI_ok]; omega
    obtain ⟨m, hm1⟩ : ∃ m, n = st + m := ⟨n - st, by omega⟩
    obtain ⟨d, hd1⟩ : ∃ d, c = st + d := ⟨c - st, by omega⟩
    have hq := fun w => run_from' w A n c st m d hm1 hd1
    have hmd : m ≤ d := by omega
    have hst47 : (st : Int) ≤ 140737488355328 := by omega
    have hm47 : (m : Int) ≤ 140737488355328 := by omega
    have HV := Lib.hid hv
    have HST := Lib.hid hst
    have HM1 := Lib.hid hm1
    have HD1 := Lib.hid hd1
    have HST2 := Lib.hid hst2
    clear hv hu hst hm1 hd1 hst2 hfac
    go_enter Tryz.func103, Tryz.ntmps103
    go_wp2_with fail
    refine HNUM.out.mono ?_
    rw [HST2.out]
    rintro e w1 ⟨rfl, hb⟩
    have HB := Lib.hid hb
    clear hb
    by_cases hgt : m < v
    · have hgi : (m : Int) < (v : Int) := by omega
      go_wp2
      go_ret3
      rw [HBR.out, if_neg (by simp), if_pos (by have := HM1.out; have := HST.out; omega)]
      exact Gives3.of rfl rfl (Own.nil _ _) HB.out
    · have hgi : ¬ ((m : Int) < (v : Int)) := by omega
      have hqt := fun w => run_to w (cutA A c st) m d v (by omega)
      have hvi : (v : Int) ≤ 140737488355328 := by omega
      have hlies : Lies w B (cutA A c st) (((l.drop k).drop used).take v) := by
        have h := HR.out.cut (c := c) (by have := HN.out; omega) st l.length (by have := HN.out; have := HM1.out; omega) (Nat.le_refl _)
        rw [List.take_length, ← HST.out, ← List.drop_drop] at h
        have := lies_take h v
        rwa [HST.out] at this
      have hlen : v = (((l.drop k).drop used).take v).length := by
        rw [List.length_take, List.length_drop, List.length_drop]
        have := HN.out; have := HM1.out; have := HST.out; omega
      have HLI := Lib.hid hlies
      have HLE := Lib.hid hlen
      clear hlies hlen
      go_wp2_with fail
      refine (clone_any (cutA A c st) v d B (((l.drop k).drop used).take v) HLE.out w1 (HLI.out.below (HB.out.mono hB)) (Nat.le_trans hB HB.out.size) (by have := HLE.out; omega)).mono ?_
      rintro e w2 ⟨v2, rfl, ho2, hb2⟩
      have HO2 := Lib.hid ho2
      have HB2 := Lib.hid hb2
      clear ho2 hb2 HLI HLE
      go_wp2
      go_ret3
      rw [HBR.out, if_neg (by simp), if_neg (by have := HM1.out; have := HST.out; omega)]
      exact Gives3.of (by show _ = nextI k (used + v) 0; rw [nextI_ok]; have := HST.out; omega) rfl (HO2.out.more HB.out.size) (HB.out.trans (HB2.out.mono HB.out.size))
  · have heb : ((er : Int) != 0) = true := by rw [bne_iff_ne]; omega
    have HE := Lib.hid he
    clear he hfac
    go_enter Tryz.func103, Tryz.ntmps103
    go_wp2_with fail
    refine HNUM.out.mono ?_
    rintro e w1 ⟨rfl, hb⟩
    have HB := Lib.hid hb
    clear hb
    go_wp2
    go_ret3
    rw [HBR.out, if_pos (by exact HE.out)]
    exact Gives3.of (by show _ = nextI k 0 er; unfold nextI; rw [if_neg HE.out]) rfl (Own.nil _ _) HB.out
end Go.Proofs.YtdbaajgkcjpnoaaGreat.Co

/-! codec.PutBytes, as a contract of calls. -/
namespace Go.Proofs.YtdbaajgkcjpnoaaGreat.Co
open Go.RowKit By CoP

set_option maxHeartbeats 400000 in
theorem putBytes_any (A A2 : Option Addr) (m c n c2 B : Nat) (l : List UInt8) (ls : List (List UInt8)) (hm : m = l.length) (hn : n = ls.length) (w : World) (hr : Lies w B A l) (hr2 : LiesL w B A2 ls) (hB : B ≤ w.heap.size)
    (hs : l.length + (putLists ls).length + 9 ≤ 140737488355328) (hnn : n ≤ 140737488355328) :
    Calls Tryz.prog 101 #[.slice A m c, .slice A2 n c2] w (Gives w.heap.size (l ++ putLists ls) w) := by
  have HM := Lib.hid hm
  have HN := Lib.hid hn
  have HL := Lib.hid hs
  clear hm hs hn
  go_enter Tryz.func101, Tryz.ntmps101
  go_wp2_with fail
  refine (clone_any A m c B l HM.out w hr hB (by have := HL.out; omega)).mono ?_
  rintro e w1 ⟨v1, rfl, ho1, hb1⟩
  have HO1 := Lib.hid ho1
  have HB1 := Lib.hid hb1
  have HR2 := Lib.hid hr2
  clear ho1 hb1 hr hr2
  go_wp2
  go_loopw [5, 12] (fun v i wr => ∃ (k : Nat), k ≤ n ∧ i = .int .i64 k ∧ Own w.heap.size wr v (l ++ putLists (ls.take k)) ∧ Below w.heap.size w wr) (fun _ i _ => n - (intOf i).toNat)
  case atStart => exact ⟨0, Nat.zero_le _, rfl, by simpa [putLists] using HO1.out, HB1.out⟩
  case round =>
    obtain ⟨k, hk, rfl, ho, hbw⟩ := hrel
    have HO := Lib.hid ho
    have HB := Lib.hid hbw
    by_cases hkn : k < n
    · have hkl : k < ls.length := by have := HN.out; omega
      obtain ⟨g, o, Aj, cj, rfl, hg, hc, hrj⟩ := (HR2.out.below (hbw.mono hB)).at_ hkl
      have HS := Lib.hid (show l ++ putLists (ls.take (k + 1)) = (l ++ putLists (ls.take k)) ++ putNum (ls[k]).length ++ ls[k] by
        rw [List.take_succ_eq_append_getElem hkl]
        simp only [putLists, List.flatMap_append, List.flatMap_cons, List.flatMap_nil, List.append_nil, putBytes, List.append_assoc])
      have HLk := Lib.hid (putLists_take ls k)
      have HLl := Lib.hid (putLists_take ls (k + 1))
      generalize ls[k] = lk at hc hrj HS
      have hlen := congrArg List.length HS.out
      rw [List.length_append, List.length_append, List.length_append, List.length_append, putNum_length] at hlen
      have hz := hbw.size
      have hlk : lk.length ≤ 140737488355328 := by have := HLl.out; have := HL.out; omega
      obtain ⟨q, hq⟩ : ∃ q, lk.length = q := ⟨_, rfl⟩
      rw [hq] at hc hlk
      have HQ := Lib.hid hq
      have HLEN := Lib.hid hlen
      have HRJ := Lib.hid hrj
      clear hq hlen ho hbw hrj hkl
      go_wp2_with fail
      refine (appendNum_any _ _ q _ rfl (by omega) _ HO.out hz (by have h1 := HL.out; have h2 := HLk.out; rw [List.length_append]; omega)).mono ?_
      rintro e w2 ⟨v2, rfl, ho2, hb2⟩
      have hr2 := (HRJ.out.below (hb2.mono hB))
      have hz2 := hb2.size
      have HB2 := Lib.hid (HB.out.trans hb2)
      clear hb2
      go_wp2_with (at_builtin; refine wpList_app rfl (.tmp 20) (.tmp 21) rfl rfl ho2 rfl HQ.out.symm hr2 ?cs ?cb ?_)
      case cs =>
        have h1 := HLEN.out
        have h2 := HL.out
        have h3 := HLl.out
        have h4 := HQ.out
        rw [List.length_append, List.length_append, putNum_length, ← h4]
        omega
      case cb => omega
      intro v3 w3 ho3 hb3 _
      have ho4 : Own w.heap.size w3 v3 (l ++ putLists (ls.take (k + 1))) := by
        rw [HS.out, HQ.out]
        simpa using ho3
      have HO4 := Lib.hid ho4
      have HB4 := Lib.hid (HB2.out.trans hb3)
      clear ho3 ho4 hb3 ho2 hr2 HB2 HRJ HLEN HQ HS
      go_wp2
      go_roundw
      case rel => exact ⟨k + 1, by omega, by go_num, HO4.out, HB4.out⟩
      case measure => simp [intOf]; omega
    · obtain rfl : k = n := by omega
      have hl : ls.take k = ls := List.take_of_length_le (by have := HN.out; omega)
      rw [hl] at ho
      clear hl hbw
      go_wp2
      go_ret
      exact ⟨_, rfl, ho, HB.out⟩
end Go.Proofs.YtdbaajgkcjpnoaaGreat.Co
