/- Total of many, as contracts of calls: package sum's and its reference's. -/
import Derived.Test.YtbblieengdlidaaSumW
namespace Go.Proofs.Ytbblieengdlidaa.SumW
open Go.RowKit SumP

/-- The sum of a list, one after the other, from a number on; nought, if one of them is too large. -/
def totV (acc : Int) : List Int → Int
  | [] => acc
  | z :: r => if fits (acc + z) then totV (acc + z) r else 0
def totE (acc : Int) : List Int → Int
  | [] => 0
  | z :: r => if fits (acc + z) then totE (acc + z) r else 3
/-- What is left of a list goes on from a number as the whole did from nought. -/
def Onward (zs : List Int) (n : Int) (k : Nat) : Prop := totV n (zs.drop k) = totV 0 zs ∧ totE n (zs.drop k) = totE 0 zs
theorem Onward.start (zs : List Int) : Onward zs 0 0 := ⟨rfl, rfl⟩
theorem drop_next {zs : List Int} {k : Nat} (h : k < zs.length) : zs.drop k = zs.getD k 0 :: zs.drop (k + 1) := by
  rw [List.drop_eq_getElem_cons h]
  simp [List.getD, h]
theorem Onward.next {zs : List Int} {n z : Int} {k : Nat} (h : Onward zs n k) (hk : k < zs.length) (hz : zs.getD k 0 = z) (hf : fits (n + z)) : Onward zs (n + z) (k + 1) := by
  obtain ⟨h1, h2⟩ := h
  rw [drop_next hk, hz] at h1 h2
  rw [totV, if_pos hf] at h1
  rw [totE, if_pos hf] at h2
  exact ⟨h1, h2⟩
theorem Onward.over {zs : List Int} {n z : Int} {k : Nat} (h : Onward zs n k) (hk : k < zs.length) (hz : zs.getD k 0 = z) (hf : ¬ fits (n + z)) : totV 0 zs = 0 ∧ totE 0 zs = 3 := by
  obtain ⟨h1, h2⟩ := h
  rw [drop_next hk, hz] at h1 h2
  rw [totV, if_neg hf] at h1
  rw [totE, if_neg hf] at h2
  exact ⟨h1.symm, h2.symm⟩
theorem Onward.done {zs : List Int} {n : Int} {k : Nat} (h : Onward zs n k) (hk : zs.length ≤ k) : totV 0 zs = n ∧ totE 0 zs = 0 := by
  obtain ⟨h1, h2⟩ := h
  rw [List.drop_eq_nil_of_le hk] at h1 h2
  exact ⟨h1.symm, h2.symm⟩

theorem add_ok (a b : Int) (a0 : -9223372036854775808 ≤ a) (a1 : a ≤ 9223372036854775807) (b0 : -9223372036854775808 ≤ b) (b1 : b ≤ 9223372036854775807) (h : fits (a + b)) (w : World) :
    Calls Try.prog 10 #[.int .i64 a, .int .i64 b] w (Two (a + b) 0 w) := by
  have := add_any a b a0 a1 b0 b1 w
  rw [fitV, fitE, if_pos h, if_pos h] at this; exact this
theorem add_over (a b : Int) (a0 : -9223372036854775808 ≤ a) (a1 : a ≤ 9223372036854775807) (b0 : -9223372036854775808 ≤ b) (b1 : b ≤ 9223372036854775807) (h : ¬ fits (a + b)) (w : World) :
    Calls Try.prog 10 #[.int .i64 a, .int .i64 b] w (Two 0 3 w) := by
  have := add_any a b a0 a1 b0 b1 w
  rw [fitV, fitE, if_neg h, if_neg h] at this; exact this
theorem radd_ok (a b : Int) (a0 : -9223372036854775808 ≤ a) (a1 : a ≤ 9223372036854775807) (b0 : -9223372036854775808 ≤ b) (b1 : b ≤ 9223372036854775807) (h : fits (a + b)) (w : World) :
    Calls Try.prog 11 #[.int .i64 a, .int .i64 b] w (Two (a + b) 0 w) := by
  have := radd_any a b a0 a1 b0 b1 w
  rw [fitV, fitE, if_pos h, if_pos h] at this; exact this
theorem radd_over (a b : Int) (a0 : -9223372036854775808 ≤ a) (a1 : a ≤ 9223372036854775807) (b0 : -9223372036854775808 ≤ b) (b1 : b ≤ 9223372036854775807) (h : ¬ fits (a + b)) (w : World) :
    Calls Try.prog 11 #[.int .i64 a, .int .i64 b] w (Two 0 3 w) := by
  have := radd_any a b a0 a1 b0 b1 w
  rw [fitV, fitE, if_neg h, if_neg h] at this; exact this

theorem total_empty (a : Option Addr) (cap : Nat) (w : World) : Calls Try.prog 17 #[.slice a 0 cap] w (Two 0 0 w) := by
  go_enter Try.func17, Try.ntmps17
  go_wp2
  refine wp_loop_rounds 1 ?_
  rw [rounds_succ]
  go_wp2
  go_ret2
  exact ⟨rfl, rfl⟩
set_option maxHeartbeats 400000 in
theorem total_row (b off cap : Nat) (zs : List Int) (w : World) (hm : zs.length ≤ 9223372036854775807) (hw : ∀ j, -9223372036854775808 ≤ zs.getD j 0 ∧ zs.getD j 0 ≤ 9223372036854775807)
    (hc : ∀ j, j < zs.length → w.cell? ⟨b, off + j, none⟩ = some (.int .i64 (zs.getD j 0))) :
    Calls Try.prog 17 #[.slice (some ⟨b, off, none⟩) zs.length cap] w (Two (totV 0 zs) (totE 0 zs) w) := by
  obtain ⟨len, hlen⟩ : ∃ len, len = zs.length := ⟨_, rfl⟩
  rw [← hlen] at hm hc ⊢
  have HL := Lib.hid hlen
  clear hlen
  go_enter Try.func17, Try.ntmps17
  go_wp2
  go_loop [4, 11] (fun t i => ∃ (k : Nat) (n : Int), k ≤ len ∧ i = .int .i64 k ∧ t = .int .i64 n ∧ -9223372036854775808 ≤ n ∧ n ≤ 9223372036854775807 ∧ Onward zs n k) (fun _ i => len - (intOf i).toNat)
  case atStart => exact ⟨0, 0, Nat.zero_le _, rfl, rfl, by omega, by omega, Onward.start zs⟩
  case round =>
    obtain ⟨k, n, hk, rfl, rfl, n0, n1, ho⟩ := hrel
    by_cases hlt : k < len
    · have hcell := hc k hlt
      have hb := hw k
      obtain ⟨z, hz⟩ : ∃ z, zs.getD k 0 = z := ⟨_, rfl⟩
      rw [hz] at hcell hb
      have HZ := Lib.hid hz
      clear hz hc hw
      by_cases hf : fits (n + z)
      · have hf1 := hf.1
        have hf2 := hf.2
        go_wp2_with fail
        refine (add_ok n z n0 n1 hb.1 hb.2 hf _).mono ?_
        rintro e w1 ⟨rfl, rfl⟩
        go_wp2
        go_round
        case rel => exact ⟨k + 1, n + z, by omega, by go_num, rfl, by omega, by omega, ho.next (by rw [← HL.out]; exact hlt) HZ.out hf⟩
        case measure => simp [intOf]; omega
      · go_wp2_with fail
        refine (add_over n z n0 n1 hb.1 hb.2 hf _).mono ?_
        rintro e w1 ⟨rfl, rfl⟩
        go_wp2
        go_ret2
        have h3 := ho.over (by rw [← HL.out]; exact hlt) HZ.out hf
        exact Two.of _ h3.1 h3.2
    · clear hc hw
      go_wp2
      go_ret2
      have h3 := ho.done (by rw [← HL.out]; omega)
      exact Two.of _ h3.1 h3.2
theorem rtotal_empty (a : Option Addr) (cap : Nat) (w : World) : Calls Try.prog 18 #[.slice a 0 cap] w (Two 0 0 w) := by
  go_enter Try.func18, Try.ntmps18
  go_wp2
  refine wp_loop_rounds 1 ?_
  rw [rounds_succ]
  go_wp2
  go_ret2
  exact ⟨rfl, rfl⟩
set_option maxHeartbeats 400000 in
theorem rtotal_row (b off cap : Nat) (zs : List Int) (len : Nat) (w : World) (hlen : len = zs.length) (hm : len ≤ 9223372036854775807) (hw : ∀ j, -9223372036854775808 ≤ zs.getD j 0 ∧ zs.getD j 0 ≤ 9223372036854775807)
    (hc : ∀ j, j < len → w.cell? ⟨b, off + j, none⟩ = some (.int .i64 (zs.getD j 0))) :
    Calls Try.prog 18 #[.slice (some ⟨b, off, none⟩) len cap] w (Two (totV 0 zs) (totE 0 zs) w) := by
  have HL := Lib.hid hlen
  clear hlen
  go_enter Try.func18, Try.ntmps18
  go_wp2
  go_loop [4, 5] (fun t i => ∃ (k : Nat) (n : Int), k ≤ len ∧ i = .int .i64 k ∧ t = .int .i64 n ∧ -9223372036854775808 ≤ n ∧ n ≤ 9223372036854775807 ∧ Onward zs n k) (fun _ i => len - (intOf i).toNat)
  case atStart => exact ⟨0, 0, Nat.zero_le _, rfl, rfl, by omega, by omega, Onward.start zs⟩
  case round =>
    obtain ⟨k, n, hk, rfl, rfl, n0, n1, ho⟩ := hrel
    by_cases hlt : k < len
    · have hcell := hc k hlt
      have hb := hw k
      obtain ⟨z, hz⟩ : ∃ z, zs.getD k 0 = z := ⟨_, rfl⟩
      rw [hz] at hcell hb
      have HZ := Lib.hid hz
      clear hz hc hw
      by_cases hf : fits (n + z)
      · have hf1 := hf.1
        have hf2 := hf.2
        go_wp2_with fail
        refine (radd_ok n z n0 n1 hb.1 hb.2 hf _).mono ?_
        rintro e w1 ⟨rfl, rfl⟩
        go_wp2
        go_round
        case rel => exact ⟨k + 1, n + z, by omega, by go_num, rfl, by omega, by omega, ho.next (by rw [← HL.out]; exact hlt) HZ.out hf⟩
        case measure => simp [intOf]; omega
      · go_wp2_with fail
        refine (radd_over n z n0 n1 hb.1 hb.2 hf _).mono ?_
        rintro e w1 ⟨rfl, rfl⟩
        go_wp2
        go_ret2
        have h3 := ho.over (by rw [← HL.out]; exact hlt) HZ.out hf
        exact Two.of _ h3.1 h3.2
    · clear hc hw
      go_wp2
      go_ret2
      have h3 := ho.done (by rw [← HL.out]; omega)
      exact Two.of _ h3.1 h3.2
end Go.Proofs.Ytbblieengdlidaa.SumW
