/- strconv.FormatUint in base 36, as a contract of a call. -/
import Derived.Test.YtnjifhbooikdbaaGreatDoorWaA
namespace Go.Proofs.YtnjifhbooikdbaaGreatDoor.Wa
open Go.RowKit Go.Maps By Mp Dk

def dig (d : Nat) : UInt8 := if d < 10 then UInt8.ofNat (48 + d) else UInt8.ofNat (87 + d)
def b36 (n : Nat) : Bs := if n < 36 then [dig n] else b36 (n / 36) ++ [dig (n % 36)]
decreasing_by omega
theorem b36_lt {n : Nat} (h : n < 36) : b36 n = [dig n] := by rw [b36, if_pos h]
theorem b36_ge {n : Nat} (h : ¬ n < 36) : b36 n = b36 (n / 36) ++ [dig (n % 36)] := by rw [b36, if_neg h]
theorem dig_fin : ∀ m : Fin 36, ({ data := #[48, 49, 50, 51, 52, 53, 54, 55, 56, 57, 97, 98, 99, 100, 101, 102, 103, 104, 105, 106, 107, 108, 109, 110, 111, 112, 113, 114, 115, 116, 117, 118, 119, 120, 121, 122] } : ByteArray)[m.val]'m.isLt = dig m.val := by decide
theorem dig_get (m : Nat) (h : m < ({ data := #[48, 49, 50, 51, 52, 53, 54, 55, 56, 57, 97, 98, 99, 100, 101, 102, 103, 104, 105, 106, 107, 108, 109, 110, 111, 112, 113, 114, 115, 116, 117, 118, 119, 120, 121, 122] } : ByteArray).size) : ({ data := #[48, 49, 50, 51, 52, 53, 54, 55, 56, 57, 97, 98, 99, 100, 101, 102, 103, 104, 105, 106, 107, 108, 109, 110, 111, 112, 113, 114, 115, 116, 117, 118, 119, 120, 121, 122] } : ByteArray)[m]'h = dig m := dig_fin ⟨m, h⟩
theorem slice65 (w : World) (b j : Nat) (hj : j ≤ 65) : (Instr.sliceAt 167 (.pointer (some ⟨b, 0, none⟩)) (some (.int .i64 (j : Int))) none none).run Tryz.prog w = .ok (if j = 65 then .slice (some ⟨b, 0, none⟩) 0 0 else .slice (some ⟨b, j, none⟩) (65 - j) (65 - j)) w := by
  have hl : Tryz.prog.arrayLen 167 = 65 := by kernel_rfl
  have he : Tryz.prog.elem 167 = 5 := by kernel_rfl
  have hu : Tryz.prog.underlying 167 = some (.array (Tryz.prog.arrayLen 167) (Tryz.prog.elem 167)) := by kernel_rfl
  obtain ⟨i0, hi, hz0, hz1, hz2⟩ := info_parts u8Info
  rw [run_sliceAt_array_l w _ _ hu .i64 j (by omega) (by rw [hl]; omega), he, hl]
  have hs : (sizeOf 5).run Tryz.prog w = .ok 1 w := by simp [sizeOf, typeInfo, hi, hz1]
  rw [hs]
  show Result.ok (slicedAt ⟨b, 0, none⟩ (j : Int).toNat 65 65 1) w = _
  unfold slicedAt
  rw [Int.toNat_natCast, Nat.mul_one, plainAdd, Nat.zero_add]
  by_cases h65 : j = 65
  · rw [if_pos h65, if_pos h65.symm, h65]
  · rw [if_neg h65, if_neg (fun e => h65 e.symm)]
/-- The bytes at the end of an array of 65. -/
def ArrAt (w wr : World) (done : Bs) : Prop := ∃ cs, wr.heap[w.heap.size]? = some (.cells cs 167 (0, 0)) ∧ cs.size = 65 ∧ (∀ j x, done[j]? = some x → cs[65 - done.length + j]? = some (bv x)) ∧ Below w.heap.size w wr
set_option maxRecDepth 100000 in
set_option maxHeartbeats 2000000 in
theorem fbits_any (n : Nat) (w : World) (h : n < 18446744073709551616) : Calls Tryz.prog 101 #[.slice none 0 0, .int .u64 (n : Nat), .int .i64 36, .bool false, .bool false] w (RetB (.tuple #[.slice none 0 0, .string (str (b36 n))]) w) := by
  have hpow : ∀ w', Calls Tryz.prog 121 #[.int .i64 36] w' (Ret (.bool false) w') := fun w' => by
    go_enter Tryz.func121, Tryz.ntmps121
    go_wp2
    go_ret
    exact ⟨rfl, rfl⟩
  have HPOW := Lib.hid hpow
  clear hpow
  go_enter Tryz.func101, Tryz.ntmps101
  go_wp2_with (go_at_call 121; refine (HPOW.out _).mono ?_; rintro e w' ⟨rfl, rfl⟩)
  have HA0 := Lib.hid (show ArrAt w (w.alloc (.cells Tryz.zeroCells167 167)) [] from ⟨_, heap_alloc_new w _, by kernel_rfl, fun j x hx => by simp at hx, (Below.refl _ _).alloc (Nat.le_refl _) _⟩)
  have hdig : ∀ d : Nat, d < 36 → (#[48, 49, 50, 51, 52, 53, 54, 55, 56, 57, 97, 98, 99, 100, 101, 102, 103, 104, 105, 106, 107, 108, 109, 110, 111, 112, 113, 114, 115, 116, 117, 118, 119, 120, 121, 122] : Array UInt8)[d]? = some (dig d) := by decide
  have HDIG := Lib.hid hdig
  clear hdig
  go_loopw [1, 13] (fun u i wr => ∃ (m k j : Nat) (done : Bs), u = .int .u64 (m : Int) ∧ i = .int .i64 ((j + 1 : Nat) : Int) ∧ j + 1 + k = 65 ∧ done.length = k ∧ k ≤ 59 ∧ m * 2 ^ k ≤ n ∧ b36 n = b36 m ++ done ∧ ArrAt w wr done) (fun u _ _ => (intOf u).toNat)
  case atStart => exact ⟨n, 0, 64, [], rfl, rfl, rfl, rfl, by omega, by omega, by simp, HA0.out⟩
  case round =>
    obtain ⟨m, k, j, done, rfl, rfl, hjk, hdl, hk, hm, hb36, ha⟩ := hrel
    obtain ⟨cs, hrow, hcs, hdn, hbl⟩ := ha
    have hm64 : m < 18446744073709551616 := by
      have h1 : m * 1 ≤ m * 2 ^ k := Nat.mul_le_mul_left _ (Nat.one_le_two_pow)
      omega
    have hc : wr.cell? ⟨w.heap.size, j, none⟩ = some (cs[j]'(by omega)) := by rw [cell_of_row wr _ j _ _ _ hrow]; simp
    have hf : wr.frozen? ⟨w.heap.size, j, none⟩ = false := frozen_of_row wr _ j _ _ hrow
    have hlt : ∀ d : Nat, (wr.setCell ⟨w.heap.size, j, none⟩ (bv (dig d))).heap[w.heap.size]? = some (.cells (cs.setIfInBounds j (bv (dig d))) 167 (0, 0)) := fun d => Go.heap_setCell_same wr _ j cs _ _ hrow
    have hnew : ∀ d : Nat, ArrAt w (wr.setCell ⟨w.heap.size, j, none⟩ (bv (dig d))) (dig d :: done) := fun d => ⟨_, hlt d, by simp [hcs], fun i x hx => by
      have hl : (dig d :: done).length = k + 1 := by simp [hdl]
      rw [hl]
      cases i with
      | zero =>
        simp at hx
        subst hx
        rw [show 65 - (k + 1) + 0 = j by omega, Array.getElem?_setIfInBounds_self]
        simp [hcs]
        omega
      | succ i =>
        have h1 := hdn i x (by simpa using hx)
        rw [hdl] at h1
        rw [show 65 - (k + 1) + (i + 1) = 65 - k + i by omega, Array.getElem?_setIfInBounds_ne (by omega)]
        exact h1, hbl.setCell (p := ⟨w.heap.size, j, none⟩) (Nat.le_refl _) _⟩
    have HNEW := Lib.hid hnew
    have HB36 := Lib.hid hb36
    by_cases hge : 36 ≤ m
    · have hg1 : ¬ m < 36 := by omega
      clear hnew hlt hb36 hdn hbl
      go_upto_region 21 with fail
      obtain ⟨q, hq⟩ : ∃ q, q = m / 36 := ⟨_, rfl⟩
      obtain ⟨d, hd⟩ : ∃ d, d = m % 36 := ⟨_, rfl⟩
      have hmq : m = 36 * q + d := by omega
      have hd36 : d < 36 := by omega
      rw [show (m : Int) / 36 = (q : Int) by omega]
      have hqm : q * 2 ^ (k + 1) ≤ n := by
        have h1 : 36 * q * 2 ^ k ≤ m * 2 ^ k := Nat.mul_le_mul_right _ (by omega)
        have h2 : q * 2 ^ (k + 1) = 2 * q * 2 ^ k := by rw [Nat.pow_succ]; rw [Nat.mul_comm 2 q, Nat.mul_assoc, Nat.mul_comm 2]
        have h3 : 2 * q * 2 ^ k ≤ 36 * q * 2 ^ k := Nat.mul_le_mul_right _ (by omega)
        omega
      have hbd : b36 n = b36 q ++ (dig d :: done) := by rw [HB36.out, b36_ge hg1, ← hq, ← hd, List.append_assoc]; rfl
      have hk1 : k + 1 ≤ 59 := by
        rcases Nat.lt_or_ge k 59 with h1 | h1
        · omega
        · have hk59 : k = 59 := by omega
          have h2 : 36 * 2 ^ 59 ≤ m * 2 ^ k := by rw [hk59]; exact Nat.mul_le_mul_right _ hge
          omega
      have HQM := Lib.hid hqm
      have HBD := Lib.hid hbd
      have e1 : (m : Int) - (q : Int) * 36 = (d : Int) := by omega
      clear hq hd hqm hbd
      go_wp2
      simp only [dig_get]
      go_roundw
      case rel =>
        rw [show 36 * q + d - q * 36 = d by omega]
        exact ⟨q, k + 1, j - 1, dig d :: done, rfl, by rw [show j - 1 + 1 = j by omega], by omega, by simp [hdl], hk1, HQM.out, HBD.out, HNEW.out d⟩
      case measure => simp [intOf]; omega
    · have hm36 : m < 36 := by omega
      have hsl := slice65 (wr.setCell ⟨w.heap.size, j, none⟩ (bv (dig m))) w.heap.size j (by omega)
      rw [if_neg (by omega)] at hsl
      obtain ⟨cs2, hrow2, hcs2, hdn2, hbl2⟩ := hnew m
      have hlies : Lies (wr.setCell ⟨w.heap.size, j, none⟩ (bv (dig m))) (wr.setCell ⟨w.heap.size, j, none⟩ (bv (dig m))).heap.size (some ⟨w.heap.size, j, none⟩) (dig m :: done) := fun _ => ⟨w.heap.size, j, rfl, row_lt hrow2, fun i x hx => by
        have h1 := hdn2 i x hx
        rw [show (dig m :: done).length = k + 1 by simp [hdl], show 65 - (k + 1) + i = j + i by omega] at h1
        rw [cell_of_row _ _ _ _ _ _ hrow2]
        simpa using h1⟩
      have htx := run_text (wr.setCell ⟨w.heap.size, j, none⟩ (bv (dig m))) (n := 65 - j) (65 - j) (by simp [hdl]; omega) hlies
      have HFIN := Lib.hid (show RetB (.tuple #[.slice none 0 0, .string (str (b36 n))]) w (.returned (.tuple #[.slice none 0 0, .string (str (dig m :: done))])) (wr.setCell ⟨w.heap.size, j, none⟩ (bv (dig m))) from ⟨by rw [hb36, b36_lt hm36]; rfl, hbl2⟩)
      clear hrow2 hcs2 hdn2 hbl2 hlies hnew hlt hb36 hdn hbl
      go_upto_region 30 with fail
      simp only [dig_get]
      rw [show (Value.int IntKind.u8 ((dig m).toNat : Int)) = bv (dig m) from rfl]
      go_wp2
      go_ret2
      exact HFIN.out
set_option maxHeartbeats 400000 in
theorem fuint_any (n : Nat) (w : World) (h : n < 18446744073709551616) : Calls Tryz.prog 46 #[.int .u64 (n : Nat), .int .i64 36] w (RetB (.string (str (b36 n))) w) := by
  have hin : Calls Tryz.prog 76 #[.int .u64 (n : Nat), .int .i64 36] w (RetB (.string (str (b36 n))) w) := by
    have HF := Lib.hid (fbits_any n w h)
    go_enter Tryz.func76, Tryz.ntmps76
    go_wp2_with (go_at_call 101; refine HF.out.mono ?_; rintro e w2 ⟨rfl, hb2⟩)
    go_ret
    exact ⟨rfl, hb2⟩
  have HIN := Lib.hid hin
  clear hin
  go_enter Tryz.func46, Tryz.ntmps46
  go_wp2_with (go_at_call 76; refine HIN.out.mono ?_; rintro e w2 ⟨rfl, hb2⟩)
  go_ret
  exact ⟨rfl, hb2⟩
end Go.Proofs.YtnjifhbooikdbaaGreatDoor.Wa
