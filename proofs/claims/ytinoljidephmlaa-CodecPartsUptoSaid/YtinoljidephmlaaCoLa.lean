/- The law CodecReads, walked: whatever bytes and place come in. -/
import Derived.Test.YtinoljidephmlaaCoV
namespace Go.Proofs.Ytinoljidephmlaa.Co
open Go.RowKit By CoP

theorem ext {w w1 w2 : World} (h1 : Below w.heap.size w w1) (h2 : Below w1.heap.size w1 w2) : Below w.heap.size w w2 := h1.trans (h2.mono h1.size)
theorem lext {w w1 : World} {A : Option Addr} {l : List UInt8} (h : Lies w w.heap.size A l) (h1 : Below w.heap.size w w1) : Lies w1 w1.heap.size A l := (h.below h1).more h1.size

theorem num_both (l : List UInt8) (k : Int) : ∃ (v : Nat) (next er : Int),
    (∀ (A : Option Addr) (n c : Nat) (w : World), n = l.length → n ≤ c → n ≤ 140737488355328 → Lies w w.heap.size A l → Calls Try.prog 16 #[.slice A n c, .int .i64 k] w (GivesN v next er w)) ∧
    (∀ (A : Option Addr) (n c : Nat) (w : World), n = l.length → n ≤ c → n ≤ 140737488355328 → Lies w w.heap.size A l → Calls Try.prog 17 #[.slice A n c, .int .i64 k] w (GivesN v next er w)) := by
  by_cases h : k < 0 ∨ (l.length : Int) < k
  · exact ⟨0, 0, 1, fun A n c w hn _ _ _ => num_out A n c k w (by omega), fun A n c w hn _ _ _ => rnum_out A n c k w (by omega)⟩
  · obtain ⟨k, rfl⟩ : ∃ j : Nat, k = j := ⟨k.toNat, by omega⟩
    exact ⟨_, _, _, fun A n c w hn hc hm hr => num_in A n c k _ l hn hc (by omega) hm w hr, fun A n c w hn hc hm hr => rnum_in A n c k _ l hn (by omega) hm w hr⟩
theorem bytes_both (l : List UInt8) (k : Int) : ∃ (v : List UInt8) (next er : Int),
    (∀ (A : Option Addr) (n c : Nat) (w : World), n = l.length → n ≤ c → n ≤ 140737488355328 → Lies w w.heap.size A l → Calls Try.prog 18 #[.slice A n c, .int .i64 k] w (Gives3 w.heap.size v next er w)) ∧
    (∀ (A : Option Addr) (n c : Nat) (w : World), n = l.length → n ≤ c → n ≤ 140737488355328 → Lies w w.heap.size A l → Calls Try.prog 19 #[.slice A n c, .int .i64 k] w (Gives3 w.heap.size v next er w)) := by
  by_cases h : k < 0 ∨ (l.length : Int) < k
  · exact ⟨[], 0, 1, fun A n c w hn _ _ _ => bytes_out A n c k w (by omega), fun A n c w hn _ _ _ => rbytes_out A n c k w (by omega)⟩
  · obtain ⟨k, rfl⟩ : ∃ j : Nat, k = j := ⟨k.toNat, by omega⟩
    exact ⟨_, _, _, fun A n c w hn hc hm hr => bytes_in A n c k _ l hn hc (by omega) hm w hr (Nat.le_refl _), fun A n c w hn hc hm hr => rbytes_in A n c k _ l hn hc (by omega) hm w hr (Nat.le_refl _)⟩
theorem un_both (l : List UInt8) (k : Int) : ∃ (v : List UInt8) (next er : Int),
    (∀ (A : Option Addr) (n c : Nat) (w : World), n = l.length → n ≤ c → n ≤ 140737488355328 → Lies w w.heap.size A l → Calls Try.prog 20 #[.slice A n c, .int .i64 k] w (Gives3 w.heap.size v next er w)) ∧
    (∀ (A : Option Addr) (n c : Nat) (w : World), n = l.length → n ≤ c → n ≤ 140737488355328 → Lies w w.heap.size A l → Calls Try.prog 21 #[.slice A n c, .int .i64 k] w (Reads3 v next er w)) := by
  by_cases h : k < 0 ∨ (l.length : Int) < k
  · exact ⟨[], 0, 1, fun A n c w hn _ _ _ => un_out A n c k w (by omega), fun A n c w hn _ _ _ => run_out A n c k w (by omega)⟩
  · obtain ⟨k, rfl⟩ : ∃ j : Nat, k = j := ⟨k.toNat, by omega⟩
    exact ⟨_, _, _, fun A n c w hn hc hm hr => un_in A n c k _ l hn hc (by omega) hm w hr (Nat.le_refl _), fun A n c w hn hc hm hr => run_in A n c k _ l hn hc (by omega) hm w hr (Nat.le_refl _)⟩

set_option maxRecDepth 100000 in
set_option maxHeartbeats 1600000 in
theorem codecReads_walk (A : Option Addr) (n c : Nat) (l : List UInt8) (k : Int) (hn : n = l.length) (hc : n ≤ c) (hm : n ≤ 140737488351232) (w : World) (hr : Lies w w.heap.size A l) :
    Calls Try.prog 4 #[.slice A n c, .int .i64 k] w (True_ w) := by
  obtain ⟨v1, x1, e1, hn1, hn2⟩ := num_both l k
  obtain ⟨v2, x2, e2, hb1, hb2⟩ := bytes_both l k
  obtain ⟨v3, x3, e3, hu1, hu2⟩ := un_both l k
  have HN1 := Lib.hid hn1
  have HN2 := Lib.hid hn2
  have HB1 := Lib.hid hb1
  have HB2 := Lib.hid hb2
  have HU1 := Lib.hid hu1
  have HU2 := Lib.hid hu2
  have hm2 : n ≤ 140737488355328 := by omega
  have HO := Lib.hid (fun (w : World) (hr : Lies w w.heap.size A l) => own_any A n c _ l hn w hr (Nat.le_refl _) (by omega))
  have HN := Lib.hid hn
  have HR := Lib.hid hr
  clear hn1 hn2 hb1 hb2 hu1 hu2 hn hr
  go_enter Try.func4, Try.ntmps4
  go_wp2_with fail
  refine (HO.out w HR.out).mono ?_
  rintro e wa ⟨_, rfl, ho, hb⟩
  obtain ⟨A1, c1, rfl, hc1, _, _, hr1, _⟩ := ho.form
  have B1 := Lib.hid hb
  have HR1 := Lib.hid (lext HR.out hb)
  have hr1' := Lib.hid hr1
  have hc1' := Lib.hid hc1
  clear ho hb hr1 hc1
  rw [← HN.out]
  go_wp2_with fail
  refine (HN1.out A1 n c1 wa HN.out (by rw [HN.out]; exact hc1'.out) hm2 hr1'.out).mono ?_
  rintro e wb ⟨rfl, hb⟩
  have B2 := Lib.hid (ext B1.out hb)
  have HR2 := Lib.hid (lext HR1.out hb)
  clear hb hr1' hc1' HR1
  go_wp2_with fail
  refine (HN2.out A n c wb HN.out hc hm2 HR2.out).mono ?_
  rintro e wc ⟨rfl, hb⟩
  have B3 := Lib.hid (ext B2.out hb)
  have HR3 := Lib.hid (lext HR2.out hb)
  clear hb HR2
  go_wp2_with fail
  refine (HO.out wc HR3.out).mono ?_
  rintro e wd ⟨_, rfl, ho, hb⟩
  obtain ⟨A4, c4, rfl, hc1, _, _, hr1, _⟩ := ho.form
  have B4 := Lib.hid (ext B3.out hb)
  have HR4 := Lib.hid (lext HR3.out hb)
  have hr1' := Lib.hid hr1
  have hc1' := Lib.hid hc1
  clear ho hb hr1 hc1 HR3
  rw [← HN.out]
  go_wp2_with fail
  refine (HB1.out A4 n c4 wd HN.out (by rw [HN.out]; exact hc1'.out) hm2 hr1'.out).mono ?_
  rintro e we ⟨_, rfl, ho, hb⟩
  obtain ⟨A5, c5, rfl, _, _, _, hr5, _⟩ := ho.form
  have B5 := Lib.hid (ext B4.out hb)
  have HR5 := Lib.hid (lext HR4.out hb)
  have HA5 := Lib.hid hr5
  clear ho hb hr5 HR4 hr1' hc1'
  go_wp2_with fail
  refine (HB2.out A n c we HN.out hc hm2 HR5.out).mono ?_
  rintro e wf ⟨_, rfl, ho, hb⟩
  obtain ⟨A6, c6, rfl, _, _, _, hr6, _⟩ := ho.form
  have B6 := Lib.hid (ext B5.out hb)
  have HR6 := Lib.hid (lext HR5.out hb)
  have HA5b := Lib.hid (lext HA5.out hb)
  have HA6 := Lib.hid hr6
  clear ho hb hr6 HR5 HA5
  go_wp2_with fail
  refine (HO.out wf HR6.out).mono ?_
  rintro e wg ⟨_, rfl, ho, hb⟩
  obtain ⟨A7, c7, rfl, hc1, _, _, hr1, _⟩ := ho.form
  have B7 := Lib.hid (ext B6.out hb)
  have HR7 := Lib.hid (lext HR6.out hb)
  have HA5c := Lib.hid (lext HA5b.out hb)
  have HA6c := Lib.hid (lext HA6.out hb)
  have hr1' := Lib.hid hr1
  have hc1' := Lib.hid hc1
  clear ho hb hr1 hc1 HR6 HA5b HA6
  rw [← HN.out]
  go_wp2_with fail
  refine (HU1.out A7 n c7 wg HN.out (by rw [HN.out]; exact hc1'.out) hm2 hr1'.out).mono ?_
  rintro e wh ⟨_, rfl, ho, hb⟩
  obtain ⟨A8, c8, rfl, _, _, _, hr8, _⟩ := ho.form
  have B8 := Lib.hid (ext B7.out hb)
  have HR8 := Lib.hid (lext HR7.out hb)
  have HA5d := Lib.hid (lext HA5c.out hb)
  have HA6d := Lib.hid (lext HA6c.out hb)
  have HA8 := Lib.hid hr8
  clear ho hb hr8 HR7 HA5c HA6c hr1' hc1'
  go_wp2_with fail
  refine (HU2.out A n c wh HN.out hc hm2 HR8.out).mono ?_
  rintro e wi ⟨A9, n9, c9, rfl, hn9, hr9, hb⟩
  have B9 := Lib.hid (ext B8.out hb)
  have HA5e := Lib.hid (lext HA5d.out hb)
  have HA6e := Lib.hid (lext HA6d.out hb)
  have HA8e := Lib.hid (lext HA8.out hb)
  have HA9 := Lib.hid hr9
  have HN9 := Lib.hid hn9
  clear hb hr9 hn9 HR8 HA5d HA6d HA8
  go_wp2_with fail
  refine (answers_yes wi).mono ?_
  rintro e wj ⟨rfl, hb⟩
  have B10 := Lib.hid (ext B9.out hb)
  have t5 := run_text wj c5 rfl (lext HA5e.out hb)
  have t6 := run_text wj c6 rfl (lext HA6e.out hb)
  have t8 := run_text wj c8 rfl (lext HA8e.out hb)
  have t9 := run_text wj c9 HN9.out (lext HA9.out hb)
  clear hb HA5e HA6e HA8e HA9
  go_wp2
  go_ret
  exact ⟨rfl, B10.out⟩
end Go.Proofs.Ytinoljidephmlaa.Co
