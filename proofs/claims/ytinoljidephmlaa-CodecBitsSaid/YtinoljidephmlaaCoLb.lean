/- The law CodecBits, walked: whatever bytes and number come in. -/
import Derived.Test.YtinoljidephmlaaCoLa
namespace Go.Proofs.Ytinoljidephmlaa.Co
open Go.RowKit By CoP

theorem flip_val (x : UInt8) (j : Nat) (hj : j < 8) : bits .xor .u8 (x.toNat : Int) (2 ^ j % 256) = ((UInt8.ofNat (x.toNat ^^^ 2 ^ j)).toNat : Int) ∧ UInt8.ofNat (x.toNat ^^^ 2 ^ j) ≠ x := by
  have hp : 2 ^ j < 256 := by
    have := Nat.pow_le_pow_right (n := 2) (by omega) (show j ≤ 7 by omega)
    have e : (2 : Nat) ^ 7 = 128 := by decide
    omega
  have hx := x.toNat_lt
  have hxx : x.toNat ^^^ 2 ^ j < 256 := Nat.xor_lt_two_pow (n := 8) (by omega) (by omega)
  have e1 : (2 : Int) ^ j % 256 = ((2 ^ j : Nat) : Int) := by
    have : (2 : Int) ^ j = ((2 ^ j : Nat) : Int) := by simp
    rw [this]
    generalize 2 ^ j = z at hp
    omega
  refine ⟨?_, fun h => ?_⟩
  · rw [e1, u8_xor_nat _ _ (by omega) hp, ofNat_mod]
    omega
  · have h2 := congrArg UInt8.toNat h
    rw [ofNat_mod, Nat.mod_eq_of_lt hxx] at h2
    have h3 := congrArg (x.toNat ^^^ ·) h2
    simp [← Nat.xor_assoc] at h3
set_option maxRecDepth 100000 in
set_option maxHeartbeats 1600000 in
theorem codecBits_walk (A : Option Addr) (n c : Nat) (l : List UInt8) (k : Int) (hn : n = l.length) (hm : n ≤ 140737488355328) (k0 : 0 ≤ k) (k1 : k ≤ 4294967295) (w : World) (hr : Lies w w.heap.size A l) :
    Calls Try.prog 9 #[.slice A n c, .int .u32 k] w (True_ w) := by
  by_cases hL : 65536 < n
  · clear hr hn
    go_enter Try.func9, Try.ntmps9
    go_wp2_with fail
    refine (answers_yes w).mono ?_
    rintro e wa ⟨rfl, hb⟩
    have B1 := Lib.hid hb
    clear hb
    go_wp2_with fail
    refine (answers_yes wa).mono ?_
    rintro e wb ⟨rfl, hb⟩
    have B2 := Lib.hid (ext B1.out hb)
    clear hb
    go_wp2
    go_ret
    exact ⟨rfl, B2.out⟩
  · have hLi : ¬ ((65536 : Int) < (n : Int)) := by omega
    have HN := Lib.hid hn
    have HR := Lib.hid hr
    clear hr hn
    go_enter Try.func9, Try.ntmps9
    go_wp2_with fail
    refine (answers_yes w).mono ?_
    rintro e wa ⟨rfl, hb⟩
    have B1 := Lib.hid hb
    have HR1 := Lib.hid (lext HR.out hb)
    clear hb HR
    go_wp2_with fail
    refine (own_any A n c _ l HN.out wa HR1.out (Nat.le_refl _) (by have := HN.out; omega)).mono ?_
    rintro e wb ⟨_, rfl, ho, hb⟩
    obtain ⟨A2, c2, rfl, _, _, _, hr2, _⟩ := ho.form
    have B2 := Lib.hid (ext B1.out hb)
    have HR2 := Lib.hid hr2
    clear ho hb hr2 HR1
    rw [← HN.out]
    go_wp2_with fail
    refine (frame_ok A2 n c2 _ l HN.out (by omega) wb HR2.out (Nat.le_refl _)).mono ?_
    rintro e wc ⟨v, rfl, ho, hb⟩
    have B3 := Lib.hid (ext B2.out hb)
    have hfl : (frame l).length = n + 8 := by rw [frame_length, ← HN.out]
    have ho2 := ho
    unfold Own at ho2
    rw [hfl] at ho2
    obtain ⟨g, c3, rfl, hg1, hg2⟩ := World.ownsRow.form ho2 (by omega)
    have HO := Lib.hid ho
    have hzb := hb.size
    have HFL := Lib.hid hfl
    have hG := Lib.hid (show w.heap.size ≤ g by have := B2.out.size; omega)
    clear ho ho2 hb hfl HR2
    obtain ⟨q, hq⟩ : ∃ q : Nat, k % (((n : Int) + 8 - 4) * 8) = (q : Int) := ⟨(k % (((n : Int) + 8 - 4) * 8)).toNat, by rw [Int.toNat_of_nonneg (Int.emod_nonneg _ (by omega))]⟩
    have hq1 : (q : Int) < ((n : Int) + 8 - 4) * 8 := by rw [← hq]; exact Int.emod_lt_of_pos _ (by omega)
    have hq2 : q / 8 < n + 4 := by omega
    have hq8 : 4 + q / 8 < (frame l).length := by have := HFL.out; omega
    have hcell : wc.cell? ⟨g, 4 + q / 8, none⟩ = some (.int .u8 ((frame l)[4 + q / 8].toNat : Int)) := by
      obtain ⟨A', c', e1, _, _, _, h, _⟩ := HO.out.form
      injection e1 with e1 e2 e3
      subst e1
      obtain ⟨g', o', e, _, h2⟩ := h.at_ hq8
      injection e with e
      injection e with e1 e2
      subst e1 e2
      rwa [Nat.zero_add] at h2
    have hfz : wc.frozen? ⟨g, 4 + q / 8, none⟩ = false := by
      have h := HO.out
      unfold Own at h
      rw [HFL.out] at h
      exact World.ownsRow.frozenAt h _
    have HY := Lib.hid (fun (y : UInt8) (hy : y ≠ (frame l)[4 + q / 8]) => unR_flip l (by have := HN.out; omega) (q / 8) hq8 y hy)
    generalize (frame l)[4 + q / 8] = x at hcell HY
    clear hq8
    have x0 := byte_lo x
    have x1 := byte_hi x
    obtain ⟨hf1, hf2⟩ := flip_val x (q % 8) (Nat.mod_lt _ (by omega))
    have hst := HO.out.stored (4 + q / 8) (UInt8.ofNat (x.toNat ^^^ 2 ^ (q % 8)))
    rw [bv, ← hf1] at hst
    have hun := HY.out _ hf2
    have HST := Lib.hid hst
    have HUN := Lib.hid hun
    have hbs : Below w.heap.size w (wc.setCell ⟨g, 4 + q / 8, none⟩ (.int .u8 (bits .xor .u8 (x.toNat : Int) (2 ^ (q % 8) % 256)))) := B3.out.setCell hG.out _
    have HBS := Lib.hid hbs
    have hlen : n + 8 = ((frame l).set (4 + q / 8) (UInt8.ofNat (x.toNat ^^^ 2 ^ (q % 8)))).length := by rw [List.length_set, HFL.out]
    have HLEN := Lib.hid hlen
    clear hf1 hf2 hst hun hbs hlen HY
    generalize (frame l).set (4 + q / 8) (UInt8.ofNat (x.toNat ^^^ 2 ^ (q % 8))) = f2 at HST HUN HLEN
    go_wp2_with fail
    have hu := HST.out.form
    obtain ⟨A5, c5, e5, hc5, _, _, hl5, _⟩ := hu
    rw [← HLEN.out] at e5 hc5
    injection e5 with e51 e52 e53
    subst e51 e53
    have hcall : Calls Try.prog 20 #[.slice (some ⟨g, 0, none⟩) (n + 8) c3, .int .i64 0] (wc.setCell ⟨g, 4 + q / 8, none⟩ (.int .u8 (bits .xor .u8 (x.toNat : Int) (2 ^ (q % 8) % 256)))) (Gives3 (wc.setCell ⟨g, 4 + q / 8, none⟩ (.int .u8 (bits .xor .u8 (x.toNat : Int) (2 ^ (q % 8) % 256)))).heap.size [] 0 6 (wc.setCell ⟨g, 4 + q / 8, none⟩ (.int .u8 (bits .xor .u8 (x.toNat : Int) (2 ^ (q % 8) % 256))))) := by
      have h := un_in (some ⟨g, 0, none⟩) (n + 8) c3 0 _ f2 HLEN.out hc5 (Nat.zero_le _) (by omega) _ hl5 (Nat.le_refl _)
      rw [List.drop_zero, HUN.out] at h
      exact h
    refine hcall.mono ?_
    rintro e wd ⟨_, rfl, ho, hb⟩
    obtain ⟨A6, c6, rfl, _, _, _, _, _⟩ := ho.form
    have B5 := Lib.hid (ext HBS.out hb)
    clear ho hb hcall hl5 hc5
    go_wp2
    go_ret
    exact ⟨rfl, B5.out⟩
end Go.Proofs.Ytinoljidephmlaa.Co
