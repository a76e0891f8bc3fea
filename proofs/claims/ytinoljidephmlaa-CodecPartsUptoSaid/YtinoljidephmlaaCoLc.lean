/- The law CodecWrites, walked: whatever bytes and number come in, not too many. -/
import Derived.Test.YtinoljidephmlaaCoLa
import Derived.Deep.RegionHeld
namespace Go.Proofs.Ytinoljidephmlaa.Co
open Go.RowKit By CoP

theorem str_append (l m : List UInt8) : str l ++ str m = str (l ++ m) := by
  unfold str
  apply ByteArray.ext
  simp
theorem str_size (l : List UInt8) : (str l).size = l.length := by simp [str, ByteArray.size]
theorem putNum_short (q : Nat) (h : q < 18446744073709551616) : (putNum q).length ≤ 9 := by
  have := nb_le (n := q) (k := 8) (by simpa using h)
  rw [putNum_length]; omega
set_option maxRecDepth 100000 in
set_option maxHeartbeats 1600000 in
theorem codecWrites_walk (A : Option Addr) (n c : Nat) (l : List UInt8) (k : Int) (A2 : Option Addr) (n2 c2 : Nat) (l2 : List UInt8) (hn : n = l.length) (hm : n ≤ 1048576) (hn2 : n2 = l2.length) (hm2 : n2 ≤ 1048576)
    (k0 : 0 ≤ k) (k1 : k ≤ 18446744073709551615) (w : World) (hr : Lies w w.heap.size A l) (hr2 : Lies w w.heap.size A2 l2) :
    Calls Try.prog 3 #[.slice A n c, .int .u64 k, .slice A2 n2 c2] w (True_ w) := by
  obtain ⟨q, rfl⟩ : ∃ q : Nat, k = q := ⟨k.toNat, by omega⟩
  have hq : q < 18446744073709551616 := by omega
  have HQ := Lib.hid hq
  have HN := Lib.hid hn
  have HN2 := Lib.hid hn2
  have HR := Lib.hid hr
  have HR2 := Lib.hid hr2
  clear hq hn hn2 hr hr2 k0 k1
  go_enter Try.func3, Try.ntmps3
  go_wp2_with fail
  refine (own_any A n c _ l HN.out w HR.out (Nat.le_refl _) (by have := HN.out; omega)).mono ?_
  rintro e wa ⟨_, rfl, ho, hb⟩
  obtain ⟨A3, c3, rfl, _, _, _, hr3, _⟩ := ho.form
  have B1 := Lib.hid hb
  have HRa := Lib.hid (lext HR.out hb)
  have HR2a := Lib.hid (lext HR2.out hb)
  have HR3 := Lib.hid hr3
  clear ho hb hr3
  rw [← HN.out]
  go_wp2_with fail
  refine (putNum_any A3 n c3 _ l q _ rfl HQ.out HN.out wa HR3.out (Nat.le_refl _) (by have := HN.out; omega)).mono ?_
  rintro e wb ⟨_, rfl, ho, hb⟩
  obtain ⟨X, cx, rfl, _, _, _, hrx, _⟩ := ho.form
  obtain ⟨nx, hnx⟩ : ∃ nx, (l ++ putNum q).length = nx := ⟨_, rfl⟩
  rw [hnx]
  have HNX := Lib.hid hnx.symm
  clear hnx
  have B2 := Lib.hid (ext B1.out hb)
  have HRb := Lib.hid (lext HRa.out hb)
  have HR2b := Lib.hid (lext HR2a.out hb)
  have HX := Lib.hid hrx
  clear ho hb hrx HR3 HRa HR2a
  go_wp2_with fail
  refine (own_any A n c _ l HN.out wb HRb.out (Nat.le_refl _) (by have := HN.out; omega)).mono ?_
  rintro e wc ⟨_, rfl, ho, hb⟩
  obtain ⟨A4, c4, rfl, _, _, _, hr4, _⟩ := ho.form
  have B3 := Lib.hid (ext B2.out hb)
  have HRc := Lib.hid (lext HRb.out hb)
  have HR2c := Lib.hid (lext HR2b.out hb)
  have HXc := Lib.hid (lext HX.out hb)
  have HR4 := Lib.hid hr4
  clear ho hb hr4 HRb HR2b HX
  rw [← HN.out]
  go_wp2_with fail
  refine (own_any A2 n2 c2 _ l2 HN2.out wc HR2c.out (Nat.le_refl _) (by have := HN2.out; omega)).mono ?_
  rintro e wd ⟨_, rfl, ho, hb⟩
  obtain ⟨A5, c5, rfl, _, _, _, hr5, _⟩ := ho.form
  have B4 := Lib.hid (ext B3.out hb)
  have HRd := Lib.hid (lext HRc.out hb)
  have HR2d := Lib.hid (lext HR2c.out hb)
  have HXd := Lib.hid (lext HXc.out hb)
  have HR4d := Lib.hid (lext HR4.out hb)
  have HL5 := Lib.hid (LiesL.one c5 HN2.out hr5 (Nat.le_refl _))
  clear ho hb hr5 HRc HR2c HXc HR4
  rw [← HN2.out]
  have hpl : (putLists [l2]).length ≤ 1048576 + 9 := by
    have h := putBytes_length l2 (by have := HN2.out; omega)
    have h2 := HN2.out
    simp only [putLists, List.flatMap_cons, List.flatMap_nil, List.append_nil]
    omega
  have HPL := Lib.hid hpl
  clear hpl
  go_wp2_with fail
  refine (putBytes_any A4 (some ⟨wd.heap.size, 0, none⟩) n c4 1 1 (wd.heap.size + 1) l [l2] HN.out rfl (wd.alloc (.cells #[.slice A5 n2 c5] 22)) ((HR4d.out.alloc (Nat.le_refl _) _).more (Nat.le_succ _)) HL5.out (by rw [World.size_alloc]; exact Nat.le_refl _) (by have := HN.out; have := HPL.out; omega) (by omega)).mono ?_
  rintro e we ⟨_, rfl, ho, hb⟩
  obtain ⟨Y, cy, rfl, _, _, _, hry, _⟩ := ho.form
  have hbx : Below wd.heap.size wd we := ((Below.refl wd.heap.size wd).alloc (Nat.le_refl _) _).trans (hb.mono (by rw [World.size_alloc]; exact Nat.le_succ _))
  have B5 := Lib.hid (ext B4.out hbx)
  have hty : ∀ w', Below we.heap.size we w' → (convert 22 9 (.slice Y (l ++ putLists [l2]).length cy)).run Try.prog w' = .ok (.string (str (l ++ putLists [l2]))) w' := fun w' h => run_text w' cy rfl (lext hry h)
  have HXe := Lib.hid (lext HXd.out hbx)
  have HRe := Lib.hid (lext HRd.out hbx)
  have HR2e := Lib.hid (lext HR2d.out hbx)
  have htx : ∀ w', Below we.heap.size we w' → (convert 22 9 (.slice X nx cx)).run Try.prog w' = .ok (.string (str (l ++ putNum q))) w' := fun w' h => run_text w' cx HNX.out (lext HXe.out h)
  have htb : ∀ w', Below we.heap.size we w' → (convert 22 9 (.slice A n c)).run Try.prog w' = .ok (.string (str l)) w' := fun w' h => run_text w' c HN.out (lext HRe.out h)
  clear ho hb hry hbx HXd HRd HR2d HR4d HL5 HPL HXe HRe
  generalize (l ++ putLists [l2]).length = ny at hty ⊢
  have hpl2 : putLists [l2] = putBytes l2 := by simp [putLists]
  have he1 : ((str (l ++ putNum q)).toList == (str l ++ str (putNum q)).toList) = true := by rw [str_append]; exact beq_self_eq_true _
  have he2 : ((str (l ++ putLists [l2])).toList == (str l ++ str (putBytes l2)).toList) = true := by rw [str_append, hpl2]; exact beq_self_eq_true _
  have hs1 : (str l).size + (str (putNum q)).size ≤ 9223372036854775807 := by
    have h1 := putNum_short q HQ.out
    have h2 := HN.out
    rw [str_size, str_size]; omega
  have hs2 : (str l).size + (str (putBytes l2)).size ≤ 9223372036854775807 := by
    have h2 := HN.out
    have h3 := HN2.out
    have h1 := putBytes_length l2 (by omega)
    rw [str_size, str_size]; omega
  clear hpl2
  go_wp2_with fail
  go_region_held (fun w' => Below we.heap.size we w')
    (first
      | assumption
      | exact (Below.refl _ _).drew
      | exact ext (by assumption) hb)
    (first
      | (go_at_call 13; refine (answers_yes _).mono ?_; rintro e w' ⟨rfl, hb⟩)
      | (go_at_call 14; refine (rputNum_any q _ rfl HQ.out _).mono ?_; rintro e w' ⟨_, rfl, ho, hb⟩; obtain ⟨Z, cz, rfl, _, _, _, hrz, _⟩ := ho.form; have htz := run_text w' cz rfl hrz; clear hrz ho)
      | (go_at_call 15; refine (rputBytes_any A2 n2 c2 _ l2 HN2.out _ (lext HR2e.out (by assumption)) (Nat.le_refl _) (by have := HN2.out; omega)).mono ?_; rintro e w' ⟨_, rfl, ho, hb⟩; obtain ⟨Z, cz, rfl, _, _, _, hrz, _⟩ := ho.form; have htz := run_text w' cz rfl hrz; clear hrz ho))
  go_wp2
  go_ret
  exact ⟨rfl, ext B5.out (by assumption)⟩
end Go.Proofs.Ytinoljidephmlaa.Co
