/- The law CodecBack, walked: whatever comes in, not too much. -/
import Derived.Test.YtinoljidephmlaaCoLa
namespace Go.Proofs.Ytinoljidephmlaa.Co
open Go.RowKit By CoP

def backL (l : List UInt8) (q : Nat) (d : List UInt8) : List UInt8 := l ++ (putNum q ++ (putBytes d ++ frame d))
theorem backL_length (l : List UInt8) (q : Nat) (d : List UInt8) : (backL l q d).length = l.length + (nb q + 1) + (putBytes d).length + (frame d).length := by
  unfold backL
  rw [List.length_append, List.length_append, List.length_append, putNum_length]; omega
theorem back1 (l : List UInt8) (q : Nat) (d : List UInt8) (hq : q < 18446744073709551616) : numR ((backL l q d).drop l.length) = (q, nb q + 1, 0) := by
  unfold backL
  rw [List.drop_left]
  exact numR_put q (by simpa using hq) _
theorem back2 (l : List UInt8) (q : Nat) (d : List UInt8) (hd : d.length ≤ 65536) : bytesR ((backL l q d).drop (l.length + (nb q + 1))) = (d, (putBytes d).length, 0) := by
  unfold backL
  rw [← List.drop_drop, List.drop_left, ← putNum_length, List.drop_left]
  exact bytesR_put d (by omega) _
theorem back3 (l : List UInt8) (q : Nat) (d : List UInt8) (hd : d.length ≤ 65536) : unR ((backL l q d).drop (l.length + (nb q + 1) + (putBytes d).length)) = (d, (frame d).length, 0) := by
  unfold backL
  rw [← List.drop_drop, ← List.drop_drop, List.drop_left, ← putNum_length, List.drop_left, List.drop_left]
  have := unR_frame d hd []
  rwa [List.append_nil] at this

set_option maxRecDepth 100000 in
set_option maxHeartbeats 3200000 in
theorem codecBack_walk (A : Option Addr) (n c : Nat) (l : List UInt8) (k : Int) (A2 : Option Addr) (n2 c2 : Nat) (d : List UInt8) (cut : Int) (hn : n = l.length) (hm : n ≤ 1048576) (hn2 : n2 = d.length) (hm2 : n2 ≤ 1048576)
    (k0 : 0 ≤ k) (k1 : k ≤ 18446744073709551615) (u0 : 0 ≤ cut) (u1 : cut ≤ 65535) (w : World) (hr : Lies w w.heap.size A l) (hr2 : Lies w w.heap.size A2 d) :
    Calls Try.prog 6 #[.slice A n c, .int .u64 k, .slice A2 n2 c2, .int .u16 cut] w (True_ w) := by
  obtain ⟨q, rfl⟩ : ∃ q : Nat, k = q := ⟨k.toNat, by omega⟩
  have HQ := Lib.hid (show q < 18446744073709551616 by omega)
  have HN := Lib.hid hn
  have HN2 := Lib.hid hn2
  have HR := Lib.hid hr
  have HR2 := Lib.hid hr2
  clear hn hn2 hr hr2 k0 k1
  by_cases hL : 65536 < n2
  · go_enter Try.func6, Try.ntmps6
    go_wp2_with fail
    refine (own_any A2 n2 c2 _ d HN2.out w HR2.out (Nat.le_refl _) (by have := HN2.out; omega)).mono ?_
    rintro e wa ⟨_, rfl, ho, hb⟩
    obtain ⟨A3, c3, rfl, _, _, _, _, _⟩ := ho.form
    have B1 := Lib.hid hb
    clear ho hb
    rw [← HN2.out]
    go_wp2_with fail
    refine (frame_large A3 n2 c3 hL wa).mono ?_
    rintro e wb ⟨_, rfl, ho, hb⟩
    obtain ⟨A4, c4, rfl, _, _, _, _, _⟩ := ho.form
    have B2 := Lib.hid (ext B1.out hb)
    clear ho hb
    go_wp2_with fail
    refine (answers_yes wb).mono ?_
    rintro e wc ⟨rfl, hb⟩
    have B3 := Lib.hid (ext B2.out hb)
    clear hb
    go_wp2_with fail
    refine (answers_yes wc).mono ?_
    rintro e wd ⟨rfl, hb⟩
    have B4 := Lib.hid (ext B3.out hb)
    clear hb
    go_wp2
    go_ret
    exact ⟨rfl, B4.out⟩
  · have hLi : ¬ ((65536 : Int) < (n2 : Int)) := by omega
    have hd6 : d.length ≤ 65536 := by have := HN2.out; omega
    have HD6 := Lib.hid hd6
    clear hd6
    go_enter Try.func6, Try.ntmps6
    go_wp2_with fail
    refine (own_any A2 n2 c2 _ d HN2.out w HR2.out (Nat.le_refl _) (by have := HN2.out; omega)).mono ?_
    rintro e wa ⟨_, rfl, ho, hb⟩
    obtain ⟨A3, c3, rfl, _, _, _, hr3, _⟩ := ho.form
    have B1 := Lib.hid hb
    have HRa := Lib.hid (lext HR.out hb)
    have HR2a := Lib.hid (lext HR2.out hb)
    have HR3 := Lib.hid hr3
    clear ho hb hr3
    rw [← HN2.out]
    go_wp2_with fail
    refine (frame_ok A3 n2 c3 _ d HN2.out (by omega) wa HR3.out (Nat.le_refl _)).mono ?_
    rintro e wb ⟨_, rfl, ho, hb⟩
    obtain ⟨F, cf, rfl, hcf, _, _, hrf, _⟩ := ho.form
    obtain ⟨nf, hnf⟩ : ∃ nf, (frame d).length = nf := ⟨_, rfl⟩
    have hnf8 : nf = n2 + 8 := by rw [← hnf, frame_length, ← HN2.out]
    rw [hnf] at hcf ⊢
    have HNF := Lib.hid hnf.symm
    have B2 := Lib.hid (ext B1.out hb)
    have HRb := Lib.hid (lext HRa.out hb)
    have HR2b := Lib.hid (lext HR2a.out hb)
    have HF := Lib.hid hrf
    have HNF8 := Lib.hid hnf8
    have hnf0 : 8 ≤ nf := by omega
    have hnf1 : nf ≤ 65544 := by omega
    clear ho hb hrf HR3 HRa HR2a hnf hnf8
    go_wp2_with fail
    refine (answers_yes wb).mono ?_
    rintro e wc ⟨rfl, hb⟩
    have B3 := Lib.hid (ext B2.out hb)
    have HRc := Lib.hid (lext HRb.out hb)
    have HR2c := Lib.hid (lext HR2b.out hb)
    have HFc := Lib.hid (lext HF.out hb)
    clear hb HRb HR2b HF
    go_wp2_with fail
    refine (own_any A n c _ l HN.out wc HRc.out (Nat.le_refl _) (by have := HN.out; omega)).mono ?_
    rintro e wd ⟨_, rfl, ho, hb⟩
    obtain ⟨A5, c5, rfl, _, _, _, hr5, _⟩ := ho.form
    have B4 := Lib.hid (ext B3.out hb)
    have HR2d := Lib.hid (lext HR2c.out hb)
    have HFd := Lib.hid (lext HFc.out hb)
    have HR5 := Lib.hid hr5
    clear ho hb hr5 HRc HR2c HFc
    rw [← HN.out]
    go_wp2_with fail
    refine (putNum_any A5 n c5 _ l q _ rfl HQ.out HN.out wd HR5.out (Nat.le_refl _) (by have := HN.out; omega)).mono ?_
    rintro e we ⟨_, rfl, ho, hb⟩
    obtain ⟨X, cx, rfl, _, _, _, hrx, _⟩ := ho.form
    obtain ⟨nx, hnx⟩ : ∃ nx, (l ++ putNum q).length = nx := ⟨_, rfl⟩
    have hnx2 : nx = n + (nb q + 1) := by rw [← hnx, List.length_append, putNum_length, ← HN.out]
    rw [hnx]
    have HNX := Lib.hid hnx.symm
    have HNX2 := Lib.hid hnx2
    have B5 := Lib.hid (ext B4.out hb)
    have HR2e := Lib.hid (lext HR2d.out hb)
    have HFe := Lib.hid (lext HFd.out hb)
    have HX := Lib.hid hrx
    clear ho hb hrx hnx hnx2 HR5 HR2d HFd
    go_wp2_with fail
    refine (own_any A2 n2 c2 _ d HN2.out we HR2e.out (Nat.le_refl _) (by have := HN2.out; omega)).mono ?_
    rintro e wf ⟨_, rfl, ho, hb⟩
    obtain ⟨A6, c6, rfl, _, _, _, hr6, _⟩ := ho.form
    have B6 := Lib.hid (ext B5.out hb)
    have HR2f := Lib.hid (lext HR2e.out hb)
    have HFf := Lib.hid (lext HFe.out hb)
    have HXf := Lib.hid (lext HX.out hb)
    have HL6 := Lib.hid (LiesL.one c6 HN2.out hr6 (Nat.le_refl _))
    clear ho hb hr6 HR2e HFe HX
    rw [← HN2.out]
    have hnb : nb q ≤ 8 := nb_le (n := q) (k := 8) (by have := HQ.out; simpa using this)
    have hpl2 : putLists [d] = putBytes d := by simp [putLists]
    have hpbl : (putBytes d).length ≤ n2 + 9 := by have h := putBytes_length d (by have := HD6.out; omega); have := HN2.out; omega
    have HPL2 := Lib.hid hpl2
    have HPBL := Lib.hid hpbl
    have HNB := Lib.hid hnb
    clear hpl2 hpbl hnb
    go_wp2_with fail
    refine (putBytes_any X (some ⟨wf.heap.size, 0, none⟩) nx cx 1 1 (wf.heap.size + 1) (l ++ putNum q) [d] HNX.out rfl (wf.alloc (.cells #[.slice A6 n2 c6] 22)) ((HXf.out.alloc (Nat.le_refl _) _).more (Nat.le_succ _)) HL6.out (by rw [World.size_alloc]; exact Nat.le_refl _)
      (by have h1 := HNX.out; have h2 := HNX2.out; have h3 := HPBL.out; have h4 := HNB.out; rw [HPL2.out]; omega) (by omega)).mono ?_
    rintro e wg ⟨_, rfl, ho, hb⟩
    have hbx : Below wf.heap.size wf wg := ((Below.refl wf.heap.size wf).alloc (Nat.le_refl _) _).trans (hb.mono (by rw [World.size_alloc]; exact Nat.le_succ _))
    rw [HPL2.out] at ho
    have B7 := Lib.hid (ext B6.out hbx)
    have HFg := Lib.hid (lext HFf.out hbx)
    have HBX := Lib.hid hbx
    have hzo : (wf.alloc (.cells #[.slice A6 n2 c6] 22)).heap.size ≤ wg.heap.size := hb.size
    clear hb hbx HL6 HXf
    go_wp2_with (at_builtin; refine wpList_app rfl (.tmp 50) (.tmp 51) rfl rfl ho rfl HNF.out HFg.out ?cs ?cb ?_)
    case cs =>
      have h1 := HNX.out; have h2 := HNX2.out; have h3 := HPBL.out; have h4 := HNB.out; have h5 := HNF.out; have h6 := HNF8.out
      rw [List.length_append, ← h1, ← h5]; omega
    case cb => exact hzo
    intro v wh ho2 hb2 _
    have hpx : Below wf.heap.size wg wh := hb2.mono (by first | exact Nat.le_succ _ | (rw [World.size_alloc]; exact Nat.le_succ _))
    have hbt : Below wf.heap.size wf wh := HBX.out.trans hpx
    have B8 := Lib.hid (ext B6.out hbt)
    have HR2h := Lib.hid (lext HR2f.out hbt)
    have HFh := Lib.hid (lext HFf.out hbt)
    have hall : Own (wf.heap.size + 1) wh v (backL l q d) := by
      have h := ho2
      unfold backL
      simpa using h
    obtain ⟨G, cg, rfl, hcg, _, _, hrg, _⟩ := hall.form
    have hlg := backL_length l q d
    obtain ⟨ng, hng⟩ : ∃ ng, (backL l q d).length = ng := ⟨_, rfl⟩
    rw [hng] at hlg hcg ⊢
    have HLG := Lib.hid hlg
    have HNG := Lib.hid hng.symm
    have HG := Lib.hid hrg
    have hng2 : ng ≤ 4194304 := by have h1 := HN.out; have h2 := HNB.out; have h3 := HPBL.out; have h4 := HNF.out; omega
    obtain ⟨i1, hi1⟩ : ∃ i1, n + (nb q + 1) = i1 := ⟨_, rfl⟩
    obtain ⟨i2, hi2⟩ : ∃ i2, i1 + (putBytes d).length = i2 := ⟨_, rfl⟩
    have hi1n : i1 ≤ ng := by rw [hlg, ← HN.out]; omega
    have hi2n : i2 ≤ ng := by rw [hlg, ← HN.out]; omega
    have HNN : n ≤ ng := by omega
    have HE2 := Lib.hid (show i2 + nf = ng by rw [hlg, HNF.out, ← HN.out]; omega)
    have hcall1 : ∀ w', Below wh.heap.size wh w' → Calls Try.prog 16 #[.slice G ng cg, .int .i64 (n : Int)] w' (GivesN q (i1 : Int) 0 w') := fun w' h => by
      have h1 := num_in G ng cg n _ (backL l q d) HNG.out hcg HNN (by omega) w' (lext HG.out h)
      have h2 := back1 l q d HQ.out
      rw [← HN.out] at h2
      rw [h2] at h1
      have h3 : nextI n (nb q + 1) 0 = (i1 : Int) := by rw [nextI_ok]; omega
      rw [← h3]
      exact h1
    have hcall2 : ∀ w', Below wh.heap.size wh w' → Calls Try.prog 18 #[.slice G ng cg, .int .i64 (i1 : Int)] w' (Gives3 w'.heap.size d (i2 : Int) 0 w') := fun w' h => by
      have h1 := bytes_in G ng cg i1 _ (backL l q d) HNG.out hcg hi1n (by omega) w' (lext HG.out h) (Nat.le_refl _)
      have h2 := back2 l q d HD6.out
      rw [← HN.out, hi1] at h2
      rw [h2] at h1
      have h3 : nextI i1 (putBytes d).length 0 = (i2 : Int) := by rw [nextI_ok]; omega
      rw [← h3]
      exact h1
    have hcall3 : ∀ w', Below wh.heap.size wh w' → Calls Try.prog 20 #[.slice G ng cg, .int .i64 (i2 : Int)] w' (Gives3 w'.heap.size d (ng : Int) 0 w') := fun w' h => by
      have h1 := un_in G ng cg i2 _ (backL l q d) HNG.out hcg hi2n (by omega) w' (lext HG.out h) (Nat.le_refl _)
      have h2 := back3 l q d HD6.out
      rw [← HN.out, hi1, hi2, ← HNF.out] at h2
      rw [h2] at h1
      have h3 : nextI i2 nf 0 = (ng : Int) := by rw [nextI_ok]; have := HE2.out; omega
      rw [← h3]
      exact h1
    obtain ⟨s, hs⟩ : ∃ s : Nat, cut % (nf : Int) = (s : Int) := ⟨(cut % (nf : Int)).toNat, by rw [Int.toNat_of_nonneg (Int.emod_nonneg _ (by omega))]⟩
    have hs1 : s < nf := by have : (s : Int) < (nf : Int) := by rw [← hs]; exact Int.emod_lt_of_pos _ (by omega)
                            omega
    have hcall4 : ∀ w', Below wh.heap.size wh w' → ∃ (z : List UInt8) (x : Int), Calls Try.prog 20 #[.slice F s cf, .int .i64 0] w' (Gives3 w'.heap.size z x 5 w') := fun w' h => by
      have hlen : s = ((frame d).take s).length := by rw [List.length_take, ← HNF.out]; omega
      have h1 := un_in F s cf 0 _ ((frame d).take s) hlen (by omega) (Nat.zero_le _) (by omega) w' (lies_take (lext HFh.out h) s) (Nat.le_refl _)
      have h2 := unR_short d HD6.out s (by rw [← HNF.out]; exact hs1)
      rw [List.drop_zero, h2] at h1
      exact ⟨_, _, h1⟩
    have C1 := Lib.hid hcall1
    have C2 := Lib.hid hcall2
    have C3 := Lib.hid hcall3
    have C4 := Lib.hid hcall4
    clear hcall1 hcall2 hcall3 hcall4 ho2 hb2 hpx hbt hall hrg hlg hi1 hi2 hng ho hzo
    go_wp2_with fail
    refine (C1.out wh (Below.refl _ _)).mono ?_
    rintro e wi ⟨rfl, hb⟩
    have D1 := Lib.hid hb
    clear hb
    go_wp2_with fail
    refine (C2.out wi D1.out).mono ?_
    rintro e wj ⟨_, rfl, ho, hb⟩
    obtain ⟨P, cp, rfl, _, _, _, hrp, _⟩ := ho.form
    have D2 := Lib.hid (ext D1.out hb)
    have HP := Lib.hid hrp
    rw [← HN2.out]
    clear ho hb hrp
    go_wp2_with fail
    refine (C3.out wj D2.out).mono ?_
    rintro e wk ⟨_, rfl, ho, hb⟩
    obtain ⟨R, cr, rfl, _, _, _, hrr, _⟩ := ho.form
    have D3 := Lib.hid (ext D2.out hb)
    rw [← HN2.out]
    have t1 := run_text wk cp HN2.out (lext HP.out hb)
    have t2 := run_text wk cr HN2.out hrr
    have t3 := run_text wk c2 HN2.out (lext HR2h.out D3.out)
    have hsc := fun w => run_to w F nf cf s (by omega)
    clear ho hb hrr HP
    go_wp2_with fail
    obtain ⟨z, x, hc4⟩ := C4.out wk D3.out
    refine hc4.mono ?_
    rintro e wl ⟨_, rfl, ho, hb⟩
    obtain ⟨Z, cz, rfl, _, _, _, _, _⟩ := ho.form
    have D4 := Lib.hid (ext D3.out hb)
    clear ho hb hc4
    go_wp2
    go_ret
    exact ⟨rfl, ext B8.out D4.out⟩
end Go.Proofs.Ytinoljidephmlaa.Co
