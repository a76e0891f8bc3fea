/- The reference's Unframe, as a contract of calls. -/
import Derived.Test.YtinoljidephmlaaCoU
import Derived.IntWalk
namespace Go.Proofs.Ytinoljidephmlaa.Co
open Go.RowKit By CoP

/-- Gives bytes that can be read, a place and an error. -/
def Reads3 (l : List UInt8) (next er : Int) (w : World) (e : Ending) (w' : World) : Prop := ∃ A n c, e = .returned (.tuple #[.slice A n c, .int .i64 next, .int .i64 er]) ∧ n = l.length ∧ Lies w' w'.heap.size A l ∧ Below w.heap.size w w'
theorem Reads3.of {l : List UInt8} {A : Option Addr} {n c : Nat} {next er next' er' : Int} {w w' : World} (h1 : next' = next) (h2 : er' = er) (hn : n = l.length) (h : Lies w' w'.heap.size A l) (hb : Below w.heap.size w w') : Reads3 l next er w (.returned (.tuple #[.slice A n c, .int .i64 next', .int .i64 er'])) w' := ⟨A, n, c, by rw [h1, h2], hn, h, hb⟩
theorem frame_drop8 (d : List UInt8) : (frame d).drop 8 = d := by
  unfold frame
  exact List.drop_left' (by rw [List.length_append, be_length, be_length])
set_option maxHeartbeats 400000 in
theorem run_out (A : Option Addr) (n c : Nat) (k : Int) (w : World) (hk : k < 0 ∨ (n : Int) < k) :
    Calls Try.prog 21 #[.slice A n c, .int .i64 k] w (Reads3 [] 0 1 w) := by
  rcases Int.lt_or_le k 0 with h0 | h0
  · clear hk
    go_enter Try.func21, Try.ntmps21
    go_wp2
    go_ret3
    exact Reads3.of rfl rfl rfl (Lies.empty _ _ _) (Below.refl _ _)
  · have h1 : (n : Int) < k := by omega
    have h2 : ¬ (k < 0) := by omega
    clear hk
    go_enter Try.func21, Try.ntmps21
    go_wp2
    go_ret3
    exact Reads3.of rfl rfl rfl (Lies.empty _ _ _) (Below.refl _ _)
set_option maxRecDepth 100000 in
set_option maxHeartbeats 1600000 in
theorem run_in (A : Option Addr) (n c k B : Nat) (l : List UInt8) (hn : n = l.length) (hc : n ≤ c) (hk : k ≤ n) (hm : n ≤ 140737488355328) (w : World) (hr : Lies w B A l) (hB : B ≤ w.heap.size) :
    Calls Try.prog 21 #[.slice A n c, .int .i64 (k : Int)] w (Reads3 (unR (l.drop k)).1 (nextI k (unR (l.drop k)).2.1 (unR (l.drop k)).2.2) (unR (l.drop k)).2.2 w) := by
  have hk0 : ¬ ((k : Int) < 0) := by omega
  have hkn : ¬ ((n : Int) < (k : Int)) := by omega
  have hb0 : (l.drop k).length = n - k := by rw [List.length_drop]; omega
  by_cases h8 : n - k < 8
  · have HE := Lib.hid (unR_few (b := l.drop k) (by rw [hb0]; exact h8))
    have h8i : (n : Int) - (k : Int) < 8 := by omega
    clear hb0 h8 hr hn
    go_enter Try.func21, Try.ntmps21
    go_wp2
    go_ret3
    rw [HE.out]
    exact Reads3.of rfl rfl rfl (Lies.empty _ _ _) (Below.refl _ _)
  · have h8i : ¬ ((n : Int) - (k : Int) < 8) := by omega
    have h8j : (k : Int) + 8 ≤ (n : Int) := by omega
    obtain ⟨g, o, rfl, hg, hcell⟩ := hr (by omega)
    have hget : ∀ j, (hj : j < n - k) → ∃ hj2 : j < (l.drop k).length, w.cell? ⟨g, o + (k + j), none⟩ = some (.int .u8 (((l.drop k)[j]).toNat : Int)) := by
      intro j hj
      refine ⟨by omega, ?_⟩
      have h := hcell (k + j) (l[k + j]'(by omega)) (List.getElem?_eq_getElem (by omega))
      rw [h]
      unfold bv
      congr 3
      rw [List.getElem_drop]
    have hr8 : ∀ v, 8 + v ≤ n - k → Lies w B (cutA (some ⟨g, o, none⟩) c (k + 8)) (((l.drop k).drop 8).take v) := fun v hv => by
      have h := hr.cut (c := c) (by omega) (k + 8) l.length (by omega) (Nat.le_refl _)
      rw [List.take_length, ← List.drop_drop] at h
      exact lies_take h v
    have HG := Lib.hid hget
    have HR8 := Lib.hid hr8
    have HB0 := Lib.hid hb0
    generalize l.drop k = b at HG HR8 HB0 ⊢
    have hnl : ¬ b.length < 8 := by have := HB0.out; omega
    have HNL := Lib.hid hnl
    clear hget hr8 hb0 hnl hr hn hcell
    have hv4 : val (b.take 4) < 4294967296 := by
      have h := val_lt (b.take 4)
      have h4 : (b.take 4).length = 4 := by rw [List.length_take]; have := HB0.out; omega
      rw [h4] at h
      simpa using h
    have HV4 := Lib.hid hv4
    clear hv4
    go_enter Try.func21, Try.ntmps21
    go_wp2
    go_loop [7, 8] (fun y i => ∃ (j : Nat), j ≤ 4 ∧ i = .int .i64 (j : Int) ∧ y = .int .i64 (val (b.take j) : Nat)) (fun _ i => 4 - (intOf i).toNat)
    case atStart => exact ⟨0, by omega, rfl, rfl⟩
    case round =>
      obtain ⟨j, hj, rfl, rfl⟩ := hrel
      by_cases hj4 : j < 4
      · obtain ⟨hj2, hc2⟩ := HG.out j (by omega)
        have hv := val_lt (b.take j)
        have hlen : (b.take j).length = j := by rw [List.length_take]; omega
        have hs2 := val_take hj2
        have z255 : b[j].toNat < 256 := b[j].toNat_lt
        generalize b[j].toNat = z at hc2 hs2 z255
        obtain ⟨v, hv2⟩ : ∃ v, val (b.take j) = v := ⟨_, rfl⟩
        rw [hv2, hlen] at hv
        rw [hv2] at hs2 ⊢
        have hvb : v < 16777216 := by
          have h7 : 256 ^ j ≤ 256 ^ 3 := Nat.pow_le_pow_right (by omega) (by omega)
          have h72 : (256 : Nat) ^ 3 = 16777216 := by decide
          omega
        have HV := Lib.hid (show (v : Int) * 256 + (z : Int) = ((val (b.take (j + 1)) : Nat) : Int) by rw [hs2]; omega)
        have z0 : (0 : Int) ≤ (z : Int) := by omega
        have z1 : (z : Int) ≤ 255 := by omega
        clear hs2 hv hv2 hlen z255 hj2
        go_wp2
        go_round
        case rel => exact ⟨j + 1, by omega, by go_num, by rw [HV.out]⟩
        case measure => simp [intOf]; omega
      · obtain rfl : j = 4 := by omega
        have hv4 := HV4.out
        obtain ⟨v, hv⟩ : ∃ v, val (b.take 4) = v := ⟨_, rfl⟩
        rw [hv] at hv4 ⊢
        have HV := Lib.hid hv
        clear hv HV4
        by_cases hL : 65536 < v
        · have HE := Lib.hid (unR_large HNL.out (by rw [HV.out]; exact hL))
          have hLi : (65536 : Int) < (v : Int) := by omega
          go_wp2
          go_ret3
          rw [HE.out]
          exact Reads3.of rfl rfl rfl (Lies.empty _ _ _) (Below.refl _ _)
        · have hLi : ¬ ((65536 : Int) < (v : Int)) := by omega
          by_cases hS : n - k - 8 < v
          · have HE := Lib.hid (unR_less HNL.out (by rw [HV.out]; exact hL) (by rw [HV.out, HB0.out]; exact hS))
            have hSi : (n : Int) - (k : Int) - 8 < (v : Int) := by omega
            go_wp2
            go_ret3
            rw [HE.out]
            exact Reads3.of rfl rfl rfl (Lies.empty _ _ _) (Below.refl _ _)
          · have hSi : ¬ ((n : Int) - (k : Int) - 8 < (v : Int)) := by omega
            have q5 : ∀ w, (Instr.slice 22 (.slice (some ⟨g, o, none⟩) n c) (some (.int .i64 ((k : Int) + 8))) (some (.int .i64 ((k : Int) + 8 + (v : Int)))) none).run Try.prog w = .ok (.slice (cutA (some ⟨g, o, none⟩) c (k + 8)) v (c - (k + 8))) w := fun w => by
              have h := run_cut w (some ⟨g, o, none⟩) n c (k + 8) (k + 8 + v) (by omega) (by omega)
              rw [show k + 8 + v - (k + 8) = v by omega] at h
              rwa [show ((k + 8 : Nat) : Int) = (k : Int) + 8 by omega, show ((k + 8 + v : Nat) : Int) = (k : Int) + 8 + (v : Int) by omega] at h
            have hvd : v = ((b.drop 8).take v).length := by rw [List.length_take, List.length_drop, HB0.out]; omega
            have HVD := Lib.hid hvd
            have HLD := Lib.hid (HR8.out v (by omega))
            clear hvd HR8
            go_wp2_with fail
            refine (rframe_ok _ v _ B ((b.drop 8).take v) HVD.out (by omega) w HLD.out hB).mono ?_
            rintro e w2 ⟨v2, rfl, ho2, hb2⟩
            have HFour := Lib.hid (four_iff b (by have := HNL.out; omega) ((b.drop 8).take v) (by rw [HV.out]; exact HVD.out.symm))
            have hfl : (frame ((b.drop 8).take v)).length = v + 8 := by rw [frame_length, ← HVD.out]
            have HFD := Lib.hid (frame_drop8 ((b.drop 8).take v))
            generalize frame ((b.drop 8).take v) = fr at ho2 hfl HFour HFD
            obtain ⟨A2, c2, rfl, hc2, _, _, hr2, _⟩ := ho2.form
            obtain ⟨g2, o2, rfl, hg2, hcell2⟩ := hr2 (by omega)
            rw [hfl] at hc2 ⊢
            have HCELL2 := Lib.hid hcell2
            have HR2 := Lib.hid hr2
            have HO2 := Lib.hid ho2
            have HB2 := Lib.hid hb2
            have HFL := Lib.hid hfl
            clear hcell2 hr2 ho2 hb2 hfl
            go_wp2
            go_loopw [11] (fun i wr => ∃ (j : Nat), j ≤ 8 ∧ i = .int .i64 (j : Int) ∧ fr.take j = b.take j ∧ Below w2.heap.size w2 wr) (fun i _ => 8 - (intOf i).toNat)
            case atStart => exact ⟨0, by omega, rfl, rfl, Below.refl _ _⟩
            case round =>
              obtain ⟨j, hj, rfl, hpre, hbw⟩ := hrel
              have HBW := Lib.hid hbw
              have HPRE := Lib.hid hpre
              clear hbw hpre
              by_cases hj8 : j < 8
              · have hjf : j < fr.length := by have := HFL.out; omega
                have hjb : j < b.length := by have := HNL.out; omega
                have c1 : wr.cell? ⟨g2, o2 + j, none⟩ = some (.int .u8 (fr[j].toNat : Int)) := (HBW.out.cell (p := ⟨g2, o2 + j, none⟩) hg2).trans (HCELL2.out j _ (List.getElem?_eq_getElem hjf))
                have c2' : wr.cell? ⟨g, o + (k + j), none⟩ = some (.int .u8 (b[j].toNat : Int)) := by
                  obtain ⟨_, h⟩ := HG.out j (by omega)
                  have hlt : g < w.heap.size := by omega
                  have h1 := (HB2.out.cell (p := ⟨g, o + (k + j), none⟩) hlt)
                  have h2 := (HBW.out.cell (p := ⟨g, o + (k + j), none⟩) (Nat.lt_of_lt_of_le hlt HB2.out.size))
                  rw [h2, h1, h]
                have HT1 := Lib.hid (List.take_succ_eq_append_getElem hjf)
                have HT2 := Lib.hid (List.take_succ_eq_append_getElem hjb)
                have s1 : IntKind.i64.wrap ((k : Int) + (j : Int)) = (k : Int) + (j : Int) := IntWalk.i64_in _ (by omega)
                have s2 : (0 : Int) ≤ (k : Int) + (j : Int) := by omega
                have s3 : ((k : Int) + (j : Int)).toNat = k + j := by omega
                have s4 : (k : Int) + (j : Int) < (n : Int) := by omega
                have s5 : (j : Int) < ((v + 8 : Nat) : Int) := by omega
                by_cases hxy : fr[j] = b[j]
                · have HN := Lib.hid (show fr.take (j + 1) = b.take (j + 1) by rw [HT1.out, HT2.out, HPRE.out, hxy])
                  have hbn : ((fr[j].toNat : Int) != (b[j].toNat : Int)) = false := by rw [hxy]; simp
                  generalize (fr[j].toNat : Int) = x at c1 hbn
                  generalize (b[j].toNat : Int) = y at c2' hbn
                  clear HT1 HT2 hxy hjf hjb
                  go_wp2
                  go_quiet (fail)
                  go_wp2
                  go_roundw
                  case rel => exact ⟨j + 1, by omega, by go_num, HN.out, below_drewN HBW.out _⟩
                  case measure => simp [intOf]; omega
                · have hbad : crc (b.take 4 ++ (b.drop 8).take v) ≠ val ((b.drop 4).take 4) := by
                    intro h
                    have h8 := HFour.out.2 h
                    refine hxy ?_
                    have e1 : fr[j]? = b[j]? := by
                      have e := congrArg (fun l => l[j]?) h8
                      simp only [List.getElem?_take] at e
                      rwa [if_pos hj8, if_pos hj8] at e
                    rw [List.getElem?_eq_getElem hjf, List.getElem?_eq_getElem hjb] at e1
                    injection e1
                  have HE := Lib.hid (unR_bad HNL.out (by rw [HV.out]; exact hL) (by rw [HV.out, HB0.out]; exact hS) (by rw [HV.out]; exact hbad))
                  have hbn : ((fr[j].toNat : Int) != (b[j].toNat : Int)) = true := by
                    rw [bne_iff_ne]
                    intro h
                    exact hxy (UInt8.toNat_inj.1 (by omega))
                  generalize (fr[j].toNat : Int) = x at c1 hbn
                  generalize (b[j].toNat : Int) = y at c2' hbn
                  clear HT1 HT2 hxy hjf hjb hbad
                  go_wp2
                  go_quiet (fail)
                  go_wp2
                  go_ret3
                  rw [HE.out]
                  exact Reads3.of rfl rfl rfl (Lies.empty _ _ _) (HB2.out.trans ((below_drewN HBW.out _).mono HB2.out.size))
              · obtain rfl : j = 8 := by omega
                have hgood := HFour.out.1 HPRE.out
                have HE := Lib.hid (unR_good HNL.out (by rw [HV.out]; exact hL) (by rw [HV.out, HB0.out]; exact hS) (by rw [HV.out]; exact hgood))
                obtain ⟨d2, hd2⟩ : ∃ d2, c2 = 8 + d2 := ⟨c2 - 8, by omega⟩
                have q9 : ∀ w, (Instr.slice 22 (.slice (some ⟨g2, o2, none⟩) (v + 8) c2) (some (.int .i64 8)) none none).run Try.prog w = .ok (.slice (cutA (some ⟨g2, o2, none⟩) c2 8) v d2) w := fun w => run_from' w _ (v + 8) c2 8 v d2 (by omega) hd2
                have hlr : Lies w2 w2.heap.size (cutA (some ⟨g2, o2, none⟩) c2 8) ((b.drop 8).take v) := by
                  have h := HR2.out.cut (c := c2) (by have := HFL.out; omega) 8 fr.length (by have := HFL.out; omega) (Nat.le_refl _)
                  rw [List.take_length] at h
                  rwa [HFD.out] at h
                have HLR := Lib.hid hlr
                clear hgood hd2 hlr
                go_wp2
                go_ret3
                rw [HE.out, HV.out]
                exact Reads3.of (by show _ = nextI k (8 + v) 0; rw [nextI_ok]; omega) rfl HVD.out ((HLR.out.below HBW.out).more HBW.out.size) (HB2.out.trans (HBW.out.mono HB2.out.size))
end Go.Proofs.Ytinoljidephmlaa.Co
