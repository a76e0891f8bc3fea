/- Unframe and its reference's, as contracts of calls. -/
import Derived.Test.YtnjifhbooikdbaaGreatDoorGE
import Derived.Test.YtnjifhbooikdbaaGreatDoorCoF
namespace Go.Proofs.YtnjifhbooikdbaaGreatDoor.Co
open Go.RowKit By CoP

set_option maxHeartbeats 400000 in
theorem un_out (A : Option Addr) (n c : Nat) (k : Int) (w : World) (hk : k < 0 ∨ (n : Int) < k) :
    Calls Tryz.prog 30 #[.slice A n c, .int .i64 k] w (Gives3 w.heap.size [] 0 1 w) := by
  have HK := Lib.hid hk
  clear hk
  go_enter Tryz.func30, Tryz.ntmps30
  go_wp2_with fail
  refine (from_out A n c k w HK.out).mono ?_
  rintro e w1 ⟨rfl, rfl⟩
  go_wp2
  go_ret3
  exact Gives3.of rfl rfl (Own.nil _ _) (Below.refl _ _)
theorem unR_few {b : List UInt8} (h : b.length < 8) : unR b = ([], 0, 5) := by unfold unR; rw [if_pos h]
theorem unR_large {b : List UInt8} (h : ¬ b.length < 8) (h1 : 65536 < val (b.take 4)) : unR b = ([], 0, 7) := by unfold unR; rw [if_neg h, if_pos h1]
theorem unR_less {b : List UInt8} (h : ¬ b.length < 8) (h1 : ¬ 65536 < val (b.take 4)) (h2 : b.length - 8 < val (b.take 4)) : unR b = ([], 0, 5) := by unfold unR; rw [if_neg h, if_neg h1, if_pos h2]
theorem unR_bad {b : List UInt8} (h : ¬ b.length < 8) (h1 : ¬ 65536 < val (b.take 4)) (h2 : ¬ b.length - 8 < val (b.take 4)) (h3 : crc (b.take 4 ++ (b.drop 8).take (val (b.take 4))) ≠ val ((b.drop 4).take 4)) : unR b = ([], 0, 6) := by
  unfold unR; rw [if_neg h, if_neg h1, if_neg h2, if_pos h3]
theorem unR_good {b : List UInt8} (h : ¬ b.length < 8) (h1 : ¬ 65536 < val (b.take 4)) (h2 : ¬ b.length - 8 < val (b.take 4)) (h3 : crc (b.take 4 ++ (b.drop 8).take (val (b.take 4))) = val ((b.drop 4).take 4)) :
    unR b = ((b.drop 8).take (val (b.take 4)), 8 + val (b.take 4), 0) := by unfold unR; rw [if_neg h, if_neg h1, if_neg h2, if_neg (fun h => h h3)]

set_option maxRecDepth 100000 in
set_option maxHeartbeats 1600000 in
theorem un_in (A : Option Addr) (n c k B : Nat) (l : List UInt8) (hn : n = l.length) (hc : n ≤ c) (hk : k ≤ n) (hm : n ≤ 140737488355328) (w : World) (hr : Lies w B A l) (hB : B ≤ w.heap.size) :
    Calls Tryz.prog 30 #[.slice A n c, .int .i64 (k : Int)] w (Gives3 w.heap.size (unR (l.drop k)).1 (nextI k (unR (l.drop k)).2.1 (unR (l.drop k)).2.2) (unR (l.drop k)).2.2 w) := by
  obtain ⟨m, hm1⟩ : ∃ m, n = k + m := ⟨n - k, by omega⟩
  obtain ⟨d, hd1⟩ : ∃ d, c = k + d := ⟨c - k, by omega⟩
  have hmd : m ≤ d := by omega
  have hr0 : Lies w B (cutA A c k) (l.drop k) := by
    have h := hr.cut (c := c) (by omega) k l.length (by omega) (Nat.le_refl _)
    rwa [List.take_length] at h
  have hb0 : m = (l.drop k).length := by rw [List.length_drop]; omega
  have hf := from_at A n c k m d hm1 hd1 w
  have hk47 : (k : Int) ≤ 140737488355328 := by omega
  have hm47 : (m : Int) ≤ 140737488355328 := by omega
  generalize l.drop k = b at hr0 hb0 ⊢
  generalize cutA A c k = R at hr0 hf
  have HF := Lib.hid hf
  have HR := Lib.hid hr0
  have HM := Lib.hid hb0
  clear hf hr0 hb0 hm1 hd1 hn hr hk hc
  by_cases h8 : m < 8
  · have HE := Lib.hid (unR_few (b := b) (by have := HM.out; omega))
    go_enter Tryz.func30, Tryz.ntmps30
    go_wp2_with fail
    refine HF.out.mono ?_
    rintro e w1 ⟨rfl, rfl⟩
    go_wp2
    go_ret3
    rw [HE.out]
    exact Gives3.of rfl rfl (Own.nil _ _) (Below.refl _ _)
  · obtain ⟨m8, hm8⟩ : ∃ m8, m = 8 + m8 := ⟨m - 8, by omega⟩
    obtain ⟨d8, hd8⟩ : ∃ d8, d = 8 + d8 := ⟨d - 8, by omega⟩
    obtain ⟨d4, hd4⟩ : ∃ d4, d = 4 + d4 := ⟨d - 4, by omega⟩
    have q1 : ∀ w, (Instr.slice 32 (.slice R m d) none (some (.int .i64 4)) none).run Tryz.prog w = .ok (.slice R 4 d) w := fun w => run_to w R m d 4 (by omega)
    have q2 : ∀ w, (Instr.slice 32 (.slice R m d) (some (.int .i64 4)) (some (.int .i64 8)) none).run Tryz.prog w = .ok (.slice (cutA R d 4) 4 d4) w := fun w => by
      have h := run_cut w R m d 4 8 (by omega) (by omega)
      rwa [show d - 4 = d4 by omega] at h
    have q3 : ∀ w, (Instr.slice 32 (.slice R m d) (some (.int .i64 8)) none none).run Tryz.prog w = .ok (.slice (cutA R d 8) m8 d8) w := fun w => run_from' w R m d 8 m8 d8 hm8 hd8
    have l1 := Lib.hid (lies_take HR.out 4)
    have l2 : Lies w B (cutA R d 4) ((b.drop 4).take 4) := by
      have h := HR.out.cut (c := d) (by have := HM.out; omega) 4 8 (by omega) (by have := HM.out; omega)
      rwa [List.drop_take] at h
    have l3 : Lies w B (cutA R d 8) (b.drop 8) := by
      have h := HR.out.cut (c := d) (by have := HM.out; omega) 8 b.length (by have := HM.out; omega) (Nat.le_refl _)
      rwa [List.take_length] at h
    have HL2 := Lib.hid l2
    have HL3 := Lib.hid l3
    have hm8i : (m8 : Int) ≤ 140737488355328 := by omega
    have hd8m : m8 ≤ d8 := by omega
    have hnl : ¬ b.length < 8 := by have := HM.out; omega
    have HNL := Lib.hid hnl
    have HM8 := Lib.hid (show b.length - 8 = m8 by have := HM.out; omega)
    have hv4 : val (b.take 4) < 4294967296 := by
      have h := val_lt (b.take 4)
      have h4 : (b.take 4).length = 4 := by rw [List.length_take]; have := HM.out; omega
      rw [h4] at h
      simpa using h
    have HT4 := Lib.hid (show 4 = (b.take 4).length by rw [List.length_take]; have := HM.out; omega)
    have HT5 := Lib.hid (show 4 = ((b.drop 4).take 4).length by rw [List.length_take, List.length_drop]; have := HM.out; omega)
    clear l2 l3 hnl hm8 hd8 hd4
    generalize cutA R d 4 = R4 at q2 HL2
    generalize cutA R d 8 = R8 at q3 HL3
    have hm8' : (8 : Int) ≤ (m : Int) := by omega
    go_enter Tryz.func30, Tryz.ntmps30
    go_wp2_with fail
    refine HF.out.mono ?_
    rintro e w1 ⟨rfl, rfl⟩
    go_wp2
    go_quiet (fail)
    go_wp2_with fail
    refine (join_any R 4 d B (b.take 4) HT4.out (by have := HT4.out; omega) _ (l1.out.drewN _)).mono ?_
    rintro e w2 ⟨rfl, rfl⟩
    obtain ⟨v, hv⟩ : ∃ v, val (b.take 4) = v := ⟨_, rfl⟩
    rw [hv] at hv4 ⊢
    have HV := Lib.hid hv
    clear hv
    by_cases hL : 65536 < v
    · have HE := Lib.hid (unR_large HNL.out (by rw [HV.out]; exact hL))
      have hLi : (65536 : Int) < (v : Int) := by omega
      go_wp2
      go_ret3
      rw [HE.out]
      exact Gives3.of rfl rfl (Own.nil _ _) (below_drewN (Below.refl _ _) _)
    · have hLi : ¬ ((65536 : Int) < (v : Int)) := by omega
      by_cases hS : m8 < v
      · have HE := Lib.hid (unR_less HNL.out (by rw [HV.out]; exact hL) (by rw [HV.out, HM8.out]; exact hS))
        have hSi : (m8 : Int) < (v : Int) := by omega
        go_wp2
        go_ret3
        rw [HE.out]
        exact Gives3.of rfl rfl (Own.nil _ _) (below_drewN (Below.refl _ _) _)
      · have hSi : ¬ ((m8 : Int) < (v : Int)) := by omega
        have q5 := fun w => run_to w R8 m8 d8 v (by omega)
        have hvd : v = ((b.drop 8).take v).length := by rw [List.length_take, List.length_drop, HM8.out]; omega
        have HVD := Lib.hid hvd
        clear hvd
        have hls : ∀ q, LiesL ((w.drewN q).alloc (.cells #[.slice R 4 d, .slice R8 v d8] 32)) (w.heap.size + 1) (some ⟨w.heap.size, 0, none⟩) [b.take 4, (b.drop 8).take v] := fun q =>
          LiesL.two (w := w.drewN q) d d8 HT4.out HVD.out (l1.out.drewN q) ((lies_take HL3.out v).drewN q) hB
        have HLS := Lib.hid hls
        have hlim : ∀ l ∈ [b.take 4, (b.drop 8).take v], l.length ≤ 140737488355328 := by
          intro l hl
          have h1 := HT4.out
          have h2 := HVD.out
          simp at hl
          rcases hl with rfl | rfl <;> omega
        have HLIM := Lib.hid hlim
        have HFL := Lib.hid (show [b.take 4, (b.drop 8).take v].flatten = b.take 4 ++ (b.drop 8).take v by simp)
        clear hls hlim
        go_wp2_with fail
        refine (sum_any _ 2 2 _ [b.take 4, (b.drop 8).take v] rfl (by omega) HLIM.out _ (HLS.out _)).mono ?_
        rintro e w2 ⟨rfl, rfl⟩
        have hcl := crc_lt [b.take 4, (b.drop 8).take v].flatten
        have HC := Lib.hid (show crc [b.take 4, (b.drop 8).take v].flatten = crc (b.take 4 ++ (b.drop 8).take v) by rw [HFL.out])
        generalize crc [b.take 4, (b.drop 8).take v].flatten = s at HC hcl ⊢
        have hs0 : (s : Int) ≤ 4294967295 := by omega
        clear HLS HLIM HFL hcl
        go_wp2_with fail
        refine (join_any R4 4 d4 B ((b.drop 4).take 4) HT5.out (by have := HT5.out; omega) _ ((HL2.out.drewN _).alloc hB _)).mono ?_
        rintro e w2 ⟨rfl, rfl⟩
        obtain ⟨z, hz⟩ : ∃ z, val ((b.drop 4).take 4) = z := ⟨_, rfl⟩
        rw [hz]
        have HZ := Lib.hid hz
        clear hz
        have hbw : ∀ q o, Below w.heap.size w ((w.drewN q).alloc o) := fun q o => (below_drewN (Below.refl _ _) q).alloc (Nat.le_refl _) o
        have HBW := Lib.hid hbw
        clear hbw
        by_cases hsz : s = z
        · have hbz : ((s : Int) != (z : Int)) = false := by rw [bne_eq_false_iff_eq]; omega
          have HE := Lib.hid (unR_good HNL.out (by rw [HV.out]; exact hL) (by rw [HV.out, HM8.out]; exact hS) (by rw [HV.out, ← HC.out, HZ.out]; exact hsz))
          clear hsz
          go_wp2_with fail
          refine (clone_any R8 v d8 B ((b.drop 8).take v) HVD.out _ (((lies_take HL3.out v).drewN _).alloc hB _) (by rw [World.size_alloc]; exact Nat.le_succ_of_le hB) (by have := HVD.out; omega)).mono ?_
          rintro e w2 ⟨v2, rfl, ho2, hb2⟩
          rw [World.size_alloc] at ho2 hb2
          have HO2 := Lib.hid ho2
          have HB2 := Lib.hid ((HBW.out _ _).trans (hb2.mono (Nat.le_succ _)))
          clear ho2 hb2
          go_wp2
          go_ret3
          rw [HE.out, HV.out]
          exact Gives3.of (by show _ = nextI k (8 + v) 0; rw [nextI_ok]; omega) rfl (HO2.out.more (Nat.le_succ _)) HB2.out
        · have hbz : ((s : Int) != (z : Int)) = true := by rw [bne_iff_ne]; omega
          have HE := Lib.hid (unR_bad HNL.out (by rw [HV.out]; exact hL) (by rw [HV.out, HM8.out]; exact hS) (by rw [HV.out, ← HC.out, HZ.out]; exact hsz))
          clear hsz
          go_wp2
          go_ret3
          rw [HE.out]
          exact Gives3.of rfl rfl (Own.nil _ _) (HBW.out _ _)
end Go.Proofs.YtnjifhbooikdbaaGreatDoor.Co
