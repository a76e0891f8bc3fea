/- Bytes, as a contract of calls. -/
import Derived.Test.YtloieecpgndbhaaGreatCoN
import Derived.Test.YtloieecpgndbhaaGreatRfB
namespace Go.Proofs.YtloieecpgndbhaaGreat.Co
open Go.RowKit By CoP

set_option maxHeartbeats 400000 in
theorem bytes_out (A : Option Addr) (n c : Nat) (k : Int) (w : World) (hk : k < 0 ∨ (n : Int) < k) :
    Calls Tryz.prog 262 #[.slice A n c, .int .i64 k] w (Gives3 w.heap.size [] 0 1 w) := by
  have HK := Lib.hid hk
  clear hk
  go_enter Tryz.func262, Tryz.ntmps262
  go_wp2_with fail
  refine (num_out A n c k w HK.out).mono ?_
  rintro e w1 ⟨rfl, hb⟩
  go_wp2
  go_ret3
  exact Gives3.of rfl rfl (Own.nil _ _) hb
set_option maxHeartbeats 800000 in
theorem bytes_in (A : Option Addr) (n c k B : Nat) (l : List UInt8) (hn : n = l.length) (hc : n ≤ c) (hk : k ≤ n) (hm : n ≤ 140737488355328) (w : World) (hr : Lies w B A l) (hB : B ≤ w.heap.size) :
    Calls Tryz.prog 262 #[.slice A n c, .int .i64 (k : Int)] w (Gives3 w.heap.size (bytesR (l.drop k)).1 (nextI k (bytesR (l.drop k)).2.1 (bytesR (l.drop k)).2.2) (bytesR (l.drop k)).2.2 w) := by
  have hnum := num_in A n c k B l hn hc hk hm w hr
  have hfac := numR_facts (l.drop k)
  have hbr : bytesR (l.drop k) = bytesR (l.drop k) := rfl
  conv at hbr => rhs; unfold bytesR
  have hdl : (l.drop k).length = n - k := by rw [List.length_drop]; omega
  rw [hdl] at hbr hfac
  generalize numR (l.drop k) = N at hnum hfac hbr
  obtain ⟨v, used, er⟩ := N
  have hnum2 : Calls Tryz.prog 242 #[.slice A n c, .int .i64 (k : Int)] w (GivesN v (nextI k used er) (er : Int) w) := hnum
  simp only at hbr hfac
  have HNUM := Lib.hid hnum2
  have HBR := Lib.hid hbr
  have HN := Lib.hid hn
  have HR := Lib.hid hr
  clear hnum hnum2 hbr hn hr hdl
  by_cases he : er = 0
  · subst he
    obtain ⟨hu, hv⟩ := hfac rfl
    obtain ⟨st, hst⟩ : ∃ st, k + used = st := ⟨_, rfl⟩
    have hst2 : nextI k used 0 = (st : Int) := by rw [nextI_ok]; omega
    obtain ⟨m, hm1⟩ : ∃ m, n = st + m := ⟨n - st, by omega⟩
    obtain ⟨d, hd1⟩ : ∃ d, c = st + d := ⟨c - st, by omega⟩
    have hq := fun w => run_from' w A n c st m d hm1 hd1
    have hmd : m ≤ d := by omega
    have hst47 : (st : Int) ≤ 140737488355328 := by omega
    have hm47 : (m : Int) ≤ 140737488355328 := by omega
    have HV := Lib.hid hv
    have HST := Lib.hid hst
    have HM1 := Lib.hid hm1
    have HD1 := Lib.hid hd1
    have HST2 := Lib.hid hst2
    clear hv hu hst hm1 hd1 hst2 hfac
    go_enter Tryz.func262, Tryz.ntmps262
    go_wp2_with fail
    refine HNUM.out.mono ?_
    rw [HST2.out]
    rintro e w1 ⟨rfl, hb⟩
    have HB := Lib.hid hb
    clear hb
    by_cases hgt : m < v
    · have hgi : (m : Int) < (v : Int) := by omega
      go_wp2
      go_ret3
      rw [HBR.out, if_neg (by simp), if_pos (by have := HM1.out; have := HST.out; omega)]
      exact Gives3.of rfl rfl (Own.nil _ _) HB.out
    · have hgi : ¬ ((m : Int) < (v : Int)) := by omega
      have hqt := fun w => run_to w (cutA A c st) m d v (by omega)
      have hvi : (v : Int) ≤ 140737488355328 := by omega
      have hlies : Lies w B (cutA A c st) (((l.drop k).drop used).take v) := by
        have h := HR.out.cut (c := c) (by have := HN.out; omega) st l.length (by have := HN.out; have := HM1.out; omega) (Nat.le_refl _)
        rw [List.take_length, ← HST.out, ← List.drop_drop] at h
        have := lies_take h v
        rwa [HST.out] at this
      have hlen : v = (((l.drop k).drop used).take v).length := by
        rw [List.length_take, List.length_drop, List.length_drop]
        have := HN.out; have := HM1.out; have := HST.out; omega
      have HLI := Lib.hid hlies
      have HLE := Lib.hid hlen
      clear hlies hlen
      go_wp2_with fail
      refine (clone_any (cutA A c st) v d B (((l.drop k).drop used).take v) HLE.out w1 (HLI.out.below (HB.out.mono hB)) (Nat.le_trans hB HB.out.size) (by have := HLE.out; omega)).mono ?_
      rintro e w2 ⟨v2, rfl, ho2, hb2⟩
      have HO2 := Lib.hid ho2
      have HB2 := Lib.hid hb2
      clear ho2 hb2 HLI HLE
      go_wp2
      go_ret3
      rw [HBR.out, if_neg (by simp), if_neg (by have := HM1.out; have := HST.out; omega)]
      exact Gives3.of (by show _ = nextI k (used + v) 0; rw [nextI_ok]; have := HST.out; omega) rfl (HO2.out.more HB.out.size) (HB.out.trans (HB2.out.mono HB.out.size))
  · have heb : ((er : Int) != 0) = true := by rw [bne_iff_ne]; omega
    have HE := Lib.hid he
    clear he hfac
    go_enter Tryz.func262, Tryz.ntmps262
    go_wp2_with fail
    refine HNUM.out.mono ?_
    rintro e w1 ⟨rfl, hb⟩
    have HB := Lib.hid hb
    clear hb
    go_wp2
    go_ret3
    rw [HBR.out, if_pos (by exact HE.out)]
    exact Gives3.of (by show _ = nextI k 0 er; unfold nextI; rw [if_neg HE.out]) rfl (Own.nil _ _) HB.out
end Go.Proofs.YtloieecpgndbhaaGreat.Co
