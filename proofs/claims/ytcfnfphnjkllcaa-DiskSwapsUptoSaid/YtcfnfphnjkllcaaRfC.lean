/- The reference's find, Size, Named, burns, as contracts of calls. -/
import Derived.Test.YtcfnfphnjkllcaaRfB
namespace Go.Proofs.Ytcfnfphnjkllcaa.Dk
open Go.RowKit Go.Maps By Mp

theorem find_cut {nm : Bs} : ∀ {F : Fs} {k : Nat} {x : Bs × Bs}, Up F → F[k]? = some x → (∀ p ∈ F.take k, blt p.1 nm = true) → blt x.1 nm = false → fidx F nm = k ∧ fthere F nm = (x.1 == nm)
  | [], _, _, _, h, _, _ => by simp at h
  | p :: r, 0, x, hup, h, _, hx => by
    simp only [List.getElem?_cons_zero, Option.some.injEq] at h
    subst h
    obtain ⟨h1, h2⟩ := List.pairwise_cons.1 hup
    refine ⟨by rw [fidx_cons, if_neg (by simp [hx])], ?_⟩
    unfold fthere
    rw [fget_cons]
    by_cases hn : p.1 = nm
    · rw [if_pos hn, beq_iff_eq.2 hn]; rfl
    · rw [if_neg hn, beq_eq_false_iff_ne.2 hn, fget_behind h1 hx]; rfl
  | p :: r, k + 1, x, hup, h, hall, hx => by
    obtain ⟨h1, h2⟩ := List.pairwise_cons.1 hup
    have hp : blt p.1 nm = true := hall p (by simp)
    have ih := find_cut (nm := nm) h2 (by simpa using h) (fun q hq => hall q (by simp [hq])) hx
    refine ⟨by rw [fidx_cons, if_pos hp, ih.1], ?_⟩
    have ih2 := ih.2
    unfold fthere at ih2 ⊢
    rw [fget_cons, if_neg (blt_ne hp)]
    exact ih2
theorem find_end {nm : Bs} : ∀ {F : Fs}, (∀ p ∈ F, blt p.1 nm = true) → fidx F nm = F.length ∧ fthere F nm = false
  | [], _ => ⟨rfl, rfl⟩
  | p :: r, hall => by
    have hp : blt p.1 nm = true := hall p (by simp)
    have ih := find_end (F := r) (nm := nm) (fun q hq => hall q (by simp [hq]))
    refine ⟨by rw [fidx_cons, if_pos hp, ih.1]; rfl, ?_⟩
    have ih2 := ih.2
    unfold fthere at ih2 ⊢
    rw [fget_cons, if_neg (blt_ne hp)]
    exact ih2
theorem run_geqS (w : World) (a b : Bs) : (binOp .geq tStr (.string (str a)) (.string (str b))).run Try.prog w = .ok (.bool (!blt a b)) w := by
  show Result.ok (Value.bool (!Op.bytesLess (str a).toList (str b).toList)) w = _
  rw [str_toList, str_toList, blt_less]
theorem run_eqlS (w : World) (a b : Bs) : (binOp .eql tStr (.string (str a)) (.string (str b))).run Try.prog w = .ok (.bool (a == b)) w := by
  simp [go_sem, str_toList]
set_option maxHeartbeats 1000000 in
theorem find_any (v0 : Value) (base : Nat) (S : Nat → Prop) (F : Fs) (nm : Bs) (w : World) (h : RfAt w base S v0 F) (hup : Up F) :
    Calls Try.prog 54 #[v0, .string (str nm)] w (RetB (.tuple #[.int .i64 (fidx F nm : Nat), .bool (fthere F nm)]) w) := by
  obtain ⟨A, c, rfl, hc, hm, hub⟩ := h.form
  unfold maxLen at hm
  have H := Lib.hid h
  have HUP := Lib.hid hup
  clear h hub hup
  go_enter Try.func54, Try.ntmps54
  go_wp2
  go_loop [6] (fun i => ∃ k : Nat, k ≤ F.length ∧ i = .int .i64 (k : Int) ∧ ∀ p ∈ F.take k, blt p.1 nm = true) (fun i => F.length - (intOf i).toNat)
  case atStart => exact ⟨0, Nat.zero_le _, rfl, by simp⟩
  case round =>
    obtain ⟨k, hk, rfl, hall⟩ := hrel
    have HALL := Lib.hid hall
    clear hall
    by_cases hlt : k < F.length
    · obtain ⟨ub, cap, A1, c1, e0, _, hub, hd1, hd2, hx0, hx1⟩ := H.out.at_ hlt
      obtain ⟨x, hx⟩ : ∃ x, x = F[k] := ⟨_, rfl⟩
      rw [← hx] at hd1 hd2 hx0 hx1
      simp only [Value.slice.injEq, true_and] at e0
      obtain ⟨rfl, rfl⟩ := e0
      have HX := Lib.hid (show F[k]? = some x by rw [hx]; exact List.getElem?_eq_getElem hlt)
      clear hx hd1 hd2 hx1
      cases hb : blt x.1 nm with
      | true =>
        have hge := fun w' => (show (binOp .geq tStr (.string (str x.1)) (.string (str nm))).run Try.prog w' = .ok (.bool false) w' from by rw [run_geqS, hb]; rfl)
        have HN := Lib.hid (show ∀ p ∈ F.take (k + 1), blt p.1 nm = true from fun p hp => by
          rw [List.take_succ_eq_append_getElem hlt] at hp
          rcases List.mem_append.1 hp with hp | hp
          · exact HALL.out p hp
          · have h2 := HX.out
            rw [List.getElem?_eq_getElem hlt] at h2
            injection h2 with h2
            simp only [List.mem_singleton] at hp
            rw [hp, h2]
            exact hb)
        clear hb
        go_wp2
        go_round
        case rel => exact ⟨k + 1, by omega, by go_num, HN.out⟩
        case measure => simp [intOf]; omega
      | false =>
        have hge := fun w' => (show (binOp .geq tStr (.string (str x.1)) (.string (str nm))).run Try.prog w' = .ok (.bool true) w' from by rw [run_geqS, hb]; rfl)
        have HF := Lib.hid (find_cut HUP.out HX.out HALL.out hb)
        clear hb
        go_wp2
        go_quiet (fail)
        go_wp2
        go_ret2
        refine ⟨?_, belowDrewN (Below.refl _ _) _⟩
        show Ending.returned (.tuple #[.int .i64 (k : Nat), .bool ((str x.1).toList == (str nm).toList)]) = .returned (.tuple #[.int .i64 (fidx F nm : Nat), .bool (fthere F nm)])
        rw [HF.out.1, HF.out.2, str_toList, str_toList]
    · have hke : k = F.length := by omega
      have HF := Lib.hid (find_end (F := F) (nm := nm) (by have := HALL.out; rw [hke, List.take_length] at this; exact this))
      clear hke
      go_wp2
      go_ret2
      refine ⟨?_, Below.refl _ _⟩
      show Ending.returned (.tuple #[.int .i64 (F.length : Nat), .bool false]) = .returned (.tuple #[.int .i64 (fidx F nm : Nat), .bool (fthere F nm)])
      rw [HF.out.1, HF.out.2]
theorem fsize_app (F G : Fs) : fsize (F ++ G) = fsize F + fsize G := by simp [fsize]
theorem fsize_take {F : Fs} {k : Nat} (h : k < F.length) : fsize (F.take (k + 1)) = fsize (F.take k) + F[k].2.length := by
  rw [List.take_succ_eq_append_getElem h, fsize_app, fsize_cons]
  rfl
theorem fsize_max {F : Fs} {B : Nat} (h : ∀ p ∈ F, p.2.length ≤ B) : fsize F ≤ F.length * B := by
  induction F with
  | nil => simp [fsize]
  | cons p r ih =>
    have h1 := h p (by simp)
    have h2 := ih (fun q hq => h q (by simp [hq]))
    rw [fsize_cons, List.length_cons, Nat.succ_mul]
    omega
set_option maxHeartbeats 1000000 in
theorem size_any (v0 : Value) (base : Nat) (S : Nat → Prop) (F : Fs) (w : World) (h : RfAt w base S v0 F) (hz : fsize F ≤ 9223372036854775807) :
    Calls Try.prog 30 #[v0] w (Ret (.int .i64 (fsize F : Nat)) w) := by
  obtain ⟨A, c, rfl, hc, hm, hub⟩ := h.form
  unfold maxLen at hm
  have H := Lib.hid h
  clear h hub
  go_enter Try.func30, Try.ntmps30
  go_wp2
  go_loop [3, 4] (fun n i => ∃ k : Nat, k ≤ F.length ∧ i = .int .i64 (k : Int) ∧ n = .int .i64 (fsize (F.take k) : Nat)) (fun _ i => F.length - (intOf i).toNat)
  case atStart => exact ⟨0, Nat.zero_le _, rfl, rfl⟩
  case round =>
    obtain ⟨k, hk, rfl, rfl⟩ := hrel
    by_cases hlt : k < F.length
    · obtain ⟨ub, cap, A1, c1, e0, _, hub, hd1, hd2, hx0, hx1⟩ := H.out.at_ hlt
      have HT := Lib.hid (fsize_take hlt)
      have hle : fsize (F.take k) + F[k].2.length ≤ fsize F := by
        rw [← HT.out]
        have : fsize F = fsize (F.take (k + 1)) + fsize (F.drop (k + 1)) := by
          rw [← fsize_app, List.take_append_drop]
        omega
      obtain ⟨x, hx⟩ : ∃ x, x = F[k].2.length := ⟨_, rfl⟩
      obtain ⟨z, hzz⟩ : ∃ z, z = fsize (F.take k) := ⟨_, rfl⟩
      rw [← hx] at hx1 HT
      rw [← hzz] at HT
      rw [← hx, ← hzz] at hle
      rw [← hzz]
      simp only [Value.slice.injEq, true_and] at e0
      obtain ⟨rfl, rfl⟩ := e0
      have HX := Lib.hid hx
      have HZ := Lib.hid hzz
      clear hx hzz hx0 hd1 hd2
      go_wp2
      go_round
      case rel => exact ⟨k + 1, by omega, by go_num, by rw [HT.out]; go_num⟩
      case measure => simp [intOf]; omega
    · have hke : k = F.length := by omega
      have HKE := Lib.hid hke
      clear hke
      go_wp2
      go_ret
      refine ⟨?_, rfl⟩
      show Ending.returned (.int .i64 (fsize (F.take k) : Nat)) = .returned (.int .i64 (fsize F : Nat))
      rw [HKE.out, List.take_length]
set_option maxHeartbeats 1000000 in
theorem rnamed_any (nm : Bs) (w : World) (hm : nm.length ≤ 9223372036854775806) : Calls Try.prog 53 #[.string (str nm)] w (Ret (.bool (named nm)) w) := by
  have hsz : (str nm).size = nm.length := str_size nm
  go_enter Try.func53, Try.ntmps53
  go_wp2
  go_loop [3] (fun i => ∃ k : Nat, k ≤ nm.length ∧ i = .int .i64 (k : Int) ∧ (nm.take k).all nameC = true) (fun i => nm.length - (intOf i).toNat)
  case atStart => exact ⟨0, Nat.zero_le _, rfl, by simp⟩
  case round =>
    obtain ⟨k, hk, rfl, hall⟩ := hrel
    have HALL := Lib.hid hall
    clear hall
    by_cases hlt : k < nm.length
    · have hix := fun w' => run_index w' nm k hlt
      obtain ⟨cc, hcc⟩ : ∃ cc, cc = nm[k] := ⟨_, rfl⟩
      rw [← hcc] at hix
      have HCC := Lib.hid hcc
      clear hcc
      have hc0 : (0 : Int) ≤ (cc.toNat : Int) := by omega
      have hc1 : (cc.toNat : Int) ≤ 255 := byte_hi cc
      have yes : nameC cc = true → Hid ((nm.take (k + 1)).all nameC = true) := fun h => Lib.hid (all_take_snoc hlt HALL.out (by rw [← HCC.out]; exact h))
      have no : nameC cc = false → Hid (named nm = false) := fun h => Lib.hid (by rw [named_eq, all_false hlt (by rw [← HCC.out]; exact h), Bool.and_false])
      have f0 : (cc.toNat : Int) ≠ 46 → ((cc.toNat : Int) == 46) = false := fun h => by simpa using h
      have hcases : (cc.toNat : Int) = 46 ∨ ((cc.toNat : Int) ≠ 46 ∧ (cc.toNat : Int) < 48) ∨ ((48 ≤ (cc.toNat : Int)) ∧ (cc.toNat : Int) ≤ 57) ∨ ((57 < (cc.toNat : Int)) ∧ (cc.toNat : Int) < 97) ∨ ((97 ≤ (cc.toNat : Int)) ∧ (cc.toNat : Int) ≤ 122) ∨ 122 < (cc.toNat : Int) := by omega
      rcases hcases with h | ⟨h, h2⟩ | ⟨h, h2⟩ | ⟨h, h2⟩ | ⟨h, h2⟩ | h
      · have H := yes (by unfold nameC; rw [decide_eq_true (show cc.toNat = 46 by omega)]; simp)
        clear yes no f0
        go_wp2
        go_round
        case rel => exact ⟨k + 1, by omega, by go_num, H.out⟩
        case measure => simp [intOf]; omega
      · have H := no (by unfold nameC; rw [decide_eq_false (show ¬ cc.toNat = 46 by omega), decide_eq_false (show ¬ 48 ≤ cc.toNat by omega), decide_eq_false (show ¬ 97 ≤ cc.toNat by omega)]; rfl)
        have g1 := f0 (by omega)
        have g2 : ((cc.toNat : Int) != 46) = true := by simpa using g1
        clear yes no f0
        go_wp2
        go_ret
        refine ⟨?_, rfl⟩
        show Ending.returned (.bool false) = .returned (.bool (named nm))
        rw [H.out]
      · have H := yes (by unfold nameC; rw [decide_eq_true (show 48 ≤ cc.toNat by omega), decide_eq_true (show cc.toNat ≤ 57 by omega)]; simp)
        have g1 := f0 (by omega)
        have g2 : ((cc.toNat : Int) != 46) = true := by simpa using g1
        clear yes no f0
        go_wp2
        go_round
        case rel => exact ⟨k + 1, by omega, by go_num, H.out⟩
        case measure => simp [intOf]; omega
      · have H := no (by unfold nameC; rw [decide_eq_false (show ¬ cc.toNat = 46 by omega), decide_eq_false (show ¬ cc.toNat ≤ 57 by omega), decide_eq_false (show ¬ 97 ≤ cc.toNat by omega)]; simp)
        have g1 := f0 (by omega)
        have g2 : ((cc.toNat : Int) != 46) = true := by simpa using g1
        clear yes no f0
        go_wp2
        go_ret
        refine ⟨?_, rfl⟩
        show Ending.returned (.bool false) = .returned (.bool (named nm))
        rw [H.out]
      · have H := yes (by unfold nameC; rw [decide_eq_true (show 97 ≤ cc.toNat by omega), decide_eq_true (show cc.toNat ≤ 122 by omega)]; simp)
        have g1 := f0 (by omega)
        have g2 : ((cc.toNat : Int) != 46) = true := by simpa using g1
        clear yes no f0
        go_wp2
        go_round
        case rel => exact ⟨k + 1, by omega, by go_num, H.out⟩
        case measure => simp [intOf]; omega
      · have H := no (by unfold nameC; rw [decide_eq_false (show ¬ cc.toNat = 46 by omega), decide_eq_false (show ¬ cc.toNat ≤ 57 by omega), decide_eq_false (show ¬ cc.toNat ≤ 122 by omega)]; simp)
        have g1 := f0 (by omega)
        have g2 : ((cc.toNat : Int) != 46) = true := by simpa using g1
        clear yes no f0
        go_wp2
        go_ret
        refine ⟨?_, rfl⟩
        show Ending.returned (.bool false) = .returned (.bool (named nm))
        rw [H.out]
    · have hke : k = nm.length := by omega
      have HKE := Lib.hid hke
      have hal : nm.all nameC = true := by have := HALL.out; rw [hke, List.take_length] at this; exact this
      have HAL := Lib.hid hal
      clear hke hal HALL
      by_cases h1 : 1 ≤ nm.length
      · by_cases h2 : nm.length ≤ 32
        · have HR := Lib.hid (show named nm = true by rw [named_eq, decide_eq_true h1, decide_eq_true h2, HAL.out]; rfl)
          have d1 : decide ((1 : Int) ≤ (nm.length : Int)) = true := decide_eq_true (by omega)
          have d2 : decide ((nm.length : Int) ≤ 32) = true := decide_eq_true (by omega)
          go_wp2
          go_ret
          refine ⟨?_, rfl⟩
          show Ending.returned (.bool true) = .returned (.bool (named nm))
          rw [HR.out]
        · have HR := Lib.hid (show named nm = false by rw [named_eq, decide_eq_false h2]; simp)
          have d1 : decide ((1 : Int) ≤ (nm.length : Int)) = true := decide_eq_true (by omega)
          have d2 : decide ((nm.length : Int) ≤ 32) = false := decide_eq_false (by omega)
          go_wp2
          go_ret
          refine ⟨?_, rfl⟩
          show Ending.returned (.bool false) = .returned (.bool (named nm))
          rw [HR.out]
      · have HR := Lib.hid (show named nm = false by rw [named_eq, decide_eq_false h1]; simp)
        have d1 : decide ((1 : Int) ≤ (nm.length : Int)) = false := decide_eq_false (by omega)
        go_wp2
        go_ret
        refine ⟨?_, rfl⟩
        show Ending.returned (.bool false) = .returned (.bool (named nm))
        rw [HR.out]
end Go.Proofs.Ytcfnfphnjkllcaa.Dk
