/- The walk of DiskActs. -/
import Derived.Test.YtcfnfphnjkllcaaLaG
import Derived.Deep.CutRange
namespace Go.Proofs.Ytcfnfphnjkllcaa.Dk
open Go.RowKit Go.Maps By Mp

theorem copy_own (g r : Nat) (s : DS) (w wr : World) (h : OwnP w wr g r s) (hcnt : s.cnt ≤ 68719476736) : Calls Try.prog 12 #[.pointer (some ⟨g, 0, none⟩)] wr (fun e w' => ∃ g', e = .returned (.pointer (some ⟨g', 0, none⟩)) ∧ OwnP w w' g' r s) := by
  obtain ⟨S, T, M, h1, h2, h3⟩ := h
  have hz := h3.size
  refine (copy_any g s S wr h1.d hcnt).mono ?_
  rintro e w' ⟨g', S', rfl, hd, hS, hb⟩
  refine ⟨g', rfl, S', T, M, ⟨hd, h1.r.below hb, fun b hs ht => ?_⟩, fun b hb => ?_, By.ext h3 hb⟩
  · have h4 := hS b hs
    have h5 := h1.r.lt.1 b ht
    omega
  · rcases hb with hb | hb
    · have := hS b hb; omega
    · exact h2 b (.inr hb)
def step2 (s : DS) (a : A1) : DS := if smallB a = true then actS s a else s
theorem step2_cnt {s : DS} (h : s.Ok) (a : A1) : (step2 s a).cnt ≤ s.cnt + 1 := by
  unfold step2
  split
  · exact act_cnt h a
  · omega
theorem nmd_step2 {s : DS} (h : Nmd s) (a : A1) : Nmd (step2 s a) := by
  unfold step2
  split
  · exact nmd_act h a
  · exact h
theorem ptrEq (w : World) (a : Addr) : (binOp .eql 23 (.pointer (some a)) (.pointer none)).run Try.prog w = .ok (.bool false) w := by
  kernel_rfl
/-- The pair behind some acts. -/
def ActsAt (w wr : World) (g r : Nat) (s : DS) (k : Nat) : Prop := OwnP w wr g r s ∧ s.cnt ≤ k ∧ Nmd s
set_option maxRecDepth 100000 in
set_option maxHeartbeats 4000000 in
theorem diskActs_walk (room : Int) (A : Option Addr) (c : Nat) (l : List A1) (w : World) (h : LiesA w w.heap.size A l) (ha : ActsOk l) :
    Calls Try.prog 3 #[.int .i64 room, .slice A l.length c] w (True_ w) := by
  have HL := Lib.hid h
  have HA := Lib.hid ha
  have q1 := ptrEq
  clear h ha
  go_enter Try.func3, Try.ntmps3
  go_wp2_with fail
  refine (begin_any room w).mono ?_
  rintro e w1 ⟨g, r, S, T, M, rfl, hp1, hf1, hb1⟩
  have HP1 := Lib.hid (show OwnP w w1 g r (beginS room) from ⟨S, T, M, hp1, hf1, hb1⟩)
  clear hp1 hf1 hb1
  go_wp2_with fail
  refine (answers_any w1).mono ?_
  rintro e w2 ⟨rfl, hb2⟩
  have HP2 := Lib.hid (show ActsAt w w2 g r (beginS room) 0 from ⟨HP1.out.below hb2, Nat.le_refl _, nmd_begin room⟩)
  clear hb2 HP1
  go_wp2
  go_loopw [5, 7] (fun s5 i wr => ∃ (k g : Nat) (s : DS), k ≤ l.length ∧ k ≤ 200 ∧ s5 = .pointer (some ⟨g, 0, none⟩) ∧ i = .int .i64 (k : Int) ∧ ActsAt w wr g r s k) (fun _ i _ => l.length - (intOf i).toNat)
  case atStart => exact ⟨0, g, _, Nat.zero_le _, Nat.zero_le _, rfl, rfl, HP2.out⟩
  case round =>
    clear HP2
    obtain ⟨k, g, s, hk, hk2, rfl, rfl, hp⟩ := hrel
    have HP := Lib.hid hp
    clear hp
    by_cases hlt : k < l.length
    · by_cases h200 : k < 200
      · obtain ⟨ga, oa, Ax, cx, e0, hga, hx0, hx1, hx2, hx3, hx4, hxc, hxd⟩ := HL.out.at_ hlt
        obtain ⟨x, hx⟩ : ∃ x, x = l[k] := ⟨_, rfl⟩
        rw [← hx] at hx0 hx1 hx2 hx3 hx4 hxc hxd
        subst e0
        have HXO := Lib.hid (HA.out x (hx ▸ List.getElem_mem hlt))
        have d1 : decide ((k : Int) < 200) = true := decide_eq_true (by omega)
        have HALL := Lib.hid (fun (w' : World) (hb : Below w.heap.size w w') => (show w'.cell? ⟨ga, oa + k * 5, none⟩ = some (.int .i64 x.kind) ∧ w'.cell? ⟨ga, oa + k * 5 + 1, none⟩ = some (.string (str x.name)) ∧ w'.cell? ⟨ga, oa + k * 5 + 2, none⟩ = some (.int .i64 x.n) ∧ w'.cell? ⟨ga, oa + k * 5 + 3, none⟩ = some (.slice Ax x.data.length cx) ∧ w'.cell? ⟨ga, oa + k * 5 + 4, none⟩ = some (.int .u64 (x.mask : Int)) from ⟨(hb.cell hga).trans hx0, (hb.cell hga).trans hx1, (hb.cell hga).trans hx2, (hb.cell hga).trans hx3, (hb.cell hga).trans hx4⟩))
        have HBW := Lib.hid (fun (wr : World) (g : Nat) (s : DS) (h : OwnP w wr g r s) => (show Below w.heap.size w wr by obtain ⟨S, T, M, _, _, h⟩ := h; exact h))
        have HXD := Lib.hid hxd
        have HXC := Lib.hid hxc
        clear hxd hxc hx0 hx1 hx2 hx3 hx4 hx hga
        obtain ⟨hq0, -⟩ := HALL.out wr (HBW.out _ _ _ HP.out.1)
        go_upto_if 36 with fail
        go_cut [5] from 21 to 62 (fun s5 wx => ∃ g', s5 = .pointer (some ⟨g', 0, none⟩) ∧ OwnP w wx g' r s)
        case first =>
          by_cases h9 : x.kind = 9
          · have h9' : (x.kind == 9) = true := by simpa using h9
            have H9 := Lib.hid h9
            clear h9
            go_wp2_with fail
            refine (copy_own g r s w wr HP.out.1 (Nat.le_trans HP.out.2.1 (by omega))).mono ?_
            rintro e w5 ⟨g', rfl, hp5⟩
            go_wp2
            go_meet
            exact ⟨g', rfl, hp5⟩
          · have h9' : (x.kind == 9) = false := by simpa using h9
            have H9 := Lib.hid h9
            clear h9
            go_wp2
            go_meet
            exact ⟨g, rfl, HP.out.1⟩
        obtain ⟨g', rfl, hpc⟩ := hcut
        have HPC := Lib.hid hpc
        obtain ⟨hr0, hr1, hr2, hr3, hr4⟩ := HALL.out wc (HBW.out _ _ _ hpc)
        have hsm := small_any x (Ax, cx) wc
        unfold aV at hsm
        have HSM := Lib.hid hsm
        clear hsm hpc hq0
        go_wp2_with fail
        refine HSM.out.mono ?_
        rintro e w5 ⟨rfl, hb5⟩
        have HP5 := Lib.hid (HPC.out.below hb5)
        clear hb5 HSM hr0 hr1 hr2 hr3 hr4
        obtain ⟨hr0, hr1, hr2, hr3, hr4⟩ := HALL.out w5 (HBW.out _ _ _ HP5.out)
        cases hsb : smallB x with
        | false =>
          clear hsb hr0 hr1 hr2 hr3 hr4
          go_wp2
          go_roundw
          case rel => exact ⟨k + 1, g', s, by omega, by omega, rfl, by go_num, HP5.out, Nat.le_trans HP.out.2.1 (Nat.le_succ k), HP.out.2.2⟩
          case measure => simp [intOf]; omega
        | true =>
          have hact := act_own g' r s x Ax cx w w5 HP5.out (Nat.le_trans HP.out.2.1 (by omega)) HXO.out HXC.out HXD.out
          unfold aV at hact
          have HACT := Lib.hid hact
          have HCT := Lib.hid (show (actS s x).cnt ≤ k + 1 from Nat.le_trans (act_cnt HP5.out.ok x) (Nat.succ_le_succ HP.out.2.1))
          clear hact hsb
          go_wp2_with (first
            | (go_at_call 14; refine HACT.out.mono ?_; rintro e w6 ⟨rfl, hp6⟩
               have HP6 := Lib.hid hp6
               clear hp6)
            | fail)
          refine (alike_own g' r (actS s x) w w6 HP6.out (Nat.le_trans HCT.out (by omega)) (nmd_act HP.out.2.2 x)).mono ?_
          rintro e w7 ⟨rfl, hb7⟩
          have HP7 := Lib.hid (HP6.out.below hb7)
          clear hb7
          go_wp2
          go_roundw
          case rel => exact ⟨k + 1, g', actS s x, by omega, by omega, rfl, by go_num, HP7.out, HCT.out, nmd_act HP.out.2.2 x⟩
          case measure => simp [intOf]; omega
      · have d1 : decide ((k : Int) < 200) = false := decide_eq_false (by omega)
        cases hpl : placeB room with
        | true =>
          have hp2 : 0 ≤ room ∧ room ≤ 4194304 := by simpa [placeB] using hpl
          have dl : decide (room ≥ 0) = true := decide_eq_true (by omega)
          have dh : decide (room ≤ 4194304) = true := decide_eq_true (by omega)
          have HN := Lib.hid (new_any room wr hpl)
          clear hpl
          go_wp2_with fail
          refine HN.out.mono ?_
          rintro e w5 ⟨g5, S5, rfl, hd5, hS5, hb5⟩
          obtain ⟨S, T, M, _, _, hbw⟩ := HP.out.1
          have HB := Lib.hid (By.ext hbw hb5)
          clear hd5 hS5 hb5 hbw HN
          go_wp2
          go_ret
          exact ⟨rfl, HB.out⟩
        | false =>
          have hp2 : room < 0 ∨ 4194304 < room := by
            simp [placeB] at hpl
            omega
          have HN := Lib.hid (new_no room wr hpl)
          obtain ⟨S, T, M, _, _, hbw⟩ := HP.out.1
          have HB := Lib.hid hbw
          clear hpl hbw
          by_cases hlo : 0 ≤ room
          · have dl : decide (room ≥ 0) = true := decide_eq_true hlo
            have dh : decide (room ≤ 4194304) = false := decide_eq_false (by omega)
            go_wp2_with fail
            refine HN.out.mono ?_
            rintro e w5 ⟨rfl, rfl⟩
            go_wp2
            go_ret
            exact ⟨rfl, HB.out⟩
          · have dl : decide (room ≥ 0) = false := decide_eq_false hlo
            go_wp2_with fail
            refine HN.out.mono ?_
            rintro e w5 ⟨rfl, rfl⟩
            go_wp2
            go_ret
            exact ⟨rfl, HB.out⟩
    · cases hpl : placeB room with
      | true =>
        have hp2 : 0 ≤ room ∧ room ≤ 4194304 := by simpa [placeB] using hpl
        have dl : decide (room ≥ 0) = true := decide_eq_true (by omega)
        have dh : decide (room ≤ 4194304) = true := decide_eq_true (by omega)
        have HN := Lib.hid (new_any room wr hpl)
        clear hpl
        go_wp2_with fail
        refine HN.out.mono ?_
        rintro e w5 ⟨g5, S5, rfl, hd5, hS5, hb5⟩
        obtain ⟨S, T, M, _, _, hbw⟩ := HP.out.1
        have HB := Lib.hid (By.ext hbw hb5)
        clear hd5 hS5 hb5 hbw HN
        go_wp2
        go_ret
        exact ⟨rfl, HB.out⟩
      | false =>
        have hp2 : room < 0 ∨ 4194304 < room := by
          simp [placeB] at hpl
          omega
        have HN := Lib.hid (new_no room wr hpl)
        obtain ⟨S, T, M, _, _, hbw⟩ := HP.out.1
        have HB := Lib.hid hbw
        clear hpl hbw
        by_cases hlo : 0 ≤ room
        · have dl : decide (room ≥ 0) = true := decide_eq_true hlo
          have dh : decide (room ≤ 4194304) = false := decide_eq_false (by omega)
          go_wp2_with fail
          refine HN.out.mono ?_
          rintro e w5 ⟨rfl, rfl⟩
          go_wp2
          go_ret
          exact ⟨rfl, HB.out⟩
        · have dl : decide (room ≥ 0) = false := decide_eq_false hlo
          go_wp2_with fail
          refine HN.out.mono ?_
          rintro e w5 ⟨rfl, rfl⟩
          go_wp2
          go_ret
          exact ⟨rfl, HB.out⟩
end Go.Proofs.Ytcfnfphnjkllcaa.Dk
