/- The walk of DiskLoses. -/
import Derived.Test.YtolomblbcljdfaaLaJ
namespace Go.Proofs.Ytolomblbcljdfaa.Dk
open Go.RowKit Go.Maps By Mp

theorem burnt_zero {s : DS} (h : s.fuse = 0) : burnt s = s := by unfold burnt; rw [if_pos h]
/-- What a change leaves as it was, where no fuse is on. -/
structure Calm (s : DS) (F : Fs) (room : Int) : Prop where
  sure : s.sure = F
  room : s.room = room
  fuse : s.fuse = 0
  down : s.down = false
theorem calm_chg {s : DS} {F : Fs} {room : Int} (h : Calm s F room) (k : Nat) (nm : Bs) (off : Int) (d : Bs) : Calm (chgS s k nm off d) F room := by
  have hb := burnt_zero h.fuse
  unfold chgS
  split
  · exact h
  · split
    · rw [hb]; exact h
    · rw [hb]; exact ⟨h.sure, h.room, h.fuse, h.down⟩
theorem calm_act {s : DS} {F : Fs} {room : Int} (h : Calm s F room) {a : A1} (ha : 1 ≤ a.kind ∧ a.kind ≤ 3) : Calm (actS s a) F room := by
  unfold actS
  by_cases k1 : a.kind = 1
  · rw [if_pos k1]; exact calm_chg h _ _ _ _
  · rw [if_neg k1]
    by_cases k2 : a.kind = 2
    · rw [if_pos k2]; exact calm_chg h _ _ _ _
    · rw [if_neg k2, if_pos (by omega)]; exact calm_chg h _ _ _ _
theorem calm_fal {s : DS} {F : Fs} {room : Int} (h : Calm s F room) (t : Int) : falS s 0 t = calmS F room := by
  rw [falS_none, h.sure, h.room]
set_option maxRecDepth 100000 in
set_option maxHeartbeats 4000000 in
theorem diskLoses_walk (room : Int) (A : Option Addr) (c : Nat) (l : List A1) (A2 : Option Addr) (c2 : Nat) (l2 : List A1) (m : Int) (t : Int) (hm : 0 ≤ m ∧ m ≤ 18446744073709551615) (w : World) (h : LiesA w w.heap.size A l) (ha : ActsOk l) (h2 : LiesA w w.heap.size A2 l2) (ha2 : ActsOk l2) :
    Calls Try.prog 5 #[.int .i64 room, .slice A l.length c, .slice A2 l2.length c2, .int .u64 m, .int .i64 t] w (True_ w) := by
  obtain ⟨mn, rfl⟩ := Int.eq_ofNat_of_zero_le hm.1
  have HL := Lib.hid h2
  have HA := Lib.hid ha2
  have HMN := Lib.hid (show mn < 18446744073709551616 by omega)
  have q1 := ptrEq
  have q2 := ptrNe
  clear h2 ha2 hm
  go_enter Try.func5, Try.ntmps5
  go_wp2_with fail
  refine (grown_any room A c l w h ha).mono ?_
  rintro e w1 ⟨g, r, rfl, hp1, hc1⟩
  obtain ⟨s, hs⟩ : ∃ s, growS room l = s := ⟨_, rfl⟩
  have hn1 := nmd_grow room l
  rw [hs] at hp1 hc1 hn1
  have HP1 := Lib.hid hp1
  have HC := Lib.hid hc1
  have HNMD := Lib.hid hn1
  clear hs hp1 hc1 hn1
  go_wp2_with fail
  refine (answers_any w1).mono ?_
  rintro e w2 ⟨rfl, hb2⟩
  have HP2 := Lib.hid (HP1.out.below hb2)
  clear hb2 HP1
  obtain ⟨-, hc3, hc4⟩ := HP2.out.cells
  cases hdown : s.down with
  | true =>
    rw [hdown] at hc4
    go_wp2_with fail
    refine (answers_any w2).mono ?_
    rintro e w3 ⟨rfl, hb3⟩
    have HB3 := Lib.hid (By.ext HP2.out.far hb3)
    clear hb3
    go_wp2
    go_ret
    exact ⟨rfl, HB3.out⟩
  | false =>
    rw [hdown] at hc4
    by_cases hfu : s.fuse > 0
    · have d1 : decide (s.fuse > 0) = true := decide_eq_true hfu
      go_wp2_with fail
      refine (answers_any w2).mono ?_
      rintro e w3 ⟨rfl, hb3⟩
      have HB3 := Lib.hid (By.ext HP2.out.far hb3)
      clear hb3
      go_wp2
      go_ret
      exact ⟨rfl, HB3.out⟩
    · have d1 : decide (s.fuse > 0) = false := decide_eq_false hfu
      have hfu0 : s.fuse = 0 := by have := HP2.out.ok.fuse.1; omega
      have HCA := Lib.hid (sync_calm hdown hfu0)
      have HUP := Lib.hid (show Up s.files from up_all HP2.out.ok.up)
      have HNM := Lib.hid (nmd_files HNMD.out)
      have HFL2 := Lib.hid (Nat.le_trans (files_le HP2.out.ok) HC.out)
      have HFL := Lib.hid (Nat.le_trans HFL2.out (by decide : 200 ≤ 68719476736))
      clear hdown hfu0
      have hcnt : s.cnt ≤ 68719476736 := Nat.le_trans HC.out (by decide)
      obtain ⟨F, hF⟩ : ∃ F, s.files = F := ⟨_, rfl⟩
      rw [hF] at HUP HNM HFL HFL2 HCA
      obtain ⟨rm, hrm⟩ : ∃ rm, s.room = rm := ⟨_, rfl⟩
      rw [hrm] at HCA
      clear hF hrm
      obtain ⟨S, T, M, hpa, hfr, hfa⟩ := HP2.out
      have hsy := sync_any g s S w2 hpa.d hcnt
      rw [HCA.out.1, HCA.out.2] at hsy
      have HSY := Lib.hid hsy
      have HPA := Lib.hid hpa
      have HFR := Lib.hid (And.intro hfr hfa)
      clear hsy hpa hfr hfa
      go_wp2_with fail
      refine HSY.out.mono ?_
      rintro e w3 ⟨rfl, S3, hd3, hS3, hk3⟩
      clear hc3 hc4 d1
      have hrs := rsync_any r s T M w3 (HPA.out.r.keep (fun b hb => (hk3.block b (HPA.out.r.lt.1 b hb) (fun h => HPA.out.sep b h hb))) hk3.size) hcnt
      rw [HCA.out.1, HCA.out.2] at hrs
      have HRS := Lib.hid hrs
      have HD3 := Lib.hid hd3
      have HS3 := Lib.hid hS3
      have HK3 := Lib.hid hk3
      clear hd3 hS3 hk3 hrs HSY
      go_wp2_with fail
      refine HRS.out.mono ?_
      rintro e w4 ⟨rfl, T4, M4, hr4, hT4, hM4, hk4⟩
      have hst := pstep_dr (val := .bool true) HPA.out (Below.refl _ w2) HD3.out HS3.out HK3.out hr4 hT4 hM4 hk4
      have hp4 := (ownP_step HPA.out.r.lt.2.1 HFR.out.1 HFR.out.2 hst).2
      have HP4 := Lib.hid hp4
      have hc4n : (calmS F rm).cnt ≤ 68719476736 := (show F.length + 0 ≤ _ from HFL.out)
      have hfo := files_own hp4 hc4n
      have HFO := Lib.hid (show Calls Try.prog 18 #[.pointer (some ⟨r, 0, none⟩)] w4 (GivesF F w4) from hfo)
      clear hr4 hT4 hM4 hk4 hst hp4 hfo HRS HD3 HS3 HK3 HPA HFR
      go_wp2_with fail
      refine HFO.out.mono ?_
      rintro e w5 ⟨v13, rfl, ho5, hb5⟩
      obtain ⟨X, hX⟩ : ∃ X : Nat → Prop, X = fun b => w4.heap.size ≤ b ∧ b < w5.heap.size := ⟨_, rfl⟩
      have hox := HP4.out.x hb5
      have hhf := held_of ho5
      rw [← hX] at hox hhf
      obtain ⟨AF, cF, rfl, _⟩ := ho5.form
      have HOX := Lib.hid hox
      have HHF5 := Lib.hid hhf
      clear hX hox hhf ho5 hb5 HFO HP4
      have HB0 := Lib.hid (show Calm (calmS F rm) F rm ∧ (calmS F rm).cnt ≤ 200 from ⟨⟨rfl, rfl, rfl, rfl⟩, (show F.length + 0 ≤ _ from HFL2.out)⟩)
      go_wp2
      go_loopw [14] (fun i wr => ∃ (k : Nat) (s' : DS), k ≤ l2.length ∧ k ≤ 100 ∧ i = .int .i64 (k : Int) ∧ OwnX X w wr g r s' ∧ (Calm s' F rm ∧ s'.cnt ≤ 200 + k) ∧ ∀ b, X b → wr.heap[b]? = w5.heap[b]?) (fun i _ => l2.length - (intOf i).toNat)
      case atStart => exact ⟨0, _, Nat.zero_le _, Nat.zero_le _, rfl, HOX.out, HB0.out, fun _ _ => rfl⟩
      case round =>
        clear HOX HB0
        obtain ⟨k, s', hk, hk2, rfl, hox, hcm, hkx⟩ := hrel
        have HOX := Lib.hid hox
        have HCM := Lib.hid hcm
        have HKX := Lib.hid hkx
        clear hox hcm hkx
        by_cases hgo : k < l2.length ∧ k < 100
        · obtain ⟨hlt, h100⟩ := hgo
          obtain ⟨ga, oa, Ax, cx, e0, hga, hx0, hx1, hx2, hx3, hx4, hxc, hxd⟩ := HL.out.at_ hlt
          obtain ⟨x, hx⟩ : ∃ x, x = l2[k] := ⟨_, rfl⟩
          rw [← hx] at hx0 hx1 hx2 hx3 hx4 hxc hxd
          subst e0
          have HXO := Lib.hid (HA.out x (hx ▸ List.getElem_mem hlt))
          have d1 : decide ((k : Int) < 100) = true := decide_eq_true (by omega)
          have HALL := Lib.hid (fun (w' : World) (hb : Below w.heap.size w w') => (show w'.cell? ⟨ga, oa + k * 5, none⟩ = some (.int .i64 x.kind) ∧ w'.cell? ⟨ga, oa + k * 5 + 1, none⟩ = some (.string (str x.name)) ∧ w'.cell? ⟨ga, oa + k * 5 + 2, none⟩ = some (.int .i64 x.n) ∧ w'.cell? ⟨ga, oa + k * 5 + 3, none⟩ = some (.slice Ax x.data.length cx) ∧ w'.cell? ⟨ga, oa + k * 5 + 4, none⟩ = some (.int .u64 (x.mask : Int)) from ⟨(hb.cell hga).trans hx0, (hb.cell hga).trans hx1, (hb.cell hga).trans hx2, (hb.cell hga).trans hx3, (hb.cell hga).trans hx4⟩))
          have HXD := Lib.hid hxd
          have HXC := Lib.hid hxc
          clear hxd hxc hx0 hx1 hx2 hx3 hx4 hx hga
          obtain ⟨hq0, hq1, hq2, hq3, hq4⟩ := HALL.out wr HOX.out.far
          have hsm := small_any x (Ax, cx) wr
          unfold aV at hsm
          have HSM := Lib.hid hsm
          clear hsm
          go_wp2_with fail
          refine HSM.out.mono ?_
          rintro e w6 ⟨rfl, hb6⟩
          have HOX6 := Lib.hid (HOX.out.below hb6)
          have HKX6 := Lib.hid (fun b (hx : X b) => (hb6.block b (by obtain ⟨_, _, _, _, _, hlt, _⟩ := HOX.out; exact hlt b hx)).trans (HKX.out b hx))
          clear hb6 HSM hq0 hq1 hq2 hq3 hq4
          obtain ⟨hq0, hq1, hq2, hq3, hq4⟩ := HALL.out w6 HOX6.out.far
          by_cases hdo : smallB x = true ∧ 1 ≤ x.kind ∧ x.kind ≤ 3
          · have hact := act_ownX X g r s' x Ax cx w w6 HOX6.out (Nat.le_trans HCM.out.2 (by omega)) HXO.out HXC.out HXD.out
            unfold aV at hact
            have HACT := Lib.hid hact
            have HCM2 := Lib.hid (show Calm (actS s' x) F rm ∧ (actS s' x).cnt ≤ 200 + (k + 1) from ⟨calm_act HCM.out.1 hdo.2, Nat.le_trans (act_cnt HOX6.out.ok x) (Nat.succ_le_succ HCM.out.2)⟩)
            have e1 := hdo.1
            have d2 : decide (x.kind ≥ 1) = true := decide_eq_true hdo.2.1
            have d3 : decide (x.kind ≤ 3) = true := decide_eq_true hdo.2.2
            rw [e1]
            clear hact hdo e1
            go_wp2_with fail
            refine HACT.out.mono ?_
            rintro e w7 ⟨rfl, hox7, hkx7⟩
            have HOX7 := Lib.hid hox7
            have HKX7 := Lib.hid (fun b (hx : X b) => (hkx7 b hx).trans (HKX6.out b hx))
            clear hox7 hkx7 HACT
            go_wp2
            go_roundw
            case rel => exact ⟨k + 1, _, by omega, by omega, by go_num, HOX7.out, HCM2.out, HKX7.out⟩
            case measure => simp [intOf]; omega
          · have HCM2 := Lib.hid (show Calm s' F rm ∧ s'.cnt ≤ 200 + (k + 1) from ⟨HCM.out.1, Nat.le_trans HCM.out.2 (by omega)⟩)
            cases hsb : smallB x with
            | false =>
              clear hdo hsb
              go_wp2
              go_roundw
              case rel => exact ⟨k + 1, _, by omega, by omega, by go_num, HOX6.out, HCM2.out, HKX6.out⟩
              case measure => simp [intOf]; omega
            | true =>
              by_cases hk1 : 1 ≤ x.kind
              · have hk3 : ¬ x.kind ≤ 3 := fun h => hdo ⟨hsb, hk1, h⟩
                have d2 : decide (x.kind ≥ 1) = true := decide_eq_true hk1
                have d3 : decide (x.kind ≤ 3) = false := decide_eq_false hk3
                clear hdo hsb
                go_wp2
                go_roundw
                case rel => exact ⟨k + 1, _, by omega, by omega, by go_num, HOX6.out, HCM2.out, HKX6.out⟩
                case measure => simp [intOf]; omega
              · have d2 : decide (x.kind ≥ 1) = false := decide_eq_false hk1
                clear hdo hsb
                go_wp2
                go_roundw
                case rel => exact ⟨k + 1, _, by omega, by omega, by go_num, HOX6.out, HCM2.out, HKX6.out⟩
                case measure => simp [intOf]; omega
        · obtain ⟨bb, hbb⟩ : ∃ bb : Bool, bb = true := ⟨_, rfl⟩
          have HEND := Lib.hid (show ¬ (k < l2.length ∧ k < 100) from hgo)
          obtain ⟨S, hdx⟩ := HOX.out.disk
          have hfl := fall_any g s' S 0 t wr hdx.1 (by decide) (Nat.le_trans HCM.out.2 (by omega))
          rw [calm_fal HCM.out.1] at hfl
          have HFA := Lib.hid hfl
          have HDX4 := Lib.hid hdx
          have HHF4 := Lib.hid (HHF5.out.keep HKX.out)
          obtain ⟨s3, hs3⟩ : ∃ s3, calmS F rm = s3 := ⟨_, rfl⟩
          have HFS := Lib.hid (show s3.files = F ∧ s3.down = false by rw [← hs3]; exact ⟨rfl, rfl⟩)
          have HUN := Lib.hid (show s3.cnt ≤ 68719476736 by rw [← hs3]; exact (show F.length + 0 ≤ _ from HFL.out))
          have HF2 := Lib.hid (show ∀ m t, falS s3 m t = s3 by intro m t; rw [← hs3]; rfl)
          have HNL := Lib.hid (show (namesS s3).length = F.length by unfold namesS; rw [HFS.out.2, HFS.out.1]; simp [namesOf])
          rw [hs3] at HFA
          clear hs3 hdx hfl hgo hbb bb
          obtain ⟨wz, hwz⟩ : ∃ wz, wz = wr := ⟨_, rfl⟩
          subst hwz
          by_cases hlt : k < l2.length
          · have d2 : decide ((k : Int) < 100) = false := decide_eq_false (by have := HEND.out; omega)
            go_wp2_with (first
              | (go_at_call 20; refine HFA.out.mono ?_; intro e w6 hst
                 obtain ⟨rfl, S5, hd5, hk5⟩ := HDX4.out.step hst
                 have HD5 := Lib.hid hd5
                 have HHF5 := Lib.hid (HHF4.out.keep hk5)
                 have HNA := Lib.hid (names_any g s3 S5 w6 hd5.1 HUN.out)
                 clear hst hd5 hk5)
              | (go_at_call 24; refine HNA.out.mono ?_; rintro e w7 ⟨v7, rfl, ho7, hb7⟩
                 obtain ⟨A7, c7, rfl⟩ := ownsRow_form ho7
                 rw [HNL.out]
                 have HDX := Lib.hid (HD5.out.below hb7)
                 have HHF := Lib.hid (HHF5.out.keep (fun b hx => hb7.block b (HD5.out.2.2.1 b hx)))
                 clear ho7 hb7)
              | fail)
            have HST0 := Lib.hid (Below.refl w7.heap.size w7)
            clear HD5 HHF5 HHF4 HDX4 HFA HNA
            go_loopw [15] (fun i wr => ∃ k : Nat, k ≤ F.length ∧ i = .int .i64 (k : Int) ∧ Below w7.heap.size w7 wr) (fun i _ => F.length - (intOf i).toNat)
            case atStart => exact ⟨0, Nat.zero_le _, rfl, HST0.out⟩
            case round =>
              obtain ⟨k2, hk2, rfl, hb⟩ := hrel
              have HBK := Lib.hid hb
              clear hb
              have hfll := HFL.out
              by_cases hlt2 : k2 < F.length
              · obtain ⟨uf, capf, A1, c1, e0, _, huf, hd1, hd2, hx0, hx1⟩ := HHF.out.1.at_ hlt2
                obtain ⟨p, hp⟩ : ∃ p, p = F[k2] := ⟨_, rfl⟩
                have hpm : p ∈ F := hp ▸ List.getElem_mem hlt2
                rw [← hp] at hd1 hd2 hx0 hx1
                simp only [Value.slice.injEq, true_and] at e0
                obtain ⟨rfl, rfl⟩ := e0
                have hq0 : wr.cell? ⟨uf, k2 * 2, none⟩ = some (.string (str p.1)) := (HBK.out.cell huf).trans hx0
                have hq1 : wr.cell? ⟨uf, k2 * 2 + 1, none⟩ = some (.slice A1 p.2.length c1) := (HBK.out.cell huf).trans hx1
                have HL1 := Lib.hid (show Lies wr wr.heap.size A1 p.2 from ((hd2.lies (B := w7.heap.size) (fun b hb => HDX.out.2.2.1 b hb)).below HBK.out).more HBK.out.size)
                have hnp : named p.1 = true := HNM.out p hpm
                have hgp : fget s3.files p.1 = some p.2 := by rw [HFS.out.1]; exact fget_mem HUP.out hpm
                have hre : readE s3 p.1 = 0 := by unfold readE fthere; rw [HFS.out.2, hnp, hgp]; simp
                have hrb : readB s3 p.1 = p.2 := by unfold readB bytesOf; rw [hre, if_pos rfl, hgp]; rfl
                have hnl : p.1.length ≤ 140737488355328 := by
                  rw [named_eq, Bool.and_eq_true, Bool.and_eq_true, decide_eq_true_eq, decide_eq_true_eq] at hnp
                  omega
                have hrd := read_any g s3 S5 p.1 wr (HDX.out.1.below HBK.out) hnl
                rw [hre, hrb] at hrd
                have HRR := Lib.hid hrd
                clear hpm hp hd1 hd2 hx0 hx1 hnp hgp hre hrb hrd
                go_wp2_with fail
                refine HRR.out.mono ?_
                rintro e wx ⟨vx, rfl, hox, hbx⟩
                obtain ⟨Ax, cx, rfl, _, _, _, hlx, _⟩ := hox.form
                have hqx0 : wx.cell? ⟨uf, k2 * 2, none⟩ = some (.string (str p.1)) := (hbx.cell (show uf < wr.heap.size by have := HBK.out.size; omega)).trans hq0
                have hqx1 : wx.cell? ⟨uf, k2 * 2 + 1, none⟩ = some (.slice A1 p.2.length c1) := (hbx.cell (show uf < wr.heap.size by have := HBK.out.size; omega)).trans hq1
                have htx := fun q => run_text (wx.drewN q) (n := p.2.length) cx rfl (hlx.drewN q)
                have hty := fun q => run_text (wx.drewN q) (n := p.2.length) c1 rfl ((HL1.out.below hbx).drewN q)
                have hsd : ((str p.2).toList != (str p.2).toList) = false := bne_self_eq_false _
                have HBX := Lib.hid (By.ext HBK.out hbx)
                clear hox hbx hlx hq0 hq1 HRR
                go_wp2
                go_quiet (fail)
                go_wp2
                go_roundw
                case rel => exact ⟨k2 + 1, by omega, by go_num, belowDrewN HBX.out _⟩
                case measure => simp [intOf]; omega
              · clear hfll
                have HDXr := Lib.hid (HDX.out.below HBK.out)
                have hfl2 := fall_any g s3 S5 mn t wr HDXr.out.1 HMN.out HUN.out
                rw [HF2.out] at hfl2
                have HFA2 := Lib.hid hfl2
                clear hfl2
                go_wp2_with (first
                  | (go_at_call 20; refine HFA2.out.mono ?_; intro e w8 hst
                     obtain ⟨rfl, S8, hd8, -⟩ := HDXr.out.step hst
                     have HD8 := Lib.hid hd8
                     have HNA2 := Lib.hid (names_any g s3 S8 w8 hd8.1 HUN.out)
                     clear hst hd8)
                  | (go_at_call 24; refine HNA2.out.mono ?_; rintro e w9 ⟨v9, rfl, ho9, hb9⟩
                     obtain ⟨A9, c9, rfl⟩ := ownsRow_form ho9
                     rw [HNL.out]
                     have HB9 := Lib.hid (By.ext HD8.out.2.2.2 hb9)
                     clear ho9 hb9))
                go_ret
                exact ⟨rfl, HB9.out⟩
          · have hlt' : l2.length ≤ k := by omega
            go_wp2_with (first
              | (go_at_call 20; refine HFA.out.mono ?_; intro e w6 hst
                 obtain ⟨rfl, S5, hd5, hk5⟩ := HDX4.out.step hst
                 have HD5 := Lib.hid hd5
                 have HHF5 := Lib.hid (HHF4.out.keep hk5)
                 have HNA := Lib.hid (names_any g s3 S5 w6 hd5.1 HUN.out)
                 clear hst hd5 hk5)
              | (go_at_call 24; refine HNA.out.mono ?_; rintro e w7 ⟨v7, rfl, ho7, hb7⟩
                 obtain ⟨A7, c7, rfl⟩ := ownsRow_form ho7
                 rw [HNL.out]
                 have HDX := Lib.hid (HD5.out.below hb7)
                 have HHF := Lib.hid (HHF5.out.keep (fun b hx => hb7.block b (HD5.out.2.2.1 b hx)))
                 clear ho7 hb7)
              | fail)
            have HST0 := Lib.hid (Below.refl w7.heap.size w7)
            clear HD5 HHF5 HHF4 HDX4 HFA HNA
            go_loopw [15] (fun i wr => ∃ k : Nat, k ≤ F.length ∧ i = .int .i64 (k : Int) ∧ Below w7.heap.size w7 wr) (fun i _ => F.length - (intOf i).toNat)
            case atStart => exact ⟨0, Nat.zero_le _, rfl, HST0.out⟩
            case round =>
              obtain ⟨k2, hk2, rfl, hb⟩ := hrel
              have HBK := Lib.hid hb
              clear hb
              have hfll := HFL.out
              by_cases hlt2 : k2 < F.length
              · obtain ⟨uf, capf, A1, c1, e0, _, huf, hd1, hd2, hx0, hx1⟩ := HHF.out.1.at_ hlt2
                obtain ⟨p, hp⟩ : ∃ p, p = F[k2] := ⟨_, rfl⟩
                have hpm : p ∈ F := hp ▸ List.getElem_mem hlt2
                rw [← hp] at hd1 hd2 hx0 hx1
                simp only [Value.slice.injEq, true_and] at e0
                obtain ⟨rfl, rfl⟩ := e0
                have hq0 : wr.cell? ⟨uf, k2 * 2, none⟩ = some (.string (str p.1)) := (HBK.out.cell huf).trans hx0
                have hq1 : wr.cell? ⟨uf, k2 * 2 + 1, none⟩ = some (.slice A1 p.2.length c1) := (HBK.out.cell huf).trans hx1
                have HL1 := Lib.hid (show Lies wr wr.heap.size A1 p.2 from ((hd2.lies (B := w7.heap.size) (fun b hb => HDX.out.2.2.1 b hb)).below HBK.out).more HBK.out.size)
                have hnp : named p.1 = true := HNM.out p hpm
                have hgp : fget s3.files p.1 = some p.2 := by rw [HFS.out.1]; exact fget_mem HUP.out hpm
                have hre : readE s3 p.1 = 0 := by unfold readE fthere; rw [HFS.out.2, hnp, hgp]; simp
                have hrb : readB s3 p.1 = p.2 := by unfold readB bytesOf; rw [hre, if_pos rfl, hgp]; rfl
                have hnl : p.1.length ≤ 140737488355328 := by
                  rw [named_eq, Bool.and_eq_true, Bool.and_eq_true, decide_eq_true_eq, decide_eq_true_eq] at hnp
                  omega
                have hrd := read_any g s3 S5 p.1 wr (HDX.out.1.below HBK.out) hnl
                rw [hre, hrb] at hrd
                have HRR := Lib.hid hrd
                clear hpm hp hd1 hd2 hx0 hx1 hnp hgp hre hrb hrd
                go_wp2_with fail
                refine HRR.out.mono ?_
                rintro e wx ⟨vx, rfl, hox, hbx⟩
                obtain ⟨Ax, cx, rfl, _, _, _, hlx, _⟩ := hox.form
                have hqx0 : wx.cell? ⟨uf, k2 * 2, none⟩ = some (.string (str p.1)) := (hbx.cell (show uf < wr.heap.size by have := HBK.out.size; omega)).trans hq0
                have hqx1 : wx.cell? ⟨uf, k2 * 2 + 1, none⟩ = some (.slice A1 p.2.length c1) := (hbx.cell (show uf < wr.heap.size by have := HBK.out.size; omega)).trans hq1
                have htx := fun q => run_text (wx.drewN q) (n := p.2.length) cx rfl (hlx.drewN q)
                have hty := fun q => run_text (wx.drewN q) (n := p.2.length) c1 rfl ((HL1.out.below hbx).drewN q)
                have hsd : ((str p.2).toList != (str p.2).toList) = false := bne_self_eq_false _
                have HBX := Lib.hid (By.ext HBK.out hbx)
                clear hox hbx hlx hq0 hq1 HRR
                go_wp2
                go_quiet (fail)
                go_wp2
                go_roundw
                case rel => exact ⟨k2 + 1, by omega, by go_num, belowDrewN HBX.out _⟩
                case measure => simp [intOf]; omega
              · clear hfll
                have HDXr := Lib.hid (HDX.out.below HBK.out)
                have hfl2 := fall_any g s3 S5 mn t wr HDXr.out.1 HMN.out HUN.out
                rw [HF2.out] at hfl2
                have HFA2 := Lib.hid hfl2
                clear hfl2
                go_wp2_with (first
                  | (go_at_call 20; refine HFA2.out.mono ?_; intro e w8 hst
                     obtain ⟨rfl, S8, hd8, -⟩ := HDXr.out.step hst
                     have HD8 := Lib.hid hd8
                     have HNA2 := Lib.hid (names_any g s3 S8 w8 hd8.1 HUN.out)
                     clear hst hd8)
                  | (go_at_call 24; refine HNA2.out.mono ?_; rintro e w9 ⟨v9, rfl, ho9, hb9⟩
                     obtain ⟨A9, c9, rfl⟩ := ownsRow_form ho9
                     rw [HNL.out]
                     have HB9 := Lib.hid (By.ext HD8.out.2.2.2 hb9)
                     clear ho9 hb9))
                go_ret
                exact ⟨rfl, HB9.out⟩
end Go.Proofs.Ytolomblbcljdfaa.Dk
