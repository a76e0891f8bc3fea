/- The walk of DiskApart, up to the new file. -/
import Derived.Test.YtolomblbcljdfaaLaP
import Derived.Deep.CutRange
import Derived.Deep.CutBlock
namespace Go.Proofs.Ytolomblbcljdfaa.Dk
open Go.RowKit Go.Maps By Mp

set_option maxRecDepth 100000 in
set_option maxHeartbeats 4000000 in
theorem diskApart_walk (room : Int) (A : Option Addr) (c : Nat) (l : List A1) (A2 : Option Addr) (c2 : Nat) (l2 : List A1) (Ad : Option Addr) (cd : Nat) (d : Bs) (hdl : d.length ≤ 1048576) (w : World) (h : LiesA w w.heap.size A l) (ha : ActsOk l) (h2 : LiesA w w.heap.size A2 l2) (ha2 : ActsOk l2) (hd : Lies w w.heap.size Ad d) :
    Calls Try.prog 7 #[.int .i64 room, .slice A l.length c, .slice A2 l2.length c2, .slice Ad d.length cd] w (True_ w) := by
  have HL := Lib.hid h2
  have HA := Lib.hid ha2
  have HD := Lib.hid hd
  have q1 := ptrEq
  have q2 := ptrNe
  clear h2 ha2 hd
  go_enter Try.func7, Try.ntmps7
  go_wp2_with fail
  refine (grown_any room A c l w h ha).mono ?_
  rintro e w1 ⟨g, r, rfl, hp1, hc1⟩
  obtain ⟨s, hs⟩ : ∃ s, growS room l = s := ⟨_, rfl⟩
  have hn1 := nmd_grow room l
  rw [hs] at hp1 hc1 hn1
  have HP1 := Lib.hid hp1
  have HC := Lib.hid hc1
  have HNMD := Lib.hid hn1
  clear hs hp1 hc1 hn1
  go_wp2_with fail
  refine (answers_any w1).mono ?_
  rintro e w2 ⟨rfl, hb2⟩
  have HP2 := Lib.hid (HP1.out.below hb2)
  clear hb2 HP1
  have hok := HP2.out.ok
  have HRM := Lib.hid hok.room
  clear hok
  go_upto_region 4 with fail
  go_cut [11, 12] (fun s11 s12 wx => ∃ gc rx, s11 = .pointer (some ⟨gc, 0, none⟩) ∧ s12 = .pointer (some ⟨rx, 0, none⟩) ∧ Twin w wx g r s gc rx s (newDS s.room))
  case first =>
    obtain ⟨S, T, M, hpa, hfr, hfa⟩ := HP2.out
    have HCP := Lib.hid (fun w' (hb : Below w2.heap.size w2 w') => copy_any g s S w' (hpa.below hb).d (Nat.le_trans HC.out (by decide)))
    have HPA := Lib.hid (fun w' (hb : Below w2.heap.size w2 w') => hpa.below hb)
    have HFR := Lib.hid hfr
    have HFA := Lib.hid (fun w' (hb : Below w2.heap.size w2 w') => (show Below w.heap.size w w' from By.ext hfa hb))
    have HCL := Lib.hid (fun w' (hb : Below w2.heap.size w2 w') => (show w'.cell? ⟨r, 2, none⟩ = some (.int .i64 s.room) from (rd_cells (hpa.r.below hb)).1))
    have HT1 := Lib.hid trivial
    have HB0 := Lib.hid (show Below w2.heap.size w2 w2.drew from (Below.refl _ _).drew)
    clear hpa hfr hfa
    go_region_held3 (fun w' => w'.cell? ⟨r, 2, none⟩ = some (.int .i64 s.room))
      (first
        | assumption
        | exact HCL.out _ HB0.out
        | exact HCL.out _ HB5.out
        | exact HCL.out _ (HB5.out.alloc HB5.out.size _)
        | exact HCL.out _ (HB0.out.alloc HB0.out.size _))
      (first
        | (go_at_call 12; clear HT1; refine (HCP.out _ HB0.out).mono ?_; rintro e w5 ⟨gc, Sc, rfl, hd5, hS5, hb5⟩
           have HB5 := Lib.hid (HB0.out.trans (hb5.mono HB0.out.size))
           have HTW := Lib.hid (twin_cb HRM.out (HPA.out _ HB0.out) HFR.out (HFA.out _ HB0.out) hd5 hS5 hb5)
           clear hd5 hS5 hb5)
        | (go_at_call 12; refine (HCP.out _ (HB0.out.alloc HB0.out.size _)).mono ?_; rintro e w5 ⟨gc, Sc, rfl, hd5, hS5, hb5⟩
           have HTW := Lib.hid (twin_bc HRM.out (HPA.out _ HB0.out) HFR.out (HFA.out _ HB0.out) hd5 hS5 hb5)
           have HB5 := Lib.hid ((HB0.out.alloc HB0.out.size _).trans (hb5.mono (Nat.le_trans HB0.out.size (by simp))))
           clear hd5 hS5 hb5))
    · go_wp2
      go_meet
      exact ⟨_, _, rfl, rfl, HTW.out⟩
    · go_wp2
      go_meet
      exact ⟨_, _, rfl, rfl, HTW.out⟩
  obtain ⟨gc, rx, rfl, rfl, htw⟩ := hcut
  have HTW := Lib.hid htw
  clear htw HP2
  go_upto_block 0 with fail
  go_cut [13] (fun _ wx => OwnP w wx g r s)
  case first =>
   go_wp2_with fail
   go_loopw [13] (fun i wr => ∃ (k : Nat) (s1 z1 : DS), k ≤ l2.length ∧ k ≤ 100 ∧ i = .int .i64 (k : Int) ∧ Twin w wr g r s gc rx s1 z1 ∧ s1.cnt ≤ 200 + k ∧ z1.cnt ≤ k) (fun i _ => l2.length - (intOf i).toNat)
   case atStart => exact ⟨0, _, _, Nat.zero_le _, Nat.zero_le _, rfl, HTW.out, HC.out, Nat.le_refl _⟩
   case round =>
     clear HTW
     obtain ⟨k, s1, z1, hk, hk2, rfl, htw, hcs, hcz⟩ := hrel
     have HTW := Lib.hid htw
     have HCS := Lib.hid (And.intro hcs hcz)
     clear htw hcs hcz
     by_cases hgo : k < l2.length ∧ k < 100
     · obtain ⟨hlt, h100⟩ := hgo
       obtain ⟨ga, oa, Ax, cx, e0, hga, hx0, hx1, hx2, hx3, hx4, hxc, hxd⟩ := HL.out.at_ hlt
       obtain ⟨x, hx⟩ : ∃ x, x = l2[k] := ⟨_, rfl⟩
       rw [← hx] at hx0 hx1 hx2 hx3 hx4 hxc hxd
       subst e0
       have HXO := Lib.hid (HA.out x (hx ▸ List.getElem_mem hlt))
       have d1 : decide ((k : Int) < 100) = true := decide_eq_true (by omega)
       have HALL := Lib.hid (fun (w' : World) (hb : Below w.heap.size w w') => (show w'.cell? ⟨ga, oa + k * 5, none⟩ = some (.int .i64 x.kind) ∧ w'.cell? ⟨ga, oa + k * 5 + 1, none⟩ = some (.string (str x.name)) ∧ w'.cell? ⟨ga, oa + k * 5 + 2, none⟩ = some (.int .i64 x.n) ∧ w'.cell? ⟨ga, oa + k * 5 + 3, none⟩ = some (.slice Ax x.data.length cx) ∧ w'.cell? ⟨ga, oa + k * 5 + 4, none⟩ = some (.int .u64 (x.mask : Int)) from ⟨(hb.cell hga).trans hx0, (hb.cell hga).trans hx1, (hb.cell hga).trans hx2, (hb.cell hga).trans hx3, (hb.cell hga).trans hx4⟩))
       have HXD := Lib.hid hxd
       have HXC := Lib.hid hxc
       clear hxd hxc hx0 hx1 hx2 hx3 hx4 hx hga
       obtain ⟨hq0, hq1, hq2, hq3, hq4⟩ := HALL.out wr HTW.out.far
       have hsm := small_any x (Ax, cx) wr
       unfold aV at hsm
       have HSM := Lib.hid hsm
       clear hsm
       go_wp2_with fail
       refine HSM.out.mono ?_
       rintro e w6 ⟨rfl, hb6⟩
       have HTW6 := Lib.hid (HTW.out.below hb6)
       clear hb6 HSM hq0 hq1 hq2 hq3 hq4
       obtain ⟨hq0, hq1, hq2, hq3, hq4⟩ := HALL.out w6 HTW6.out.far
       have hok1 : s1.Ok ∧ z1.Ok := by
         obtain ⟨S, T, M, Sc, Tx, Mx, _, p2, _⟩ := HTW6.out
         exact ⟨p2.d.lt.2.2, p2.r.ok⟩
       have HOK1 := Lib.hid hok1
       clear hok1
       cases hsb : smallB x with
       | false =>
         clear hsb
         go_wp2
         go_roundw
         case rel => exact ⟨k + 1, s1, z1, by omega, by omega, by go_num, HTW6.out, Nat.le_trans HCS.out.1 (by omega), Nat.le_trans HCS.out.2 (Nat.le_succ k)⟩
         case measure => simp [intOf]; omega
       | true =>
         have hact := act_twin g r s gc rx s1 z1 x Ax cx w w6 HTW6.out (Nat.le_trans HCS.out.1 (by omega)) (Nat.le_trans HCS.out.2 (by omega)) HXO.out HXC.out HXD.out
         unfold aV at hact
         have HACT := Lib.hid hact
         have HC2 := Lib.hid (show (actS s1 x).cnt ≤ 200 + (k + 1) ∧ (actS z1 x).cnt ≤ k + 1 from ⟨Nat.le_trans (act_cnt HOK1.out.1 x) (Nat.succ_le_succ HCS.out.1), Nat.le_trans (act_cnt HOK1.out.2 x) (Nat.succ_le_succ HCS.out.2)⟩)
         clear hact hsb
         go_wp2_with fail
         refine HACT.out.mono ?_
         rintro e w7 ⟨⟨bq, rfl⟩, ht7⟩
         have HT7 := Lib.hid ht7
         clear ht7 HACT
         go_wp2
         go_roundw
         case rel => exact ⟨k + 1, _, _, by omega, by omega, by go_num, HT7.out, HC2.out.1, HC2.out.2⟩
         case measure => simp [intOf]; omega
     · have HEND := Lib.hid hgo
       have HP := Lib.hid HTW.out.pair
       clear hgo HTW HCS
       by_cases hlt : k < l2.length
       · have d2 : decide ((k : Int) < 100) = false := decide_eq_false (by have := HEND.out; omega)
         go_wp2
         go_meet
         exact HP.out
       · have hlt' : l2.length ≤ k := by omega
         go_wp2
         go_meet
         exact HP.out
  have HP := Lib.hid hcut
  clear hcut HTW
  obtain ⟨wz, hwz⟩ : ∃ wz, wz = wc := ⟨_, rfl⟩
  subst hwz
  have HAL := Lib.hid (alike_own g r s w wz HP.out (Nat.le_trans HC.out (by decide)) HNMD.out)
  have HTAIL := Lib.hid (fun w6 (hb : Below wz.heap.size wz w6) => HP.out.below hb)
  go_upto_region 10 with fail
  go_wp2_with (first
    | (go_at_call 15; refine HAL.out.mono ?_; rintro e w6 ⟨rfl, hb6⟩
       have HP6 := Lib.hid (HTAIL.out w6 hb6)
       clear hb6)
    | fail)
  have hok := HP6.out.ok
  obtain ⟨hc2, hc3, hc4⟩ := HP6.out.cells
  have HFIL := Lib.hid (fun w' (hb : Below w6.heap.size w6 w') => files_own (HP6.out.below hb) (Nat.le_trans HC.out (by decide)))
  have HCL := Lib.hid (fun w' (hb : Below w6.heap.size w6 w') => (HP6.out.below hb).cells)
  have HFU := Lib.hid hok.fuse
  have HSB := Lib.hid (fsize_big hok (Nat.le_trans HC.out (by decide)))
  clear hok
  obtain ⟨F, hF⟩ : ∃ F, s.files = F := ⟨_, rfl⟩
  rw [hF] at HFIL HSB
  have HF := Lib.hid hF
  clear hF
  go_cut [109] (fun cc wx => ∃ b, cc = .bool b ∧ Below w6.heap.size w6 wx ∧ (b = false → s.down = false ∧ s.fuse = 0 ∧ d.length ≤ 1000 ∧ (fsize F : Int) + (d.length : Int) ≤ s.room ∧ F.length ≤ 4000))
  case first =>
    cases hdn : s.down with
    | true =>
      rw [hdn] at hc4
      go_quiet (fail)
      go_wp2
      go_meet
      exact ⟨true, rfl, belowDrewN (Below.refl _ _) _, fun e => by cases e⟩
    | false =>
      have HDN := Lib.hid hdn
      rw [hdn] at hc4 HCL
      by_cases hfu : s.fuse > 0
      · have d1 : decide (s.fuse > 0) = true := decide_eq_true hfu
        go_quiet (fail)
        go_wp2
        go_meet
        exact ⟨true, rfl, belowDrewN (Below.refl _ _) _, fun e => by cases e⟩
      · have d1 : decide (s.fuse > 0) = false := decide_eq_false hfu
        have hfu0 : s.fuse = 0 := by have := HFU.out.1; omega
        have HFU0 := Lib.hid hfu0
        clear hfu0
        by_cases hdk : 1000 < d.length
        · have e2 : decide ((d.length : Int) > 1000) = true := decide_eq_true (by omega)
          go_quiet (fail)
          go_wp2
          go_meet
          exact ⟨true, rfl, belowDrewN (Below.refl _ _) _, fun e => by cases e⟩
        · have e2 : decide ((d.length : Int) > 1000) = false := decide_eq_false (by omega)
          have hfsb := HSB.out
          obtain ⟨ff, hff⟩ : ∃ ff, fsize F = ff := ⟨_, rfl⟩
          have HFF := Lib.hid hff
          rw [hff] at hfsb
          have hwr : IntKind.i64.wrap ((ff : Int) + (d.length : Int)) = (ff : Int) + (d.length : Int) := IntWalk.i64_in _ (by omega)
          have HT1 := Lib.hid trivial
          have HB0 := Lib.hid (show Below w6.heap.size w6 w6.drew from (Below.refl _ _).drew)
          have HFLN := Lib.hid (show F.length ≤ 68719476736 from HF.out ▸ Nat.le_trans (files_le HP6.out.ok) (Nat.le_trans HC.out (by decide)))
          clear hff
          by_cases hsz : (ff : Int) + (d.length : Int) > s.room
          · have e3 : decide ((ff : Int) + (d.length : Int) > s.room) = true := decide_eq_true hsz
            as_aux_lemma =>
              first | (go_region_held (fun w' => w'.cell? ⟨r, 2, none⟩ = some (.int .i64 s.room) ∧ w'.cell? ⟨r, 3, none⟩ = some (.int .i64 s.fuse) ∧ w'.cell? ⟨r, 4, none⟩ = some (.bool false))
                (first
                  | assumption
                  | exact HCL.out _ HB0.out
                  | exact HCL.out _ HB5.out
                  | exact HCL.out _ HB9.out)
                (first
                  | (go_at_call 18; clear HT1; refine (HFIL.out _ HB0.out).mono ?_; rintro e w5 ⟨v5, rfl, ho5, hb5⟩
                     obtain ⟨A5, c5, rfl, _⟩ := ho5.form
                     have HB5 := Lib.hid (HB0.out.trans (hb5.mono HB0.out.size))
                     have hsi := size_any _ w6.drew.heap.size (New8 w6.drew w5) F w5 ho5 (Nat.le_trans HSB.out (by decide))
                     rw [HFF.out] at hsi
                     have HSI := Lib.hid hsi
                     clear ho5 hb5 hsi)
                  | (go_at_call 30; refine HSI.out.mono ?_; rintro e w' ⟨rfl, rfl⟩))) | fail "x"
              all_goals
                go_wp2
                go_meet
                exact ⟨true, rfl, HB5.out, fun e => by cases e⟩
          · have e3 : decide ((ff : Int) + (d.length : Int) > s.room) = false := decide_eq_false hsz
            have HSZ := Lib.hid (show (ff : Int) + (d.length : Int) ≤ s.room by omega)
            obtain ⟨b4, hb4⟩ : ∃ b4, decide ((F.length : Int) > 4000) = b4 := ⟨_, rfl⟩
            have HB4 := Lib.hid hb4
            have hb4n : decide (F.length > 4000) = b4 := by
              rw [← hb4]
              exact decide_eq_decide.2 (by omega)
            as_aux_lemma =>
              first | (go_region_held3 (fun w' => w'.cell? ⟨r, 2, none⟩ = some (.int .i64 s.room) ∧ w'.cell? ⟨r, 3, none⟩ = some (.int .i64 s.fuse) ∧ w'.cell? ⟨r, 4, none⟩ = some (.bool false))
                (first
                  | assumption
                  | exact HCL.out _ HB0.out
                  | exact HCL.out _ HB5.out
                  | exact HCL.out _ HB9.out)
                (first
                  | (go_at_call 18; clear HT1; refine (HFIL.out _ HB0.out).mono ?_; rintro e w5 ⟨v5, rfl, ho5, hb5⟩
                     obtain ⟨A5, c5, rfl, _⟩ := ho5.form
                     have HB5 := Lib.hid (HB0.out.trans (hb5.mono HB0.out.size))
                     have hsi := size_any _ w6.drew.heap.size (New8 w6.drew w5) F w5 ho5 (Nat.le_trans HSB.out (by decide))
                     rw [HFF.out] at hsi
                     have HSI := Lib.hid hsi
                     clear ho5 hb5 hsi)
                  | (go_at_call 30; refine HSI.out.mono ?_; rintro e w' ⟨rfl, rfl⟩)
                  | (go_at_call 18; refine (HFIL.out _ HB5.out).mono ?_; rintro e w9 ⟨v9, rfl, ho9, hb9⟩
                     obtain ⟨A9, c9, rfl, _⟩ := ho9.form
                     have HB9 := Lib.hid (HB5.out.trans (hb9.mono HB5.out.size))
                     clear ho9 hb9))) | fail "x"
              go_wp2
              go_meet
              exact ⟨b4, rfl, HB9.out, fun e => ⟨HDN.out, HFU0.out, Nat.le_of_not_lt hdk, by rw [HFF.out]; exact HSZ.out, by
                have h4 := HB4.out
                rw [e] at h4
                have := of_decide_eq_false h4
                omega⟩⟩
  obtain ⟨bq, rfl, hbx, himp⟩ := hcut
  have HB67 := Lib.hid hbx
  cases bq with
  | true =>
    clear hc2 hc3 hc4 himp
    go_wp2
    go_ret
    exact ⟨rfl, By.ext HP6.out.far HB67.out⟩
  | false =>
    obtain ⟨hdn, hfu, hd1000, hroom, h4000⟩ := himp rfl
    obtain ⟨w7, hw7⟩ : ∃ w7, w7 = wc := ⟨_, rfl⟩
    subst hw7
    have hap := apart_plain HP6.out.ok hdn hfu (d := d) (by rw [HF.out]; exact hroom) (by rw [HF.out]; exact h4000)
    have HAP := Lib.hid hap
    have HP7 := Lib.hid (HP6.out.below hbx)
    have HD7 := Lib.hid (show Lies w7 w7.heap.size Ad d from (HD.out.below HP7.out.far).more HP7.out.far.size)
    clear hap hc2 hc3 hc4 himp hbx hdn hfu hroom h4000
    obtain ⟨S, T, M, hpa, hfr, hfa⟩ := HP7.out
    have HDK := Lib.hid hpa.d
    have HFR := Lib.hid (show ∀ b, S b → w.heap.size ≤ b from fun b h => hfr b (.inl h))
    have HFAR := Lib.hid hfa
    clear hpa hfr hfa
    go_wp2_with (first
      | (at_builtin; refine wpList_app rfl (.tmp 110) (.tmp 111) rfl rfl (Own.made w7 w7.heap.size #[] 0 (Nat.le_refl _) (by decide) rfl) rfl rfl (HD7.out.alloc (Nat.le_refl _) _) (by simp; omega) (by simp) ?_; intro v8 w8 ho8 hb8 hg8
         simp only [List.nil_append] at ho8
         have HB8 := Lib.hid (show Below w7.heap.size w7 w8 from ((Below.refl _ _).alloc (Nat.le_refl _) _).trans hb8)
         obtain ⟨A8, c8, rfl, hc8, _, _, _, _⟩ := ho8.form
         have HO8 := Lib.hid ho8
         have HC8 := Lib.hid hc8
         clear hb8 hg8 ho8 hc8)
      | fail)
    have hpu := put_any g s S zz 0 d A8 d.length c8 w8 (HDK.out.below HB8.out) (Nat.le_trans HC.out (by decide)) (by omega) (by decide) rfl HC8.out (fun b => w7.heap.size ≤ b ∧ b < w8.heap.size ∧ U8 w8 b) (fun b hb => ⟨fun e => by have := HDK.out.lt.1 g HDK.out.lt.2.1; omega, hb.2.1⟩) (lies8 HO8.out)
    rw [HAP.out.1] at hpu
    have HPU := Lib.hid hpu
    clear hpu
    obtain ⟨s4, hs4⟩ : ∃ s4, chgS s 1 zz 0 d = s4 := ⟨_, rfl⟩
    obtain ⟨B, hB⟩ : ∃ B, putB (bytesOf s.files zz) 0 d = B := ⟨_, rfl⟩
    have HBG := Lib.hid (show (∀ j (hj : j < d.length), B[j]? = some d[j]) ∧ d.length ≤ B.length from by rw [← hB]; exact ⟨fun j hj => apart_get hj, by rw [putB_length]; omega⟩)
    have hap2 := HAP.out.2
    rw [hs4, hB] at hap2
    rw [hs4] at HPU
    have HRD := Lib.hid hap2
    clear hap2 hs4 hB
    refine HPU.out.mono ?_
    rintro e w9 ⟨rfl, S4, hd4, hS4, hk4⟩
    have HD4 := Lib.hid hd4
    have HFR4 := Lib.hid (show ∀ b, S4 b → w.heap.size ≤ b from fun b h => (hS4 b h).elim (HFR.out b) (fun h => by have := HFAR.out.size; have := HB8.out.size; omega))
    have ho9 : Own w7.heap.size w9 (.slice A8 d.length c8) d := own_keep8 HO8.out (fun b hb => hk4.block b (ownsRow_lt HO8.out hb).2 (fun h => by have h1 := HDK.out.lt.1 b h; have h2 := (ownsRow_lt HO8.out hb).1; omega))
    have HO9 := Lib.hid ho9
    have HNI := Lib.hid (show ∀ b, (Value.slice A8 d.length c8).ownBlock = some b → ¬ S4 b from fun b hb h => by
      have h1 := ownsRow_lt HO8.out hb
      rcases hS4 b h with h2 | h2
      · have := HDK.out.lt.1 b h2; omega
      · omega)
    have HFAR9 := Lib.hid (show Below w.heap.size w w9 from (By.ext HFAR.out HB8.out).trans (hk4.below (Nat.le_trans HFAR.out.size HB8.out.size) (fun b h => HFR.out b h)))
    clear hd4 hS4 hk4 ho9 HPU HO8 HDK
    go_wp2
    go_loopw [15] (fun i wr => ∃ (k : Nat) (lq : Bs), k ≤ d.length ∧ i = .int .i64 (k : Int) ∧ lq.length = d.length ∧ Own w7.heap.size wr (.slice A8 d.length c8) lq ∧ DiskAt wr g s4 S4 ∧ Below w.heap.size w wr) (fun i _ => d.length - (intOf i).toNat)
    case atStart => exact ⟨0, d, Nat.zero_le _, rfl, rfl, HO9.out, HD4.out, HFAR9.out⟩
    case round =>
      obtain ⟨k, lq, hk, rfl, hlq, hoq, hdq, hbq⟩ := hrel
      have HOQ := Lib.hid hoq
      have HDQ := Lib.hid hdq
      have HBQ := Lib.hid hbq
      have HLQ := Lib.hid hlq
      clear hlq hoq hdq hbq HO9 HD4 HFAR9
      by_cases hlt : k < d.length
      · obtain ⟨qb, rfl, hq1, hq2, -⟩ := own_head HOQ.out (show 0 < d.length by omega)
        have hcl := own_cell HOQ.out (j := k) (by have := HLQ.out; omega)
        have hfz := own_free HOQ.out HLQ.out.symm k
        have hst := (own_set HOQ.out HLQ.out.symm k 99).1
        have HST := Lib.hid hst
        have HDS := Lib.hid (disk_set HDQ.out (p := ⟨qb, k, none⟩) (HNI.out qb rfl) (bv 99))
        have HBS := Lib.hid (HBQ.out.setCell (p := ⟨qb, k, none⟩) (show w.heap.size ≤ qb by have := HFAR.out.size; omega) (bv 99))
        clear hst hq1 hq2
        go_wp2
        go_roundw
        case rel => exact ⟨k + 1, _, by omega, by go_num, by rw [List.length_set]; exact HLQ.out, HST.out, HDS.out, HBS.out⟩
        case measure => simp [intOf]; omega
      · have hrd := read_any g s4 S4 zz wr HDQ.out (by decide)
        rw [HRD.out.1, HRD.out.2] at hrd
        have HRA := Lib.hid hrd
        clear hrd
        go_wp2_with fail
        refine HRA.out.mono ?_
        rintro e w10 ⟨v10, rfl, ho10, hb10⟩
        obtain ⟨A10, c10, rfl, _, _, _, _, _⟩ := ho10.form
        obtain ⟨wq, hwq⟩ : ∃ wq, wq = wr := ⟨_, rfl⟩
        subst hwq
        have HO10 := Lib.hid ho10
        have HD10 := Lib.hid (HDQ.out.below hb10)
        have HB10 := Lib.hid (By.ext HBQ.out hb10)
        have HN10 := Lib.hid (show ∀ b, (Value.slice A10 B.length c10).ownBlock = some b → ¬ S4 b from fun b hb h => by
          have h1 := (ownsRow_lt ho10 hb).1
          have h2 := HDQ.out.lt.1 b h
          omega)
        have HWQ := Lib.hid (show w.heap.size ≤ wq.heap.size from HBQ.out.size)
        clear ho10 hb10 HRA HOQ
        obtain ⟨bl, hbl⟩ : ∃ bl, B.length = bl := ⟨_, rfl⟩
        have HBL := Lib.hid hbl
        rw [hbl] at HN10 HO10 ⊢
        have hge : d.length ≤ bl := by rw [← hbl]; exact HBG.out.2
        clear hbl
        go_wp2
        go_loopw [18] (fun i wr => ∃ (k : Nat) (lq : Bs), k ≤ d.length ∧ i = .int .i64 (k : Int) ∧ lq.length = bl ∧ (∀ j, k ≤ j → lq[j]? = B[j]?) ∧ Own wq.heap.size wr (.slice A10 bl c10) lq ∧ DiskAt wr g s4 S4 ∧ Below w.heap.size w wr) (fun i _ => d.length - (intOf i).toNat)
        case atStart => exact ⟨0, B, Nat.zero_le _, rfl, HBL.out, fun _ _ => rfl, HO10.out, HD10.out, HB10.out⟩
        case round =>
          obtain ⟨k3, lq, hk3, rfl, hlq, hsame, hoq, hdq, hbq⟩ := hrel
          have HSM := Lib.hid hsame
          have HOQ := Lib.hid hoq
          have HDR := Lib.hid hdq
          have HBR := Lib.hid hbq
          have HLQ := Lib.hid hlq
          clear hlq hsame hoq hdq hbq HO10 HD10 HB10
          by_cases hlt3 : k3 < d.length
          · have hltb : k3 < bl := by omega
            have z1 : decide ((k3 : Int) < (bl : Int)) = true := decide_eq_true (by omega)
            have z2 : decide (k3 < bl) = true := decide_eq_true hltb
            have z3 : decide ((k3 : Int) < (d.length : Int)) = true := decide_eq_true (by omega)
            have z4 : decide (k3 < d.length) = true := decide_eq_true hlt3
            obtain ⟨qb, rfl, hq1, hq2, -⟩ := own_head HOQ.out (show 0 < bl by omega)
            obtain ⟨gd, od, rfl, hgd, hcd⟩ := HD.out.at_ hlt3
            have hcd' : wr.cell? ⟨gd, od + k3, none⟩ = some (.int .u8 (d[k3].toNat : Int)) := (HBR.out.cell (show gd < w.heap.size from hgd)).trans hcd
            have hcl := own_cell HOQ.out (j := k3) (by have := HLQ.out; omega)
            have hval : lq[k3]'(by have := HLQ.out; omega) = d[k3] := by
              have h1 := HSM.out k3 (Nat.le_refl _)
              rw [HBG.out.1 k3 hlt3, List.getElem?_eq_getElem (by have := HLQ.out; omega)] at h1
              injection h1
            rw [hval] at hcl
            have hfz : wr.frozen? ⟨qb, k3, none⟩ = false := own_free HOQ.out HLQ.out.symm k3
            have hst := (own_set HOQ.out HLQ.out.symm k3 98).1
            have HST := Lib.hid hst
            have HDS := Lib.hid (fun q => disk_set (HDR.out.below (belowDrewN (Below.refl _ wr) q)) (p := ⟨qb, k3, none⟩) (HN10.out qb rfl) (bv 98))
            have HBS := Lib.hid (fun q => (belowDrewN HBR.out q).setCell (p := ⟨qb, k3, none⟩) (show w.heap.size ≤ qb by have := HWQ.out; omega) (bv 98))
            obtain ⟨x, hx⟩ : ∃ x, d[k3] = x := ⟨_, rfl⟩
            rw [hx] at hcd' hcl
            clear hst hq1 hq2 hval hcd hgd hx
            go_wp2
            go_quiet (fail)
            go_wp2
            go_roundw
            case rel =>
              refine ⟨k3 + 1, _, by omega, by go_num, by rw [List.length_set]; exact HLQ.out, fun j hj => ?_, HST.out, HDS.out _, HBS.out _⟩
              rw [List.getElem?_set_ne (by omega)]
              exact HSM.out j (by omega)
            case measure => simp [intOf]; omega
          · have hk3d : k3 = d.length := by omega
            have z3 : decide ((k3 : Int) < (d.length : Int)) = false := decide_eq_false (by omega)
            have z4 : decide (k3 < d.length) = false := decide_eq_false hlt3
            have hrd := read_any g s4 S4 zz wr HDR.out (by decide)
            rw [HRD.out.1, HRD.out.2] at hrd
            have HRA := Lib.hid hrd
            clear hrd
            by_cases hkb : k3 < bl
            · have y1 : decide ((k3 : Int) < (bl : Int)) = true := decide_eq_true (by omega)
              have y2 : decide (k3 < bl) = true := decide_eq_true hkb
              go_wp2_with fail
              refine HRA.out.mono ?_
              rintro e w11 ⟨v11, rfl, ho11, hb11⟩
              obtain ⟨A11, c11, rfl, _, _, _, hl11, _⟩ := ho11.form
              rw [HBL.out]
              have HB11 := Lib.hid (By.ext HBR.out hb11)
              have x1 : decide ((bl : Int) ≥ (d.length : Int)) = true := decide_eq_true (by omega)
              have x2 : decide (d.length ≤ bl) = true := decide_eq_true hge
              by_cases hd0 : d.length = 0
              · have x3 : ((d.length : Int) == 0) = true := by simpa using (show (d.length : Int) = 0 by omega)
                clear ho11 hb11 hl11 HRA
                go_wp2
                go_quiet (fail)
                go_wp2
                go_ret
                exact ⟨rfl, belowDrewN HB11.out _⟩
              · have x3 : ((d.length : Int) == 0) = false := by simpa using (show ¬ (d.length : Int) = 0 by omega)
                have hd0' : 0 < d.length := by omega
                obtain ⟨gd, od, rfl, hgd, hcd⟩ := HD.out.at_ hd0'
                have hcd' : w11.cell? ⟨gd, od, none⟩ = some (.int .u8 (d[0].toNat : Int)) := (HB11.out.cell (show gd < w.heap.size from hgd)).trans (by simpa using hcd)
                obtain ⟨qz, eq, -, -, -⟩ := own_head ho11 (show 0 < B.length by have := HBG.out.2; omega)
                subst eq
                have hcz := own_cell ho11 (j := 0) (by have := HBG.out.2; omega)
                have hval : B[0]'(by have := HBG.out.2; omega) = d[0] := by
                  have h1 := HBG.out.1 0 hd0'
                  rw [List.getElem?_eq_getElem (by have := HBG.out.2; omega)] at h1
                  injection h1
                rw [hval] at hcz
                obtain ⟨x, hx⟩ : ∃ x, d[0] = x := ⟨_, rfl⟩
                rw [hx] at hcd' hcz
                have hbl0 : 0 < bl := by omega
                clear ho11 hb11 hl11 HRA hcd hgd hval hx
                go_wp2
                go_quiet (fail)
                go_wp2
                go_ret
                exact ⟨rfl, belowDrewN HB11.out _⟩
            · have hkb' : bl ≤ k3 := by omega
              have y1 : decide ((k3 : Int) < (bl : Int)) = false := decide_eq_false (by omega)
              have y2 : decide (k3 < bl) = false := decide_eq_false hkb
              go_wp2_with fail
              refine HRA.out.mono ?_
              rintro e w11 ⟨v11, rfl, ho11, hb11⟩
              obtain ⟨A11, c11, rfl, _, _, _, hl11, _⟩ := ho11.form
              rw [HBL.out]
              have HB11 := Lib.hid (By.ext HBR.out hb11)
              have x1 : decide ((bl : Int) ≥ (d.length : Int)) = true := decide_eq_true (by omega)
              have x2 : decide (d.length ≤ bl) = true := decide_eq_true hge
              by_cases hd0 : d.length = 0
              · have x3 : ((d.length : Int) == 0) = true := by simpa using (show (d.length : Int) = 0 by omega)
                clear ho11 hb11 hl11 HRA
                go_wp2
                go_quiet (fail)
                go_wp2
                go_ret
                exact ⟨rfl, belowDrewN HB11.out _⟩
              · have x3 : ((d.length : Int) == 0) = false := by simpa using (show ¬ (d.length : Int) = 0 by omega)
                have hd0' : 0 < d.length := by omega
                obtain ⟨gd, od, rfl, hgd, hcd⟩ := HD.out.at_ hd0'
                have hcd' : w11.cell? ⟨gd, od, none⟩ = some (.int .u8 (d[0].toNat : Int)) := (HB11.out.cell (show gd < w.heap.size from hgd)).trans (by simpa using hcd)
                obtain ⟨qz, eq, -, -, -⟩ := own_head ho11 (show 0 < B.length by have := HBG.out.2; omega)
                subst eq
                have hcz := own_cell ho11 (j := 0) (by have := HBG.out.2; omega)
                have hval : B[0]'(by have := HBG.out.2; omega) = d[0] := by
                  have h1 := HBG.out.1 0 hd0'
                  rw [List.getElem?_eq_getElem (by have := HBG.out.2; omega)] at h1
                  injection h1
                rw [hval] at hcz
                obtain ⟨x, hx⟩ : ∃ x, d[0] = x := ⟨_, rfl⟩
                rw [hx] at hcd' hcz
                have hbl0 : 0 < bl := by omega
                clear ho11 hb11 hl11 HRA hcd hgd hval hx
                go_wp2
                go_quiet (fail)
                go_wp2
                go_ret
                exact ⟨rfl, belowDrewN HB11.out _⟩
end Go.Proofs.Ytolomblbcljdfaa.Dk
