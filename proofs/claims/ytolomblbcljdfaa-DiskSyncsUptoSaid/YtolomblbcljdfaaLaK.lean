/- The walk of DiskSyncs. -/
import Derived.Test.YtolomblbcljdfaaLaJ
namespace Go.Proofs.Ytolomblbcljdfaa.Dk
open Go.RowKit Go.Maps By Mp

set_option maxRecDepth 100000 in
set_option maxHeartbeats 4000000 in
theorem diskSyncs_walk (room : Int) (A : Option Addr) (c : Nat) (l : List A1) (m : Int) (t : Int) (b : Bool) (hm : 0 ≤ m ∧ m ≤ 18446744073709551615) (w : World) (h : LiesA w w.heap.size A l) (ha : ActsOk l) :
    Calls Try.prog 4 #[.int .i64 room, .slice A l.length c, .int .u64 m, .int .i64 t, .bool b] w (True_ w) := by
  obtain ⟨mn, rfl⟩ := Int.eq_ofNat_of_zero_le hm.1
  have q1 := ptrEq
  go_enter Try.func4, Try.ntmps4
  go_wp2_with fail
  refine (grown_any room A c l w h ha).mono ?_
  rintro e w1 ⟨g, r, rfl, hp1, hc1⟩
  obtain ⟨s, hs⟩ : ∃ s, growS room l = s := ⟨_, rfl⟩
  have hn1 := nmd_grow room l
  rw [hs] at hp1 hc1 hn1
  have HP1 := Lib.hid hp1
  have HC := Lib.hid (Nat.le_trans hc1 (by decide : 200 ≤ 68719476536))
  have HNMD := Lib.hid hn1
  clear hs hp1 hc1 hn1
  go_wp2_with fail
  refine (answers_any w1).mono ?_
  rintro e w2 ⟨rfl, hb2⟩
  have HP2 := Lib.hid (HP1.out.below hb2)
  clear hb2 HP1
  obtain ⟨-, hc3, hc4⟩ := HP2.out.cells
  cases hdown : s.down with
  | true =>
    rw [hdown] at hc4
    go_wp2
    go_ret
    exact ⟨rfl, HP2.out.far⟩
  | false =>
    rw [hdown] at hc4
    by_cases hfu : s.fuse > 0
    · have d1 : decide (s.fuse > 0) = true := decide_eq_true hfu
      go_wp2
      go_ret
      exact ⟨rfl, HP2.out.far⟩
    · have d1 : decide (s.fuse > 0) = false := decide_eq_false hfu
      have hfu0 : s.fuse = 0 := by have := HP2.out.ok.fuse.1; omega
      have HCA := Lib.hid (sync_calm hdown hfu0)
      have HUP := Lib.hid (show Up s.files from up_all HP2.out.ok.up)
      have HNM := Lib.hid (nmd_files HNMD.out)
      have HFL := Lib.hid (Nat.le_trans (files_le HP2.out.ok) (Nat.le_trans HC.out (by decide : 68719476536 ≤ 68719476736)))
      clear hdown hfu0
      go_wp2_with fail
      refine (files_own HP2.out (Nat.le_trans HC.out (by decide))).mono ?_
      rintro e w3 ⟨v13, rfl, ho3, hb3⟩
      obtain ⟨X, hX⟩ : ∃ X : Nat → Prop, X = fun b => w2.heap.size ≤ b ∧ b < w3.heap.size := ⟨_, rfl⟩
      have hox := HP2.out.x hb3
      have hhf := held_of ho3
      rw [← hX] at hox hhf
      obtain ⟨S, hdx⟩ := hox.disk
      obtain ⟨AF, cF, rfl, _⟩ := ho3.form
      have HDX3 := Lib.hid hdx
      have HHF3 := Lib.hid hhf
      clear hX hox hhf hdx ho3 hb3 hc3 hc4 d1
      obtain ⟨F, hF⟩ : ∃ F, s.files = F := ⟨_, rfl⟩
      rw [hF] at HUP HNM HFL HHF3 HCA ⊢
      have HF := Lib.hid hF
      clear hF
      go_upto_if 42 with fail
      go_cut [2, 3] (fun x2 x3 wx => ∃ (m' : Nat) (t' : Int) (s' : DS) (S' : Nat → Prop), x2 = .int .u64 (m' : Int) ∧ x3 = .int .i64 t' ∧ m' < 18446744073709551616 ∧ DX X w wx g s' S' ∧ falS s' m' t' = calmS F s.room ∧ s'.cnt ≤ 68719476736 ∧ ∀ b, X b → wx.heap[b]? = w3.heap[b]?)
      case first =>
        cases b with
        | true =>
          have hsy := sync_any g s S w3 HDX3.out.1 (Nat.le_trans HC.out (by decide))
          rw [HCA.out.1, HCA.out.2] at hsy
          have HSY := Lib.hid hsy
          clear hsy
          go_wp2_with fail
          refine HSY.out.mono ?_
          intro e w4 hst
          obtain ⟨rfl, S4, hd4, hk4⟩ := HDX3.out.step hst
          have HD4 := Lib.hid hd4
          have HK4 := Lib.hid hk4
          clear hst hd4 hk4 HSY
          go_wp2
          go_meet
          exact ⟨mn, t, _, S4, rfl, rfl, by omega, HD4.out, falS_calm _ _ _ _, (show F.length + 0 ≤ _ from HFL.out), HK4.out⟩
        | false =>
          go_wp2
          go_meet
          exact ⟨18446744073709551615, -1, s, S, rfl, rfl, by decide, HDX3.out, HF.out ▸ falS_all s, Nat.le_trans HC.out (by decide), fun _ _ => rfl⟩
      obtain ⟨m', t', s', S', rfl, rfl, hm', hdx, hfal, hcn, hkx⟩ := hcut
      have hfl := fall_any g s' S' m' t' wc hdx.1 hm' hcn
      rw [hfal] at hfl
      have HFA := Lib.hid hfl
      have HDX4 := Lib.hid hdx
      have HHF4 := Lib.hid (HHF3.out.keep hkx)
      clear hdx hfal hcn hkx hfl hm'
      obtain ⟨s3, hs3⟩ : ∃ s3, calmS F s.room = s3 := ⟨_, rfl⟩
      have HFS := Lib.hid (show s3.files = F ∧ s3.down = false by rw [← hs3]; exact ⟨rfl, rfl⟩)
      have HUN := Lib.hid (show s3.unsure = [] ∧ s3.cnt ≤ 68719476736 by rw [← hs3]; exact ⟨rfl, (show F.length + 0 ≤ _ from HFL.out)⟩)
      rw [hs3] at HFA
      clear hs3
      go_wp2_with (first
        | (go_at_call 20; refine HFA.out.mono ?_; intro e w5 hst
           obtain ⟨rfl, S5, hd5, hk5⟩ := HDX4.out.step hst
           have HD5 := Lib.hid hd5
           have HHF5 := Lib.hid (HHF4.out.keep hk5)
           have hun := unsure_any g s3 S5 w5 hd5.1 HUN.out.2
           rw [HUN.out.1] at hun
           have HUS := Lib.hid hun
           clear hst hd5 hk5 hun)
        | (go_at_call 21; refine HUS.out.mono ?_; rintro e w6 ⟨v6, rfl, hw6, hb6⟩
           obtain ⟨A6, c6, rfl, _⟩ := hw6.form
           have HD6 := Lib.hid (HD5.out.below hb6)
           have HB6 := Lib.hid hb6
           have hdn := down_any g s3 S5 w6 (HD5.out.below hb6).1
           rw [HFS.out.2] at hdn
           have HDN := Lib.hid hdn
           clear hw6 hb6 hdn)
        | (go_at_call 22; refine HDN.out.mono ?_; rintro e w' ⟨rfl, rfl⟩)
        | fail)
      have HDX := Lib.hid HD6.out
      have HHF := Lib.hid (HHF5.out.keep (fun b hx => HB6.out.block b (HD5.out.2.2.1 b hx)))
      have HST0 := Lib.hid (Below.refl w6.heap.size w6)
      clear HD5 HD6 HHF5 HB6 HDN HUS HFA HDX4 HHF4 HHF3 HDX3
      go_loopw [14] (fun i wr => ∃ k : Nat, k ≤ F.length ∧ i = .int .i64 (k : Int) ∧ Below w6.heap.size w6 wr) (fun i _ => F.length - (intOf i).toNat)
      case atStart => exact ⟨0, Nat.zero_le _, rfl, HST0.out⟩
      case round =>
        obtain ⟨k2, hk2, rfl, hb⟩ := hrel
        have HBK := Lib.hid hb
        clear hb
        have hfll := HFL.out
        by_cases hlt2 : k2 < F.length
        · obtain ⟨uf, capf, A1, c1, e0, _, huf, hd1, hd2, hx0, hx1⟩ := HHF.out.1.at_ hlt2
          obtain ⟨p, hp⟩ : ∃ p, p = F[k2] := ⟨_, rfl⟩
          have hpm : p ∈ F := hp ▸ List.getElem_mem hlt2
          rw [← hp] at hd1 hd2 hx0 hx1
          simp only [Value.slice.injEq, true_and] at e0
          obtain ⟨rfl, rfl⟩ := e0
          have hq0 : wr.cell? ⟨uf, k2 * 2, none⟩ = some (.string (str p.1)) := (HBK.out.cell huf).trans hx0
          have hq1 : wr.cell? ⟨uf, k2 * 2 + 1, none⟩ = some (.slice A1 p.2.length c1) := (HBK.out.cell huf).trans hx1
          have HL1 := Lib.hid (show Lies wr wr.heap.size A1 p.2 from ((hd2.lies (B := w6.heap.size) (fun b hb => HDX.out.2.2.1 b hb)).below HBK.out).more HBK.out.size)
          have hnp : named p.1 = true := HNM.out p hpm
          have hgp : fget s3.files p.1 = some p.2 := by rw [HFS.out.1]; exact fget_mem HUP.out hpm
          have hre : readE s3 p.1 = 0 := by unfold readE fthere; rw [HFS.out.2, hnp, hgp]; simp
          have hrb : readB s3 p.1 = p.2 := by unfold readB bytesOf; rw [hre, if_pos rfl, hgp]; rfl
          have hnl : p.1.length ≤ 140737488355328 := by
            rw [named_eq, Bool.and_eq_true, Bool.and_eq_true, decide_eq_true_eq, decide_eq_true_eq] at hnp
            omega
          have hrd := read_any g s3 S5 p.1 wr (HDX.out.1.below HBK.out) hnl
          rw [hre, hrb] at hrd
          have HRR := Lib.hid hrd
          clear hpm hp hd1 hd2 hx0 hx1 hnp hgp hre hrb hrd
          go_wp2_with fail
          refine HRR.out.mono ?_
          rintro e wx ⟨vx, rfl, hox, hbx⟩
          obtain ⟨Ax, cx, rfl, _, _, _, hlx, _⟩ := hox.form
          have hqx0 : wx.cell? ⟨uf, k2 * 2, none⟩ = some (.string (str p.1)) := (hbx.cell (show uf < wr.heap.size by have := HBK.out.size; omega)).trans hq0
          have hqx1 : wx.cell? ⟨uf, k2 * 2 + 1, none⟩ = some (.slice A1 p.2.length c1) := (hbx.cell (show uf < wr.heap.size by have := HBK.out.size; omega)).trans hq1
          have htx := fun q => run_text (wx.drewN q) (n := p.2.length) cx rfl (hlx.drewN q)
          have hty := fun q => run_text (wx.drewN q) (n := p.2.length) c1 rfl ((HL1.out.below hbx).drewN q)
          have hsd : ((str p.2).toList != (str p.2).toList) = false := bne_self_eq_false _
          have HBX := Lib.hid (By.ext HBK.out hbx)
          clear hox hbx hlx hq0 hq1 HRR
          go_wp2
          go_quiet (fail)
          go_wp2
          go_roundw
          case rel => exact ⟨k2 + 1, by omega, by go_num, belowDrewN HBX.out _⟩
          case measure => simp [intOf]; omega
        · clear hfll
          have hna := names_any g s3 S5 wr (HDX.out.1.below HBK.out) HUN.out.2
          have HNL := Lib.hid (show (namesS s3).length = F.length by unfold namesS; rw [HFS.out.2, HFS.out.1]; simp [namesOf])
          have HNA := Lib.hid hna
          clear hna
          go_wp2_with fail
          refine HNA.out.mono ?_
          rintro e wy ⟨vy, rfl, hoy, hby⟩
          obtain ⟨Ay, cy, rfl⟩ := ownsRow_form hoy
          rw [HNL.out]
          have HB := Lib.hid (By.ext (By.ext HDX.out.2.2.2 HBK.out) hby)
          clear hoy hby HNA
          go_wp2
          go_ret
          exact ⟨rfl, HB.out⟩
end Go.Proofs.Ytolomblbcljdfaa.Dk
