/- The reference's Fall, as a contract of a call. -/
import Derived.Test.YtcfnfphnjkllcaaEF
import Derived.Test.YtcfnfphnjkllcaaRfK
namespace Go.Proofs.Ytcfnfphnjkllcaa.Dk
open Go.RowKit Go.Maps By Mp

theorem GotR.below {w wr w' : World} {v : Value} {F : Fs} (h : GotR w wr v F) (hb : Below wr.heap.size wr w') : GotR w w' v F :=
  ⟨h.1.keep (fun b hb' => hb.block b (rf_own_lt h.1 hb').2) (fun b hb' => hb.block b hb'.2.1) (fun b hb' => ⟨hb'.1, Nat.lt_of_lt_of_le hb'.2.1 hb.size, u8_keep hb'.2.2 (hb.block b hb'.2.1)⟩), h.2.trans (hb.mono h.2.size)⟩
theorem GotR.alloc {w wr : World} {v : Value} {F : Fs} (h : GotR w wr v F) (o : Obj) : GotR w (wr.alloc o) v F := h.below ((Below.refl _ _).alloc (Nat.le_refl _) o)
set_option maxRecDepth 100000 in
set_option maxHeartbeats 4000000 in
theorem rfall_any (r : Nat) (s : DS) (T M : Nat → Prop) (m : Nat) (t : Int) (w : World) (h : RDAt w r s T M) (hcnt : s.cnt ≤ 68719476736) :
    Calls Try.prog 37 #[.pointer (some ⟨r, 0, none⟩), .int .u64 (m : Int), .int .i64 t] w (RDStep (.tuple #[]) r (falS s m t) T M w) := by
  obtain ⟨v, u, h⟩ := h
  obtain ⟨Av, cv, hv, _, hmv, _⟩ := h.sure.form
  obtain ⟨A, c, hu, hc, hmm, hub⟩ := h.un.form
  subst hv hu
  have HR := Lib.hid (fun w' (hb : Below w.heap.size w w') => (show w'.cell? ⟨r, 1, none⟩ = some (.slice A s.unsure.length c) by rw [cell_of_row w' r 1 _ _ _ ((hb.block r (row_lt h.row)).trans h.row)]; rfl))
  have hul : s.unsure.length ≤ 68719476736 := by unfold DS.cnt at hcnt; omega
  have HH := Lib.hid h
  have HC := Lib.hid hcnt
  have hr1 := HR.out w (Below.refl _ _)
  clear h hcnt hub
  go_enter Try.func37, Try.ntmps37
  go_wp2
  go_loopw [6, 7] (fun last i wr => ∃ k : Nat, k ≤ s.unsure.length ∧ i = .int .i64 (k : Int) ∧ last = .int .i64 (lastP m 0 (-1) (s.unsure.take k)) ∧ wr = w) (fun _ i _ => s.unsure.length - (intOf i).toNat)
  case atStart => exact ⟨0, Nat.zero_le _, rfl, rfl, rfl⟩
  case round =>
    obtain ⟨k, hk, rfl, rfl, rfl⟩ := hrel
    by_cases hlt : k < s.unsure.length
    · obtain ⟨ub, cap, A1, c1, e0, _, hub, hd1, hd2, hx0, hx1, hx2, hx3⟩ := HH.out.un.at_ hlt
      obtain ⟨x, hx⟩ : ∃ x, x = s.unsure[k] := ⟨_, rfl⟩
      rw [← hx] at hd1 hd2 hx0 hx1 hx2 hx3
      have HTK := Lib.hid (lastP_take (m := m) hlt)
      rw [← hx] at HTK
      simp only [Value.slice.injEq, true_and] at e0
      obtain ⟨rfl, rfl⟩ := e0
      clear hx1 hx2 hx3 hd1 hd2 hx
      have hs1 := stays_val m k
      cases hst : stays m k with
      | false =>
        rw [hst, if_neg (by simp)] at hs1
        rw [hst, if_neg (by simp)] at HTK
        clear hst
        go_wp2
        go_roundw
        case rel => exact ⟨k + 1, by omega, by go_num, by rw [HTK.out], trivial⟩
        case measure => simp [intOf]; omega
      | true =>
        rw [hst, if_pos rfl] at hs1
        by_cases hk1 : x.kind = 1
        · have hkb : ((x.kind : Int) == 1) = true := by simpa using (show (x.kind : Int) = 1 by omega)
          rw [hst, if_pos ⟨rfl, hk1⟩] at HTK
          clear hst hk1
          go_wp2
          go_roundw
          case rel => exact ⟨k + 1, by omega, by go_num, by rw [HTK.out], trivial⟩
          case measure => simp [intOf]; omega
        · have hkb : ((x.kind : Int) == 1) = false := by simpa using (show ¬ (x.kind : Int) = 1 by omega)
          rw [hst, if_neg (fun e => hk1 e.2)] at HTK
          clear hst hk1
          go_wp2
          go_roundw
          case rel => exact ⟨k + 1, by omega, by go_num, by rw [HTK.out], trivial⟩
          case measure => simp [intOf]; omega
    · have hke : k = s.unsure.length := by omega
      subst hke
      rw [List.take_length]
      obtain ⟨last, hla⟩ : ∃ last, lastP m 0 (-1) s.unsure = last := ⟨_, rfl⟩
      rw [hla]
      have HLA := Lib.hid hla
      have HOWN := Lib.hid (own_any (.slice Av s.sure.length cv) 0 (fun b => T b ∧ U8 wr b) s.sure wr HH.out.sure (fun b hb => HH.out.lt b hb.1) (by have := HC.out; unfold DS.cnt at this; omega) (fun p hp => Nat.le_trans (HH.out.ok.fit p hp).1 (by decide)))
      have h0 : wr.cell? ⟨r, 0, none⟩ = some (.slice Av s.sure.length cv) := by rw [cell_of_row wr r 0 _ _ _ HH.out.row]; rfl
      clear hla
      go_wp2_with fail
      refine HOWN.out.mono ?_
      rintro e w1 ⟨v1, rfl, ho1, hb1⟩
      have HG := Lib.hid (show GotR wr w1 v1 s.sure from ⟨ho1.at_, hb1⟩)
      clear ho1 hb1 HOWN h0 hr1
      obtain ⟨w, hww⟩ : ∃ w, w = wr := ⟨_, rfl⟩
      subst hww
      go_wp2
      go_loopw [8, 9] (fun vv i wr => ∃ k : Nat, k ≤ s.unsure.length ∧ i = .int .i64 (k : Int) ∧ GotR w wr vv ((rsl m t last 0 (s.unsure.take k)).foldl doW s.sure)) (fun _ i _ => s.unsure.length - (intOf i).toNat)
      case atStart => exact ⟨0, Nat.zero_le _, rfl, HG.out⟩
      case round =>
        obtain ⟨k, hk, rfl, hg⟩ := hrel
        have HGR := Lib.hid hg
        have hr1 := HR.out _ hg.2
        clear hg HG
        by_cases hlt : k < s.unsure.length
        · obtain ⟨ub, cap, A1, c1, e0, _, hub, hd1, hd2, hx0, hx1, hx2, hx3⟩ := HH.out.un.at_ hlt
          obtain ⟨x, hx⟩ : ∃ x, x = s.unsure[k] := ⟨_, rfl⟩
          rw [← hx] at hd1 hd2 hx0 hx1 hx2 hx3
          have hox := HH.out.ok.un x (hx ▸ List.getElem_mem hlt)
          have HTK := Lib.hid (rsl_take (m := m) (t := t) (last := last) hlt)
          rw [← hx] at HTK
          simp only [Value.slice.injEq, true_and] at e0
          obtain ⟨rfl, rfl⟩ := e0
          have hc0 : wr.cell? ⟨ub, k * 4, none⟩ = some (.int .i64 (x.kind : Nat)) := (HGR.out.2.cell hub).trans hx0
          have hc1 : wr.cell? ⟨ub, k * 4 + 1, none⟩ = some (.string (str x.name)) := (HGR.out.2.cell hub).trans hx1
          have hc2 : wr.cell? ⟨ub, k * 4 + 2, none⟩ = some (.int .i64 (x.off : Nat)) := (HGR.out.2.cell hub).trans hx2
          have hc3 : wr.cell? ⟨ub, k * 4 + 3, none⟩ = some (.slice A1 x.data.length c1) := (HGR.out.2.cell hub).trans hx3
          have HD := Lib.hid (show Lies wr wr.heap.size A1 x.data from ((hd2.lies (B := w.heap.size) (fun b hb => HH.out.lt b hb.1)).below HGR.out.2).more HGR.out.2.size)
          have HC1 := Lib.hid hd1
          have HOX := Lib.hid hox
          have hs1 := stays_val m k
          clear hx0 hx1 hx2 hx3 hd1 hd2 hx hox
          cases hst : stays m k with
          | false =>
            rw [hst, if_neg (by simp)] at hs1
            rw [hst, if_neg (by simp), List.append_nil] at HTK
            clear hst
            go_wp2
            go_roundw
            case rel =>
              refine ⟨k + 1, by omega, by go_num, ?_⟩
              rw [HTK.out]
              exact HGR.out.alloc _
            case measure => simp [intOf]; omega
          | true =>
            rw [hst, if_pos rfl] at hs1
            rw [hst, if_pos rfl] at HTK
            clear hst
            obtain ⟨w4, hw4⟩ : ∃ w4, w4 = wr.alloc (.cells #[.int .i64 (x.kind : Nat), .string (str x.name), .int .i64 (x.off : Nat), .slice A1 x.data.length c1] tWrite) := ⟨_, rfl⟩
            have hbx : w4.heap[wr.heap.size]? = some (.cells #[.int .i64 (x.kind : Nat), .string (str x.name), .int .i64 (x.off : Nat), .slice A1 x.data.length c1] tWrite (0, 0)) := by rw [hw4]; exact heap_alloc_new wr _
            have hb4 : Below wr.heap.size wr w4 := by rw [hw4]; exact (Below.refl _ _).alloc (Nat.le_refl _) _
            have hq0 : w4.cell? ⟨wr.heap.size, 0, none⟩ = some (.int .i64 (x.kind : Nat)) := by rw [cell_of_row w4 _ 0 _ _ _ hbx]; rfl
            have hq1 : w4.cell? ⟨wr.heap.size, 1, none⟩ = some (.string (str x.name)) := by rw [cell_of_row w4 _ 1 _ _ _ hbx]; rfl
            have hq2 : w4.cell? ⟨wr.heap.size, 2, none⟩ = some (.int .i64 (x.off : Nat)) := by rw [cell_of_row w4 _ 2 _ _ _ hbx]; rfl
            have hq3 : w4.cell? ⟨wr.heap.size, 3, none⟩ = some (.slice A1 x.data.length c1) := by rw [cell_of_row w4 _ 3 _ _ _ hbx]; rfl
            have hqf : w4.frozen? ⟨wr.heap.size, 3, none⟩ = false := frozen_of_row w4 _ 3 _ _ hbx
            have HG4 := Lib.hid (HGR.out.below hb4)
            have HD4 := Lib.hid ((HD.out.below hb4).more hb4.size)
            have HBX := Lib.hid hbx
            have HW4 := Lib.hid hw4
            have HB4 := Lib.hid hb4
            have HGE := Lib.hid (HGR.out.2.size)
            clear hbx hb4
            have hsub : ∀ y ∈ s.unsure.take k, y ∈ s.unsure := fun y hy => List.mem_of_mem_take hy
            have hFl : ((rsl m t last 0 (s.unsure.take k)).foldl doW s.sure).length ≤ 68719476736 := by
              have h1 := len_all (l := rsl m t last 0 (s.unsure.take k)) HH.out.ok.up
              have h2 := rsl_len m t last (s.unsure.take k) 0
              have h3 := HC.out
              unfold DS.cnt at h3
              rw [List.length_take] at h2
              omega
            have HFIT := Lib.hid (show Fit ((rsl m t last 0 (s.unsure.take k)).foldl doW s.sure) from fit_all HH.out.ok.fit (rsl_ok (fun y hy => HH.out.ok.un y (hsub y hy))))
            have HUP := Lib.hid (show Up ((rsl m t last 0 (s.unsure.take k)).foldl doW s.sure) from up_all HH.out.ok.up)
            clear hsub
            obtain ⟨G, hG⟩ : ∃ G, (rsl m t last 0 (s.unsure.take k)).foldl doW s.sure = G := ⟨_, rfl⟩
            rw [hG] at HGR HG4 hFl HFIT HUP
            have HGG := Lib.hid hG
            clear hG
            obtain ⟨b3, hb3⟩ : ∃ b3, decide ((k : Int) = last ∧ 0 ≤ t ∧ t < (x.data.length : Int)) = b3 := ⟨_, rfl⟩
            have HB3 := Lib.hid hb3
            clear hb3
            go_upto_region 11 with fail
            rw [← HW4.out]
            clear hw4 HW4
            go_upto_region 12 with fail
            go_cut [80] (fun cc wx => cc = .bool b3 ∧ wx = w4)
            case first =>
              by_cases e1 : (k : Int) = last
              · have e1' : ((k : Int) == last) = true := by simpa using e1
                by_cases e2 : 0 ≤ t
                · have e2' : decide (t ≥ 0) = true := decide_eq_true e2
                  by_cases e3 : t < (x.data.length : Int)
                  · have e3' : decide (t < (x.data.length : Int)) = true := decide_eq_true e3
                    have HE := Lib.hid (show decide ((k : Int) = last ∧ 0 ≤ t ∧ t < (x.data.length : Int)) = true from decide_eq_true ⟨e1, e2, e3⟩)
                    have E1 := Lib.hid e1
                    clear e1
                    go_wp2
                    go_meet
                    rw [← HB3.out, HE.out]
                    exact ⟨rfl, rfl⟩
                  · have e3' : decide (t < (x.data.length : Int)) = false := decide_eq_false e3
                    have HE := Lib.hid (show decide ((k : Int) = last ∧ 0 ≤ t ∧ t < (x.data.length : Int)) = false from decide_eq_false (fun e => e3 e.2.2))
                    have E1 := Lib.hid e1
                    clear e1
                    go_wp2
                    go_meet
                    rw [← HB3.out, HE.out]
                    exact ⟨rfl, rfl⟩
                · have e2' : decide (t ≥ 0) = false := decide_eq_false e2
                  have HE := Lib.hid (show decide ((k : Int) = last ∧ 0 ≤ t ∧ t < (x.data.length : Int)) = false from decide_eq_false (fun e => e2 e.2.1))
                  have E1 := Lib.hid e1
                  clear e1
                  go_wp2
                  go_meet
                  rw [← HB3.out, HE.out]
                  exact ⟨rfl, rfl⟩
              · have e1' : ((k : Int) == last) = false := by simpa using e1
                have HE := Lib.hid (show decide ((k : Int) = last ∧ 0 ≤ t ∧ t < (x.data.length : Int)) = false from decide_eq_false (fun e => e1 e.1))
                go_wp2
                go_meet
                rw [← HB3.out, HE.out]
                exact ⟨rfl, rfl⟩
            obtain ⟨rfl, hwc⟩ := hcut
            subst hwc
            cases b3 with
            | false =>
              have hno := of_decide_eq_false HB3.out
              have hcd : (if (k : Int) = last then cutData t x else x) = x := by
                split
                · unfold cutData
                  rw [if_neg (fun e => hno ⟨by assumption, e⟩)]
                · rfl
              rw [hcd] at HTK
              have hdo := do_any u8 w.heap.size (New8 w wc) G x.kind x.name x.off x.data A1 c1 wc.heap.size wc HG4.out.1 (fun b hb => hb.2.1) (fun b hb => (rf_own_lt HG4.out.1 hb).2) hFl HUP.out (fun p hp => Nat.le_trans (HFIT.out p hp).1 (by decide))
                ⟨HOX.out.1, HOX.out.2.1⟩ (by have := HOX.out.2.2.1; omega) (by have := HOX.out.2.2.1; omega) HD4.out (Nat.le_refl _)
              unfold wV at hdo
              have HDO := Lib.hid hdo
              clear hdo hno hcd
              go_wp2_with fail
              refine HDO.out.mono ?_
              rintro e w5 ⟨v5, rfl, ho5, hb5⟩
              have HG5 := Lib.hid (HG4.out.next ho5 hb5)
              obtain ⟨A5, c5, rfl, _⟩ := ho5.form
              clear ho5 hb5 HDO
              go_wp2
              go_roundw
              case rel =>
                refine ⟨k + 1, by omega, by go_num, ?_⟩
                rw [HTK.out, List.foldl_append, HGG.out]
                exact HG5.out
              case measure => simp [intOf]; omega
            | true =>
              have hyes := of_decide_eq_true HB3.out
              obtain ⟨tn, rfl⟩ : ∃ tn : Nat, t = (tn : Int) := ⟨t.toNat, by omega⟩
              have hcd : (if (k : Int) = last then cutData (tn : Int) x else x) = { x with data := x.data.take tn } := by
                rw [if_pos hyes.1]
                unfold cutData
                rw [if_pos hyes.2, Int.toNat_natCast]
              rw [hcd] at HTK
              have htn : tn < x.data.length := by have := hyes.2.2; omega
              have hcut2 := fun w' => run_to w' A1 x.data.length c1 tn (by have := HC1.out; omega)
              have hbx5 := heap_setCell_same wc _ 3 _ _ (.slice A1 tn c1) HBX.out
              have HTL := Lib.hid (show (x.data.take tn).length = tn by rw [List.length_take]; omega)
              clear hyes hcd hc0 hc1 hc2 hc3 hr1
              go_upto_region 14 with fail
              have HBX6 := Lib.hid (show (wc.setCell ⟨wr.heap.size, 3, none⟩ (.slice A1 tn c1)).heap[wr.heap.size]? = some (.cells #[.int .i64 (x.kind : Nat), .string (str x.name), .int .i64 (x.off : Nat), .slice A1 tn c1] tWrite (0, 0)) from hbx5)
              have hb6 : Below wr.heap.size wr (wc.setCell ⟨wr.heap.size, 3, none⟩ (.slice A1 tn c1)) := HB4.out.setCell (p := ⟨wr.heap.size, 3, none⟩) (Nat.le_refl _) _
              have HG6 := Lib.hid (HGR.out.below hb6)
              have HD6 := Lib.hid (By.lies_take ((HD.out.below hb6).more hb6.size) tn)
              clear hbx5 hb6 hq0 hq1 hq2 hq3 hqf hcut2 HB4
              generalize wc.setCell ⟨wr.heap.size, 3, none⟩ (.slice A1 tn c1) = w6 at *
              have hm0 : w6.cell? ⟨wr.heap.size, 0, none⟩ = some (.int .i64 (x.kind : Nat)) := by rw [cell_of_row w6 _ 0 _ _ _ HBX6.out]; rfl
              have hm1 : w6.cell? ⟨wr.heap.size, 1, none⟩ = some (.string (str x.name)) := by rw [cell_of_row w6 _ 1 _ _ _ HBX6.out]; rfl
              have hm2 : w6.cell? ⟨wr.heap.size, 2, none⟩ = some (.int .i64 (x.off : Nat)) := by rw [cell_of_row w6 _ 2 _ _ _ HBX6.out]; rfl
              have hm3 : w6.cell? ⟨wr.heap.size, 3, none⟩ = some (.slice A1 tn c1) := by rw [cell_of_row w6 _ 3 _ _ _ HBX6.out]; rfl
              have hdo := do_any u8 w.heap.size (New8 w w6) G x.kind x.name x.off (x.data.take tn) A1 c1 w6.heap.size w6 HG6.out.1 (fun b hb => hb.2.1) (fun b hb => (rf_own_lt HG6.out.1 hb).2) hFl HUP.out (fun p hp => Nat.le_trans (HFIT.out p hp).1 (by decide))
                ⟨HOX.out.1, HOX.out.2.1⟩ (by have := HOX.out.2.2.1; omega) (by have := HOX.out.2.2.1; have := HTL.out; omega) HD6.out (Nat.le_refl _)
              unfold wV at hdo
              rw [HTL.out] at hdo
              have HDO := Lib.hid hdo
              clear hdo
              go_wp2_with fail
              refine HDO.out.mono ?_
              rintro e w5 ⟨v5, rfl, ho5, hb5⟩
              have HG5 := Lib.hid (HG6.out.next ho5 hb5)
              obtain ⟨A5, c5, rfl, _⟩ := ho5.form
              clear ho5 hb5 HDO
              go_wp2
              go_roundw
              case rel =>
                refine ⟨k + 1, by omega, by go_num, ?_⟩
                rw [HTK.out, List.foldl_append, HGG.out]
                exact HG5.out
              case measure => simp [intOf]; omega
        · have hke : k = s.unsure.length := by omega
          have hgl := HGR.out
          rw [hke, List.take_length, ← HLA.out, rsl_all] at hgl
          have HGL := Lib.hid hgl
          obtain ⟨A5, c5, rfl, _⟩ := hgl.1.form
          have hrow := (hgl.2.block r (row_lt HH.out.row)).trans HH.out.row
          have hf : ∀ o, wr.frozen? ⟨r, o, none⟩ = false := fun o => frozen_of_row wr r o _ _ hrow
          have hc0 : wr.cell? ⟨r, 0, none⟩ = some (.slice Av s.sure.length cv) := by rw [cell_of_row wr r 0 _ _ _ hrow]; rfl
          have hc3 : wr.cell? ⟨r, 3, none⟩ = some (.int .i64 s.fuse) := by rw [cell_of_row wr r 3 _ _ _ hrow]; rfl
          have hc4 : wr.cell? ⟨r, 4, none⟩ = some (.bool s.down) := by rw [cell_of_row wr r 4 _ _ _ hrow]; rfl
          have HROW := Lib.hid hrow
          clear hrow hgl
          go_wp2
          go_end0
          have hs1 := heap_setCell_same wr r 0 _ _ (.slice A5 ((torn t (staying m 0 s.unsure)).foldl doW s.sure).length c5) HROW.out
          have hs2 := heap_setCell_same _ r 1 _ _ (.slice none 0 0) hs1
          have hs3 := heap_setCell_same _ r 3 _ _ (.int .i64 0) hs2
          have hs4 := heap_setCell_same _ r 4 _ _ (.bool false) hs3
          obtain ⟨wz, hwz⟩ : ∃ wz, (((wr.setCell ⟨r, 0, none⟩ (.slice A5 ((torn t (staying m 0 s.unsure)).foldl doW s.sure).length c5)).setCell ⟨r, 1, none⟩ (.slice none 0 0)).setCell ⟨r, 3, none⟩ (.int .i64 0)).setCell ⟨r, 4, none⟩ (.bool false) = wz := ⟨_, rfl⟩
          have hoth : ∀ b, b ≠ r → wz.heap[b]? = wr.heap[b]? := fun b hb => by
            rw [← hwz]
            exact (heap_setCell_other _ ⟨r, 4, none⟩ b _ hb).trans ((heap_setCell_other _ ⟨r, 3, none⟩ b _ hb).trans ((heap_setCell_other _ ⟨r, 1, none⟩ b _ hb).trans (heap_setCell_other wr ⟨r, 0, none⟩ b _ hb)))
          have hkz : Kept M w wz := by
            rw [← hwz]
            exact (((((Kept.of_below (M := M) HGL.out.2).setCell (p := ⟨r, 0, none⟩) (fun _ => HH.out.mr) _).setCell (p := ⟨r, 1, none⟩) (fun _ => HH.out.mr) _).setCell (p := ⟨r, 3, none⟩) (fun _ => HH.out.mr) _).setCell (p := ⟨r, 4, none⟩) (fun _ => HH.out.mr) _)
          rw [hwz] at hs4
          rw [hwz]
          have hlr := row_lt HH.out.row
          have hge : ∀ b, w.heap.size ≤ b → b ≠ r := fun b hb e => by omega
          refine rd_done (s' := falS s m t) HH.out (falS_ok HH.out.ok m t) hs4 ?_ (fun b hb => .inr (rf_own_lt HGL.out.1 hb).1) (WsAt.nil _ _ _) (fun b hb => by cases hb) hkz
          exact (HGL.out.1.base (Nat.zero_le _)).keep (fun b hb => hoth b (hge b (rf_own_lt HGL.out.1 hb).1)) (fun b hb => hoth b (hge b hb.1)) (fun b hb => ⟨.inr hb.1, u8_keep hb.2.2 (hoth b (hge b hb.1))⟩)
end Go.Proofs.Ytcfnfphnjkllcaa.Dk
