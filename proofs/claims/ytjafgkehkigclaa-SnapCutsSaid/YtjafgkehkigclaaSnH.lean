/- The reference's Add where it takes a piece, as a contract of a call. -/
import Derived.Test.YtjafgkehkigclaaSnG
import Derived.Test.YtjafgkehkigclaaSnD
namespace Go.Proofs.Ytjafgkehkigclaa.Sn
open Go.RowKit By

theorem run_to' (w : World) (A : Option Addr) (n c h : Nat) (hh : h ≤ c) : (Instr.slice 23 (.slice A n c) none (some (.int .i64 (h : Int))) none).run Try.prog w = .ok (.slice A h c) w := run_to w A n c h hh
/-- A world is given a letter, with what is known of it. -/
theorem fresh {P C : World → Prop} {w : World} (h : C w) (k : ∀ wx, C wx → P wx) : P w := k w h
theorem rj_new {w1 : World} {r B : Nat} {a0 a1 a2 : Value} {d : Bs} (hd : d = []) (hrow : w1.heap[r]? = some (.cells #[a0, a1, a2] tRJ (0, 0))) (i t : Nat) :
    (∃ v2, (((w1.setCell ⟨r, 0, none⟩ (.int .u64 (i : Nat))).setCell ⟨r, 1, none⟩ (.int .u64 (t : Nat))).setCell ⟨r, 2, none⟩ (.slice none 0 0)).heap[r]? = some (.cells #[.int .u64 (i : Nat), .int .u64 (t : Nat), v2] tRJ (0, 0)) ∧ Own B (((w1.setCell ⟨r, 0, none⟩ (.int .u64 (i : Nat))).setCell ⟨r, 1, none⟩ (.int .u64 (t : Nat))).setCell ⟨r, 2, none⟩ (.slice none 0 0)) v2 d) ∧
    Kept (fun b => b = r) w1 (((w1.setCell ⟨r, 0, none⟩ (.int .u64 (i : Nat))).setCell ⟨r, 1, none⟩ (.int .u64 (t : Nat))).setCell ⟨r, 2, none⟩ (.slice none 0 0)) :=
  ⟨⟨_, Go.heap_setCell_same _ _ 2 _ _ _ (Go.heap_setCell_same _ _ 1 _ _ _ (Go.heap_setCell_same w1 _ 0 _ _ _ hrow)), hd ▸ Own.nil _ _⟩,
    (((Kept.refl (fun b => b = r) w1).setCell (p := ⟨r, 0, none⟩) (fun _ => rfl) (.int .u64 (i : Nat))).setCell (p := ⟨r, 1, none⟩) (fun _ => rfl) (.int .u64 (t : Nat))).setCell (p := ⟨r, 2, none⟩) (fun _ => rfl) (.slice none 0 0)⟩
theorem drewS {M : Nat → Prop} {w w1 : World} {q : Nat} (h : Kept M (w.drewN q) w1) : Kept M w w1 := ⟨h.os, h.tape, h.output, h.size, h.block⟩
theorem rj_zero {w w7 : World} {r B : Nat} {b0 b1 b2 v : Value} (hr : r < B) (hB : B ≤ w.heap.size) (hrow : w7.heap[r]? = some (.cells #[b0, b1, b2] tRJ (0, 0))) (hk : Kept (fun b => b = r) w w7) :
    RJAt ((((w7.setCell ⟨r, 2, none⟩ v).setCell ⟨r, 0, none⟩ (.int .u64 0)).setCell ⟨r, 1, none⟩ (.int .u64 0)).setCell ⟨r, 2, none⟩ (.slice none 0 0)) r B ⟨0, 0, []⟩ ∧ Kept (fun b => b = r) w ((((w7.setCell ⟨r, 2, none⟩ v).setCell ⟨r, 0, none⟩ (.int .u64 0)).setCell ⟨r, 1, none⟩ (.int .u64 0)).setCell ⟨r, 2, none⟩ (.slice none 0 0)) := by
  have hk2 : Kept (fun b => b = r) w ((((w7.setCell ⟨r, 2, none⟩ v).setCell ⟨r, 0, none⟩ (.int .u64 0)).setCell ⟨r, 1, none⟩ (.int .u64 0)).setCell ⟨r, 2, none⟩ (.slice none 0 0)) :=
    (((hk.setCell (p := ⟨r, 2, none⟩) (fun _ => rfl) v).setCell (p := ⟨r, 0, none⟩) (fun _ => rfl) (.int .u64 0)).setCell (p := ⟨r, 1, none⟩) (fun _ => rfl) (.int .u64 0)).setCell (p := ⟨r, 2, none⟩) (fun _ => rfl) (.slice none 0 0)
  exact ⟨⟨hr, Nat.le_trans hB hk2.size, _, Go.heap_setCell_same _ _ 2 _ _ _ (Go.heap_setCell_same _ _ 1 _ _ _ (Go.heap_setCell_same _ _ 0 _ _ _ (Go.heap_setCell_same w7 _ 2 _ _ v hrow))), Own.nil _ _⟩, hk2⟩
theorem rj_set {w w7 : World} {r B i t b : Nat} {b2 v : Value} {y : Bs} (hr : r < B) (hB : B ≤ w.heap.size) (hb : w.heap.size ≤ b) (hrow : w7.heap[r]? = some (.cells #[.int .u64 (i : Nat), .int .u64 (t : Nat), b2] tRJ (0, 0))) (hk : Kept (fun b => b = r) w w7) (ho : Own b w7 v y) :
    RJAt (w7.setCell ⟨r, 2, none⟩ v) r B ⟨i, t, y⟩ ∧ Kept (fun b => b = r) w (w7.setCell ⟨r, 2, none⟩ v) := by
  have hk2 := hk.setCell (p := ⟨r, 2, none⟩) (fun _ => rfl) v
  exact ⟨⟨hr, Nat.le_trans hB hk2.size, v, Go.heap_setCell_same w7 _ 2 _ _ v hrow, own_more (own_off ho (by show r < b; omega)) (by omega)⟩, hk2⟩
theorem lies_set3 {w7 : World} {r b : Nat} {v u : Value} {A : Option Addr} {c : Nat} {y : Bs} (ho : Own b w7 (.slice A y.length c) y) (hr : r < b) :
    Lies ((((w7.setCell ⟨r, 2, none⟩ v).setCell ⟨r, 0, none⟩ (.int .u64 0)).setCell ⟨r, 1, none⟩ (.int .u64 0)).setCell ⟨r, 2, none⟩ u) ((((w7.setCell ⟨r, 2, none⟩ v).setCell ⟨r, 0, none⟩ (.int .u64 0)).setCell ⟨r, 1, none⟩ (.int .u64 0)).setCell ⟨r, 2, none⟩ u).heap.size A y := by
  have h4 := own_off (u := u) (p := ⟨r, 2, none⟩) (own_off (u := .int .u64 0) (p := ⟨r, 1, none⟩) (own_off (u := .int .u64 0) (p := ⟨r, 0, none⟩) (own_off (u := v) (p := ⟨r, 2, none⟩) ho hr) hr) hr) hr
  obtain ⟨A', c', hv, -, -, -, hl, -⟩ := h4.form
  injection hv with e1 e2 e3
  subst e1
  exact hl
theorem kept_lies {w w' : World} {r : Nat} {A : Option Addr} {l : Bs} (hA : Lies w r A l) (hk : Kept (fun b => b = r) w w') (hr : r < w.heap.size) : Lies w' r A l :=
  hA.keep (fun p hp => World.cell?_of_block (hk.block p.block (Nat.lt_trans hp hr) (fun e => by have e : p.block = r := e; omega)))
theorem drewK {M : Nat → Prop} {w w1 : World} (h : Kept M w w1) (q : Nat) : Kept M w (w1.drewN q) := ⟨h.os, h.tape, h.output, h.size, h.block⟩
set_option maxRecDepth 100000 in
set_option maxHeartbeats 8000000 in
theorem radd_ok (r B : Nat) (j : J7) (i t k : Nat) (last : Bool) (x : Bs) (A : Option Addr) (c : Nat) (w : World) (hj : RJAt w r B j) (hi : i ≠ 0) (hx : x.length ≤ 256) (hg : ¬ (hasD j i t).length < k) (hjl : j.d.length ≤ 32768) (hA : Lies w r A x) (o : AddO)
    (ho : o = if 32768 < (laidD (hasD j i t) k last x).length then ⟨⟨0, 0, []⟩, 0, [], false, 7⟩
      else if last then ⟨⟨0, 0, []⟩, (laidD (hasD j i t) k last x).length, laidD (hasD j i t) k last x, true, 0⟩
      else ⟨⟨i, t, laidD (hasD j i t) k last x⟩, (laidD (hasD j i t) k last x).length, [], false, 0⟩) :
    Calls Try.prog 14 #[.pointer (some ⟨r, 0, none⟩), .agg (rC ⟨i, t, (k : Int), last, x⟩ A c)] w (RAddPost r B o w) := by
  obtain ⟨d, hd⟩ : ∃ d, d = hasD j i t := ⟨_, rfl⟩
  have hdl : d.length ≤ 32768 := by rw [hd]; exact hasD_len j i t hjl
  rw [← hd] at hg ho
  obtain ⟨n, hn⟩ : ∃ n, n = x.length := ⟨_, rfl⟩
  obtain ⟨w1, hw1⟩ : ∃ w1, w1 = w.alloc (.cells #[.int .u64 (i : Nat), .int .u64 (t : Nat), .int .i64 (k : Int), .bool last, .slice A n c] tR) := ⟨_, rfl⟩
  have hb1 : Below w.heap.size w w1 := by rw [hw1]; exact (Below.refl _ _).alloc (Nat.le_refl _) _
  have hr1 : w1.heap[w.heap.size]? = some (.cells #[.int .u64 (i : Nat), .int .u64 (t : Nat), .int .i64 (k : Int), .bool last, .slice A n c] tR (0, 0)) := by rw [hw1]; exact heap_alloc_new w _
  have hj1 := hj.below hb1
  obtain ⟨-, -, v, hrow, hv⟩ := hj1
  obtain ⟨j0, j1, j2⟩ := rjcells hrow
  have fj : ∀ q, w1.frozen? ⟨r, q, none⟩ = false := fun q => frozen_of_row w1 _ q _ _ hrow
  obtain ⟨Av, cv, hve, -⟩ := hv.form
  subst hve
  have HJ1 := Lib.hid hj
  have HROW1 := Lib.hid hrow
  have HV1 := Lib.hid hv
  have HB1 := Lib.hid hb1
  have HR1 := Lib.hid hr1
  have HW1 := Lib.hid hw1
  have HA1 := Lib.hid hA
  have HO := Lib.hid ho
  have HN := Lib.hid hn
  have HRW := Lib.hid hj.lt
  obtain ⟨c0, c1, c2, c3, c4⟩ := rcells hr1
  dsimp only [rC]
  rw [← hn]
  have hn6 : ¬ ((256 : Int) < (n : Int)) := by omega
  have hi0 : ((i : Int) == 0) = false := beq_eq_false_iff_ne.2 (by omega)
  have hk0 : ¬ ((k : Int) < 0) := by omega
  have HK := Lib.hid (show k ≤ d.length by omega)
  have HDL := Lib.hid hdl
  clear hw1 hb1 hj hr1 hrow hv hi hx hA ho hn hdl
  go_enter Try.func14, Try.ntmps14
  go_upto_region 1 with fail
  rw [← HW1.out]
  by_cases h1 : j.i = i
  · have q1 : ((i : Int) != (j.i : Int)) = false := by rw [h1]; simp
    by_cases h2 : j.t = t
    · have q2 : ((t : Int) != (j.t : Int)) = false := by rw [h2]; simp
      have hdj : d = j.d := hd.trans (if_pos ⟨h1, h2⟩)
      have hgi : ¬ ((j.d.length : Int) < (k : Int)) := by rw [← hdj]; omega
      rw [h1, h2, ← hdj] at HROW1
      rw [← hdj] at HV1
      clear hdj
      clear h1 h2 hg hd
      go_wp2
      go_quiet (fail)
      go_wp2
      go_quiet (fail)
      go_upto_region 10 with fail
      refine fresh (P := fun wx => Code.wp _ _ _ _ wx) (C := fun wx => (∃ v2, wx.heap[r]? = some (.cells #[.int .u64 (i : Nat), .int .u64 (t : Nat), v2] tRJ (0, 0)) ∧ Own B wx v2 d) ∧ Kept (fun b => b = r) w1 wx) ⟨⟨_, HROW1.out, HV1.out⟩, drewK (drewK (Kept.refl _ _) _) _⟩ ?_
      rintro wx ⟨⟨v2, hrx, hvx⟩, hkx⟩
      clear c0 c1 c2 c3 c4 j0 j1 j2 fj
      have hyx := (hkx.block _ (row_lt HR1.out) (fun e => by have := HRW.out; omega)).trans HR1.out
      obtain ⟨y0, y1, y2, y3, y4⟩ := rcells hyx
      obtain ⟨A2, cv2, hve2, -⟩ := hvx.form
      subst hve2
      obtain ⟨L, hL⟩ : ∃ L, L = d.length := ⟨_, rfl⟩
      rw [← hL] at hrx hvx
      obtain ⟨x0, x1, x2⟩ := rjcells hrx
      have hLi : (L : Int) ≤ 32768 := by have := HDL.out; omega
      have hkL8 : (k : Int) ≤ (L : Int) := by have := HK.out; omega
      have HL := Lib.hid hL
      have HRX := Lib.hid hrx
      have HVX := Lib.hid hvx
      have HKX := Lib.hid hkx
      clear hrx hvx hkx hyx hL
      by_cases hin : k + n ≤ L
      · have hini : (k : Int) + (n : Int) ≤ (L : Int) := by omega
        cases last
        · have hy : laidD d k false x = d := if_pos ⟨by have := HL.out; have := HN.out; omega, rfl⟩
          have HFIN := Lib.hid (fun (q : Nat) => show RAddPost r B o w (.returned (.tuple #[.int .i64 (L : Nat), .slice none 0 0, .bool false, .int .i64 0])) (wx.drewN q) from by
            rw [HO.out, hy, if_neg (by have := HDL.out; omega), if_neg Bool.false_ne_true]
            have hk2 := (Kept.of_below HB1.out).trans (drewK HKX.out q)
            exact ⟨none, 0, by rw [HL.out]; rfl, Lies.empty _ _ _, ⟨HJ1.out.1, Nat.le_trans HJ1.out.2.1 hk2.size, _, HRX.out, HVX.out⟩, hk2⟩)
          clear hin hy
          go_quiet (fail)
          go_wp2
          refine bodyPost_ret (results_tmp4 rfl _ _ _) rfl ?_
          exact HFIN.out _
        · clear hin
          go_quiet (fail)
          go_upto_region 12 with fail
          refine fresh (P := fun wx => Code.wp _ _ _ _ wx) (C := fun wx => wx.heap[r]? = some (.cells #[.int .u64 (i : Nat), .int .u64 (t : Nat), .slice A2 L cv2] tRJ (0, 0)) ∧ Own B wx (.slice A2 L cv2) d ∧ Kept (fun b => b = r) w1 wx) ⟨HRX.out, HVX.out, drewK HKX.out _⟩ ?_
          clear x0 x1 x2 y0 y1 y2 y3 y4 HRX HVX HKX
          rintro wy ⟨hrx, hvx, hkx⟩
          have hyx := (hkx.block _ (row_lt HR1.out) (fun e => by have := HRW.out; omega)).trans HR1.out
          obtain ⟨x0, x1, x2⟩ := rjcells hrx
          obtain ⟨y0, y1, y2, y3, y4⟩ := rcells hyx
          obtain ⟨A2', c2', hv2, hlc, hlm, -, hlv, -⟩ := hvx.form
          obtain ⟨rfl, rfl⟩ : A2 = A2' ∧ cv2 = c2' := by injection hv2 with h1 h2 h3; exact ⟨h1, h3⟩
          have hkL : k ≤ cv2 := Nat.le_trans HK.out hlc
          have hs1 := fun w' => run_to' w' A2 L cv2 k hkL
          have HTK := Lib.hid (show k = (d.take k).length by rw [List.length_take]; have := HK.out; omega)
          have HOWN := Lib.hid (show Own wy.heap.size (wy.alloc (.cells #[] 5)).drew (.slice (some ⟨wy.heap.size, 0, none⟩) 0 0) [] from Own.made wy wy.heap.size #[] 0 (Nat.le_refl _) (by decide) rfl)
          have HLA := Lib.hid (show Lies (wy.alloc (.cells #[] 5)).drew wy.heap.size A2 (d.take k) from (lies_take hlv k).alloc (Nat.le_refl _) _)
          have HZA := Lib.hid (show wy.heap.size ≤ (wy.alloc (.cells #[] 5)).drew.heap.size by show _ ≤ (wy.alloc _).heap.size; simp)
          have HBA := Lib.hid (show Below wy.heap.size wy (wy.alloc (.cells #[] 5)).drew from ((Below.refl _ _).alloc (Nat.le_refl _) _).drew)
          have ya : (wy.alloc (.cells #[] 5)).cell? ⟨w.heap.size, 2, none⟩ = some (.int .i64 (k : Int)) := (World.cell?_alloc_lt wy _ ⟨w.heap.size, 2, none⟩ (row_lt hyx)).trans y2
          have xa : (wy.alloc (.cells #[] 5)).cell? ⟨r, 2, none⟩ = some (.slice A2 L cv2) := (World.cell?_alloc_lt wy _ ⟨r, 2, none⟩ (row_lt hrx)).trans x2
          have HRX := Lib.hid hrx
          have HYX := Lib.hid hyx
          have HKX := Lib.hid ((Kept.of_below HB1.out).trans hkx)
          clear hrx hvx hkx hyx hv2 hlc hlm hlv
          go_region_held3 (fun w' => w'.cell? ⟨w.heap.size, 2, none⟩ = some (.int .i64 (k : Int)) ∧ w'.cell? ⟨r, 2, none⟩ = some (.slice A2 L cv2))
            (first
              | with_reducible assumption
              | with_reducible exact ⟨y2, x2⟩
              | with_reducible exact ⟨ya, xa⟩
              | with_reducible exact ⟨y6, x6⟩
              | (simp [y2, x2]; done)
              | (simp [ya, xa]; done)
              | (simp [y6, x6]; done))
            (first
              | (refine step_app rfl (.tmp 96) (.tmp 103) rfl (v := .slice (some ⟨wy.heap.size, 0, none⟩) 0 0) (by simp [Act.eval]) HOWN.out (A := A2) (m := k) (c := cv2) (by simp [Act.eval]) HTK.out HLA.out (by rw [← HTK.out]; have := HK.out; have := HDL.out; simp; omega) HZA.out ?_
                 intro v6 w6 ho6 hb6 _
                 rw [List.nil_append] at ho6
                 obtain ⟨A6, c6, hv6, -⟩ := ho6.form
                 rw [← HTK.out] at hv6
                 subst hv6
                 have hb6' := HBA.out.trans hb6
                 have hy6 := (hb6'.block _ (row_lt HYX.out)).trans HYX.out
                 have hr6 := (hb6'.block _ (row_lt HRX.out)).trans HRX.out
                 obtain ⟨z0, z1, y6, z3, z4⟩ := rcells hy6
                 obtain ⟨-, -, x6⟩ := rjcells hr6
                 have HO6 := Lib.hid ho6
                 have HK6 := Lib.hid (HKX.out.trans (Kept.of_below hb6'))
                 have HB6 := Lib.hid hb6'
                 have HR6 := Lib.hid hr6
                 have HY6 := Lib.hid hy6
                 clear ho6 hb6 hb6' hy6 hr6))
          all_goals
            have HL6 := Lib.hid (kept_lies HA1.out HK6.out HRW.out)
            have HRZ := Lib.hid (show r ≤ w6.heap.size from Nat.le_of_lt (row_lt HR6.out))
            obtain ⟨y, hyy⟩ : ∃ y, y = d.take k ++ x := ⟨_, rfl⟩
            have HY := Lib.hid hyy
            clear hyy
            go_upto_region 14 with (at_builtin; refine wpList_app rfl (.tmp 105) (.tmp 107) rfl rfl HO6.out rfl HN.out HL6.out (by rw [← HTK.out]; have := HK.out; have := HDL.out; have := HN.out; omega) HB6.out.size ?_
                                    intro v7 w7 ho7 hb7 hg7
                                    rw [← HY.out] at ho7
                                    obtain ⟨A7, c7, hv7, -⟩ := ho7.form
                                    subst hv7
                                    have hb7' := HB6.out.trans hb7
                                    have hr7 := (hb7'.block _ (row_lt HRX.out)).trans HRX.out
                                    have hy7 := (hb7'.block _ (row_lt HYX.out)).trans HYX.out
                                    have HK7 := Lib.hid (HKX.out.trans (Kept.of_below hb7'))
                                    have HO7 := Lib.hid ho7
                                    have HR7 := Lib.hid hr7
                                    have HY7 := Lib.hid hy7
                                    clear ho7 hb7 hg7 hb7' hr7 hy7)
            obtain ⟨u0, u1, u2⟩ := rjcells HR7.out
            obtain ⟨s0, s1, s2, s3, s4⟩ := rcells HY7.out
            have f7 : ∀ q, w7.frozen? ⟨r, q, none⟩ = false := fun q => frozen_of_row w7 _ q _ _ HR7.out
            have HYB := Lib.hid (show w.heap.size ≤ wy.heap.size from HKX.out.size)
            have HZE := Lib.hid (rj_zero (v := .slice A7 y.length c7) HJ1.out.1 HJ1.out.2.1 HR7.out HK7.out)
            have HZL := Lib.hid (lies_set3 (v := .slice A7 y.length c7) (u := .slice none 0 0) HO7.out (show r < wy.heap.size from row_lt HRX.out))
            have HZS := Lib.hid (rj_set HJ1.out.1 HJ1.out.2.1 HYB.out HR7.out HK7.out HO7.out)
            clear x0 x1 x2 y0 y1 y2 y3 y4 z0 z1 z3 z4 y6 x6 ya xa hs1
            have HOY := Lib.hid (HO.out.trans (by rw [show laidD d k true x = y from (if_neg (fun h => by cases h.2)).trans HY.out.symm] : _ = (if 32768 < y.length then (⟨⟨0, 0, []⟩, 0, [], false, 7⟩ : AddO) else if true = true then ⟨⟨0, 0, []⟩, y.length, y, true, 0⟩ else ⟨⟨i, t, y⟩, y.length, [], false, 0⟩)))
            by_cases hlg : 32768 < y.length
            · have hlgi : (32768 : Int) < (y.length : Int) := by omega
              have HFIN := Lib.hid (show RAddPost r B o w (.returned (.tuple #[.int .i64 0, .slice none 0 0, .bool false, .int .i64 7])) ((((w7.setCell ⟨r, 2, none⟩ (.slice A7 y.length c7)).setCell ⟨r, 0, none⟩ (.int .u64 0)).setCell ⟨r, 1, none⟩ (.int .u64 0)).setCell ⟨r, 2, none⟩ (.slice none 0 0)) from by
                rw [HOY.out, if_pos hlg]; exact ⟨none, 0, rfl, Lies.empty _ _ _, HZE.out.1, HZE.out.2⟩)
              clear hlg
              go_wp2
              refine bodyPost_ret (results_tmp4 rfl _ _ _) rfl ?_
              exact HFIN.out
            · have hlgi : ¬ ((32768 : Int) < (y.length : Int)) := by omega
              have HFIN := Lib.hid (show RAddPost r B o w (.returned (.tuple #[.int .i64 (y.length : Nat), .slice A7 y.length c7, .bool true, .int .i64 0])) ((((w7.setCell ⟨r, 2, none⟩ (.slice A7 y.length c7)).setCell ⟨r, 0, none⟩ (.int .u64 0)).setCell ⟨r, 1, none⟩ (.int .u64 0)).setCell ⟨r, 2, none⟩ (.slice none 0 0)) from by
                rw [HOY.out, if_neg hlg, if_pos rfl]; exact ⟨A7, c7, rfl, HZL.out, HZE.out.1, HZE.out.2⟩)
              clear hlg
              go_wp2
              refine bodyPost_ret (results_tmp4 rfl _ _ _) rfl ?_
              exact HFIN.out
      · have hini : ¬ ((k : Int) + (n : Int) ≤ (L : Int)) := by omega
        clear hin
        go_quiet (fail)
        go_upto_region 12 with fail
        refine fresh (P := fun wx => Code.wp _ _ _ _ wx) (C := fun wx => wx.heap[r]? = some (.cells #[.int .u64 (i : Nat), .int .u64 (t : Nat), .slice A2 L cv2] tRJ (0, 0)) ∧ Own B wx (.slice A2 L cv2) d ∧ Kept (fun b => b = r) w1 wx) ⟨HRX.out, HVX.out, drewK HKX.out _⟩ ?_
        clear x0 x1 x2 y0 y1 y2 y3 y4 HRX HVX HKX
        rintro wy ⟨hrx, hvx, hkx⟩
        have hyx := (hkx.block _ (row_lt HR1.out) (fun e => by have := HRW.out; omega)).trans HR1.out
        obtain ⟨x0, x1, x2⟩ := rjcells hrx
        obtain ⟨y0, y1, y2, y3, y4⟩ := rcells hyx
        obtain ⟨A2', c2', hv2, hlc, hlm, -, hlv, -⟩ := hvx.form
        obtain ⟨rfl, rfl⟩ : A2 = A2' ∧ cv2 = c2' := by injection hv2 with h1 h2 h3; exact ⟨h1, h3⟩
        have hkL : k ≤ cv2 := Nat.le_trans HK.out hlc
        have hs1 := fun w' => run_to' w' A2 L cv2 k hkL
        have HTK := Lib.hid (show k = (d.take k).length by rw [List.length_take]; have := HK.out; omega)
        have HOWN := Lib.hid (show Own wy.heap.size (wy.alloc (.cells #[] 5)).drew (.slice (some ⟨wy.heap.size, 0, none⟩) 0 0) [] from Own.made wy wy.heap.size #[] 0 (Nat.le_refl _) (by decide) rfl)
        have HLA := Lib.hid (show Lies (wy.alloc (.cells #[] 5)).drew wy.heap.size A2 (d.take k) from (lies_take hlv k).alloc (Nat.le_refl _) _)
        have HZA := Lib.hid (show wy.heap.size ≤ (wy.alloc (.cells #[] 5)).drew.heap.size by show _ ≤ (wy.alloc _).heap.size; simp)
        have HBA := Lib.hid (show Below wy.heap.size wy (wy.alloc (.cells #[] 5)).drew from ((Below.refl _ _).alloc (Nat.le_refl _) _).drew)
        have ya : (wy.alloc (.cells #[] 5)).cell? ⟨w.heap.size, 2, none⟩ = some (.int .i64 (k : Int)) := (World.cell?_alloc_lt wy _ ⟨w.heap.size, 2, none⟩ (row_lt hyx)).trans y2
        have xa : (wy.alloc (.cells #[] 5)).cell? ⟨r, 2, none⟩ = some (.slice A2 L cv2) := (World.cell?_alloc_lt wy _ ⟨r, 2, none⟩ (row_lt hrx)).trans x2
        have HRX := Lib.hid hrx
        have HYX := Lib.hid hyx
        have HKX := Lib.hid ((Kept.of_below HB1.out).trans hkx)
        clear hrx hvx hkx hyx hv2 hlc hlm hlv
        go_region_held3 (fun w' => w'.cell? ⟨w.heap.size, 2, none⟩ = some (.int .i64 (k : Int)) ∧ w'.cell? ⟨r, 2, none⟩ = some (.slice A2 L cv2))
          (first
            | with_reducible assumption
            | with_reducible exact ⟨y2, x2⟩
            | with_reducible exact ⟨ya, xa⟩
            | with_reducible exact ⟨y6, x6⟩
            | (simp [y2, x2]; done)
            | (simp [ya, xa]; done)
            | (simp [y6, x6]; done))
          (first
            | (refine step_app rfl (.tmp 96) (.tmp 103) rfl (v := .slice (some ⟨wy.heap.size, 0, none⟩) 0 0) (by simp [Act.eval]) HOWN.out (A := A2) (m := k) (c := cv2) (by simp [Act.eval]) HTK.out HLA.out (by rw [← HTK.out]; have := HK.out; have := HDL.out; simp; omega) HZA.out ?_
               intro v6 w6 ho6 hb6 _
               rw [List.nil_append] at ho6
               obtain ⟨A6, c6, hv6, -⟩ := ho6.form
               rw [← HTK.out] at hv6
               subst hv6
               have hb6' := HBA.out.trans hb6
               have hy6 := (hb6'.block _ (row_lt HYX.out)).trans HYX.out
               have hr6 := (hb6'.block _ (row_lt HRX.out)).trans HRX.out
               obtain ⟨z0, z1, y6, z3, z4⟩ := rcells hy6
               obtain ⟨-, -, x6⟩ := rjcells hr6
               have HO6 := Lib.hid ho6
               have HK6 := Lib.hid (HKX.out.trans (Kept.of_below hb6'))
               have HB6 := Lib.hid hb6'
               have HR6 := Lib.hid hr6
               have HY6 := Lib.hid hy6
               clear ho6 hb6 hb6' hy6 hr6))
        all_goals
          have HL6 := Lib.hid (kept_lies HA1.out HK6.out HRW.out)
          have HRZ := Lib.hid (show r ≤ w6.heap.size from Nat.le_of_lt (row_lt HR6.out))
          obtain ⟨y, hyy⟩ : ∃ y, y = d.take k ++ x := ⟨_, rfl⟩
          have HY := Lib.hid hyy
          clear hyy
          go_upto_region 14 with (at_builtin; refine wpList_app rfl (.tmp 105) (.tmp 107) rfl rfl HO6.out rfl HN.out HL6.out (by rw [← HTK.out]; have := HK.out; have := HDL.out; have := HN.out; omega) HB6.out.size ?_
                                  intro v7 w7 ho7 hb7 hg7
                                  rw [← HY.out] at ho7
                                  obtain ⟨A7, c7, hv7, -⟩ := ho7.form
                                  subst hv7
                                  have hb7' := HB6.out.trans hb7
                                  have hr7 := (hb7'.block _ (row_lt HRX.out)).trans HRX.out
                                  have hy7 := (hb7'.block _ (row_lt HYX.out)).trans HYX.out
                                  have HK7 := Lib.hid (HKX.out.trans (Kept.of_below hb7'))
                                  have HO7 := Lib.hid ho7
                                  have HR7 := Lib.hid hr7
                                  have HY7 := Lib.hid hy7
                                  clear ho7 hb7 hg7 hb7' hr7 hy7)
          obtain ⟨u0, u1, u2⟩ := rjcells HR7.out
          obtain ⟨s0, s1, s2, s3, s4⟩ := rcells HY7.out
          have f7 : ∀ q, w7.frozen? ⟨r, q, none⟩ = false := fun q => frozen_of_row w7 _ q _ _ HR7.out
          have HYB := Lib.hid (show w.heap.size ≤ wy.heap.size from HKX.out.size)
          have HZE := Lib.hid (rj_zero (v := .slice A7 y.length c7) HJ1.out.1 HJ1.out.2.1 HR7.out HK7.out)
          have HZL := Lib.hid (lies_set3 (v := .slice A7 y.length c7) (u := .slice none 0 0) HO7.out (show r < wy.heap.size from row_lt HRX.out))
          have HZS := Lib.hid (rj_set HJ1.out.1 HJ1.out.2.1 HYB.out HR7.out HK7.out HO7.out)
          clear x0 x1 x2 y0 y1 y2 y3 y4 z0 z1 z3 z4 y6 x6 ya xa hs1
          cases last
          · have HOY := Lib.hid (HO.out.trans (by rw [show laidD d k false x = y from (if_neg (fun h => by have := HL.out; have := HN.out; omega)).trans HY.out.symm] : _ = (if 32768 < y.length then (⟨⟨0, 0, []⟩, 0, [], false, 7⟩ : AddO) else if false = true then ⟨⟨0, 0, []⟩, y.length, y, true, 0⟩ else ⟨⟨i, t, y⟩, y.length, [], false, 0⟩)))
            by_cases hlg : 32768 < y.length
            · have hlgi : (32768 : Int) < (y.length : Int) := by omega
              have HFIN := Lib.hid (show RAddPost r B o w (.returned (.tuple #[.int .i64 0, .slice none 0 0, .bool false, .int .i64 7])) ((((w7.setCell ⟨r, 2, none⟩ (.slice A7 y.length c7)).setCell ⟨r, 0, none⟩ (.int .u64 0)).setCell ⟨r, 1, none⟩ (.int .u64 0)).setCell ⟨r, 2, none⟩ (.slice none 0 0)) from by
                rw [HOY.out, if_pos hlg]; exact ⟨none, 0, rfl, Lies.empty _ _ _, HZE.out.1, HZE.out.2⟩)
              clear hlg
              go_wp2
              refine bodyPost_ret (results_tmp4 rfl _ _ _) rfl ?_
              exact HFIN.out
            · have hlgi : ¬ ((32768 : Int) < (y.length : Int)) := by omega
              have HFIN := Lib.hid (show RAddPost r B o w (.returned (.tuple #[.int .i64 (y.length : Nat), .slice none 0 0, .bool false, .int .i64 0])) (w7.setCell ⟨r, 2, none⟩ (.slice A7 y.length c7)) from by
                rw [HOY.out, if_neg hlg, if_neg Bool.false_ne_true]; exact ⟨none, 0, rfl, Lies.empty _ _ _, HZS.out.1, HZS.out.2⟩)
              clear hlg
              go_wp2
              refine bodyPost_ret (results_tmp4 rfl _ _ _) rfl ?_
              exact HFIN.out
          · have HOY := Lib.hid (HO.out.trans (by rw [show laidD d k true x = y from (if_neg (fun h => by have := HL.out; have := HN.out; omega)).trans HY.out.symm] : _ = (if 32768 < y.length then (⟨⟨0, 0, []⟩, 0, [], false, 7⟩ : AddO) else if true = true then ⟨⟨0, 0, []⟩, y.length, y, true, 0⟩ else ⟨⟨i, t, y⟩, y.length, [], false, 0⟩)))
            by_cases hlg : 32768 < y.length
            · have hlgi : (32768 : Int) < (y.length : Int) := by omega
              have HFIN := Lib.hid (show RAddPost r B o w (.returned (.tuple #[.int .i64 0, .slice none 0 0, .bool false, .int .i64 7])) ((((w7.setCell ⟨r, 2, none⟩ (.slice A7 y.length c7)).setCell ⟨r, 0, none⟩ (.int .u64 0)).setCell ⟨r, 1, none⟩ (.int .u64 0)).setCell ⟨r, 2, none⟩ (.slice none 0 0)) from by
                rw [HOY.out, if_pos hlg]; exact ⟨none, 0, rfl, Lies.empty _ _ _, HZE.out.1, HZE.out.2⟩)
              clear hlg
              go_wp2
              refine bodyPost_ret (results_tmp4 rfl _ _ _) rfl ?_
              exact HFIN.out
            · have hlgi : ¬ ((32768 : Int) < (y.length : Int)) := by omega
              have HFIN := Lib.hid (show RAddPost r B o w (.returned (.tuple #[.int .i64 (y.length : Nat), .slice A7 y.length c7, .bool true, .int .i64 0])) ((((w7.setCell ⟨r, 2, none⟩ (.slice A7 y.length c7)).setCell ⟨r, 0, none⟩ (.int .u64 0)).setCell ⟨r, 1, none⟩ (.int .u64 0)).setCell ⟨r, 2, none⟩ (.slice none 0 0)) from by
                rw [HOY.out, if_neg hlg, if_pos rfl]; exact ⟨A7, c7, rfl, HZL.out, HZE.out.1, HZE.out.2⟩)
              clear hlg
              go_wp2
              refine bodyPost_ret (results_tmp4 rfl _ _ _) rfl ?_
              exact HFIN.out
    · have q2 : ((t : Int) != (j.t : Int)) = true := bne_iff_ne.2 (by omega)
      have hdj : d = [] := hd.trans (if_neg (fun h => h2 h.2))
      have hkz : k = 0 := by rw [hdj] at hg; simpa using hg
      have hkne : ((k : Int) != 0) = false := by rw [hkz]; rfl
      have HSET := Lib.hid (fun (q : Nat) => rj_new (d := d) (B := B) hdj (show (w1.drewN q).heap[r]? = _ from HROW1.out) i t)
      clear hdj hkz h1 h2 hg hd
      go_wp2
      go_quiet (fail)
      go_wp2
      go_quiet (fail)
      go_upto_region 10 with fail
      refine fresh (P := fun wx => Code.wp _ _ _ _ wx) (C := fun wx => (∃ v2, wx.heap[r]? = some (.cells #[.int .u64 (i : Nat), .int .u64 (t : Nat), v2] tRJ (0, 0)) ∧ Own B wx v2 d) ∧ Kept (fun b => b = r) w1 wx) ⟨(HSET.out _).1, drewS (HSET.out _).2⟩ ?_
      rintro wx ⟨⟨v2, hrx, hvx⟩, hkx⟩
      clear c0 c1 c2 c3 c4 j0 j1 j2 fj
      have hyx := (hkx.block _ (row_lt HR1.out) (fun e => by have := HRW.out; omega)).trans HR1.out
      obtain ⟨y0, y1, y2, y3, y4⟩ := rcells hyx
      obtain ⟨A2, cv2, hve2, -⟩ := hvx.form
      subst hve2
      obtain ⟨L, hL⟩ : ∃ L, L = d.length := ⟨_, rfl⟩
      rw [← hL] at hrx hvx
      obtain ⟨x0, x1, x2⟩ := rjcells hrx
      have hLi : (L : Int) ≤ 32768 := by have := HDL.out; omega
      have hkL8 : (k : Int) ≤ (L : Int) := by have := HK.out; omega
      have HL := Lib.hid hL
      have HRX := Lib.hid hrx
      have HVX := Lib.hid hvx
      have HKX := Lib.hid hkx
      clear hrx hvx hkx hyx hL
      by_cases hin : k + n ≤ L
      · have hini : (k : Int) + (n : Int) ≤ (L : Int) := by omega
        cases last
        · have hy : laidD d k false x = d := if_pos ⟨by have := HL.out; have := HN.out; omega, rfl⟩
          have HFIN := Lib.hid (fun (q : Nat) => show RAddPost r B o w (.returned (.tuple #[.int .i64 (L : Nat), .slice none 0 0, .bool false, .int .i64 0])) (wx.drewN q) from by
            rw [HO.out, hy, if_neg (by have := HDL.out; omega), if_neg Bool.false_ne_true]
            have hk2 := (Kept.of_below HB1.out).trans (drewK HKX.out q)
            exact ⟨none, 0, by rw [HL.out]; rfl, Lies.empty _ _ _, ⟨HJ1.out.1, Nat.le_trans HJ1.out.2.1 hk2.size, _, HRX.out, HVX.out⟩, hk2⟩)
          clear hin hy
          go_quiet (fail)
          go_wp2
          refine bodyPost_ret (results_tmp4 rfl _ _ _) rfl ?_
          exact HFIN.out _
        · clear hin
          go_quiet (fail)
          go_upto_region 12 with fail
          refine fresh (P := fun wx => Code.wp _ _ _ _ wx) (C := fun wx => wx.heap[r]? = some (.cells #[.int .u64 (i : Nat), .int .u64 (t : Nat), .slice A2 L cv2] tRJ (0, 0)) ∧ Own B wx (.slice A2 L cv2) d ∧ Kept (fun b => b = r) w1 wx) ⟨HRX.out, HVX.out, drewK HKX.out _⟩ ?_
          clear x0 x1 x2 y0 y1 y2 y3 y4 HRX HVX HKX
          rintro wy ⟨hrx, hvx, hkx⟩
          have hyx := (hkx.block _ (row_lt HR1.out) (fun e => by have := HRW.out; omega)).trans HR1.out
          obtain ⟨x0, x1, x2⟩ := rjcells hrx
          obtain ⟨y0, y1, y2, y3, y4⟩ := rcells hyx
          obtain ⟨A2', c2', hv2, hlc, hlm, -, hlv, -⟩ := hvx.form
          obtain ⟨rfl, rfl⟩ : A2 = A2' ∧ cv2 = c2' := by injection hv2 with h1 h2 h3; exact ⟨h1, h3⟩
          have hkL : k ≤ cv2 := Nat.le_trans HK.out hlc
          have hs1 := fun w' => run_to' w' A2 L cv2 k hkL
          have HTK := Lib.hid (show k = (d.take k).length by rw [List.length_take]; have := HK.out; omega)
          have HOWN := Lib.hid (show Own wy.heap.size (wy.alloc (.cells #[] 5)).drew (.slice (some ⟨wy.heap.size, 0, none⟩) 0 0) [] from Own.made wy wy.heap.size #[] 0 (Nat.le_refl _) (by decide) rfl)
          have HLA := Lib.hid (show Lies (wy.alloc (.cells #[] 5)).drew wy.heap.size A2 (d.take k) from (lies_take hlv k).alloc (Nat.le_refl _) _)
          have HZA := Lib.hid (show wy.heap.size ≤ (wy.alloc (.cells #[] 5)).drew.heap.size by show _ ≤ (wy.alloc _).heap.size; simp)
          have HBA := Lib.hid (show Below wy.heap.size wy (wy.alloc (.cells #[] 5)).drew from ((Below.refl _ _).alloc (Nat.le_refl _) _).drew)
          have ya : (wy.alloc (.cells #[] 5)).cell? ⟨w.heap.size, 2, none⟩ = some (.int .i64 (k : Int)) := (World.cell?_alloc_lt wy _ ⟨w.heap.size, 2, none⟩ (row_lt hyx)).trans y2
          have xa : (wy.alloc (.cells #[] 5)).cell? ⟨r, 2, none⟩ = some (.slice A2 L cv2) := (World.cell?_alloc_lt wy _ ⟨r, 2, none⟩ (row_lt hrx)).trans x2
          have HRX := Lib.hid hrx
          have HYX := Lib.hid hyx
          have HKX := Lib.hid ((Kept.of_below HB1.out).trans hkx)
          clear hrx hvx hkx hyx hv2 hlc hlm hlv
          go_region_held3 (fun w' => w'.cell? ⟨w.heap.size, 2, none⟩ = some (.int .i64 (k : Int)) ∧ w'.cell? ⟨r, 2, none⟩ = some (.slice A2 L cv2))
            (first
              | with_reducible assumption
              | with_reducible exact ⟨y2, x2⟩
              | with_reducible exact ⟨ya, xa⟩
              | with_reducible exact ⟨y6, x6⟩
              | (simp [y2, x2]; done)
              | (simp [ya, xa]; done)
              | (simp [y6, x6]; done))
            (first
              | (refine step_app rfl (.tmp 96) (.tmp 103) rfl (v := .slice (some ⟨wy.heap.size, 0, none⟩) 0 0) (by simp [Act.eval]) HOWN.out (A := A2) (m := k) (c := cv2) (by simp [Act.eval]) HTK.out HLA.out (by rw [← HTK.out]; have := HK.out; have := HDL.out; simp; omega) HZA.out ?_
                 intro v6 w6 ho6 hb6 _
                 rw [List.nil_append] at ho6
                 obtain ⟨A6, c6, hv6, -⟩ := ho6.form
                 rw [← HTK.out] at hv6
                 subst hv6
                 have hb6' := HBA.out.trans hb6
                 have hy6 := (hb6'.block _ (row_lt HYX.out)).trans HYX.out
                 have hr6 := (hb6'.block _ (row_lt HRX.out)).trans HRX.out
                 obtain ⟨z0, z1, y6, z3, z4⟩ := rcells hy6
                 obtain ⟨-, -, x6⟩ := rjcells hr6
                 have HO6 := Lib.hid ho6
                 have HK6 := Lib.hid (HKX.out.trans (Kept.of_below hb6'))
                 have HB6 := Lib.hid hb6'
                 have HR6 := Lib.hid hr6
                 have HY6 := Lib.hid hy6
                 clear ho6 hb6 hb6' hy6 hr6))
          all_goals
            have HL6 := Lib.hid (kept_lies HA1.out HK6.out HRW.out)
            have HRZ := Lib.hid (show r ≤ w6.heap.size from Nat.le_of_lt (row_lt HR6.out))
            obtain ⟨y, hyy⟩ : ∃ y, y = d.take k ++ x := ⟨_, rfl⟩
            have HY := Lib.hid hyy
            clear hyy
            go_upto_region 14 with (at_builtin; refine wpList_app rfl (.tmp 105) (.tmp 107) rfl rfl HO6.out rfl HN.out HL6.out (by rw [← HTK.out]; have := HK.out; have := HDL.out; have := HN.out; omega) HB6.out.size ?_
                                    intro v7 w7 ho7 hb7 hg7
                                    rw [← HY.out] at ho7
                                    obtain ⟨A7, c7, hv7, -⟩ := ho7.form
                                    subst hv7
                                    have hb7' := HB6.out.trans hb7
                                    have hr7 := (hb7'.block _ (row_lt HRX.out)).trans HRX.out
                                    have hy7 := (hb7'.block _ (row_lt HYX.out)).trans HYX.out
                                    have HK7 := Lib.hid (HKX.out.trans (Kept.of_below hb7'))
                                    have HO7 := Lib.hid ho7
                                    have HR7 := Lib.hid hr7
                                    have HY7 := Lib.hid hy7
                                    clear ho7 hb7 hg7 hb7' hr7 hy7)
            obtain ⟨u0, u1, u2⟩ := rjcells HR7.out
            obtain ⟨s0, s1, s2, s3, s4⟩ := rcells HY7.out
            have f7 : ∀ q, w7.frozen? ⟨r, q, none⟩ = false := fun q => frozen_of_row w7 _ q _ _ HR7.out
            have HYB := Lib.hid (show w.heap.size ≤ wy.heap.size from HKX.out.size)
            have HZE := Lib.hid (rj_zero (v := .slice A7 y.length c7) HJ1.out.1 HJ1.out.2.1 HR7.out HK7.out)
            have HZL := Lib.hid (lies_set3 (v := .slice A7 y.length c7) (u := .slice none 0 0) HO7.out (show r < wy.heap.size from row_lt HRX.out))
            have HZS := Lib.hid (rj_set HJ1.out.1 HJ1.out.2.1 HYB.out HR7.out HK7.out HO7.out)
            clear x0 x1 x2 y0 y1 y2 y3 y4 z0 z1 z3 z4 y6 x6 ya xa hs1
            have HOY := Lib.hid (HO.out.trans (by rw [show laidD d k true x = y from (if_neg (fun h => by cases h.2)).trans HY.out.symm] : _ = (if 32768 < y.length then (⟨⟨0, 0, []⟩, 0, [], false, 7⟩ : AddO) else if true = true then ⟨⟨0, 0, []⟩, y.length, y, true, 0⟩ else ⟨⟨i, t, y⟩, y.length, [], false, 0⟩)))
            by_cases hlg : 32768 < y.length
            · have hlgi : (32768 : Int) < (y.length : Int) := by omega
              have HFIN := Lib.hid (show RAddPost r B o w (.returned (.tuple #[.int .i64 0, .slice none 0 0, .bool false, .int .i64 7])) ((((w7.setCell ⟨r, 2, none⟩ (.slice A7 y.length c7)).setCell ⟨r, 0, none⟩ (.int .u64 0)).setCell ⟨r, 1, none⟩ (.int .u64 0)).setCell ⟨r, 2, none⟩ (.slice none 0 0)) from by
                rw [HOY.out, if_pos hlg]; exact ⟨none, 0, rfl, Lies.empty _ _ _, HZE.out.1, HZE.out.2⟩)
              clear hlg
              go_wp2
              refine bodyPost_ret (results_tmp4 rfl _ _ _) rfl ?_
              exact HFIN.out
            · have hlgi : ¬ ((32768 : Int) < (y.length : Int)) := by omega
              have HFIN := Lib.hid (show RAddPost r B o w (.returned (.tuple #[.int .i64 (y.length : Nat), .slice A7 y.length c7, .bool true, .int .i64 0])) ((((w7.setCell ⟨r, 2, none⟩ (.slice A7 y.length c7)).setCell ⟨r, 0, none⟩ (.int .u64 0)).setCell ⟨r, 1, none⟩ (.int .u64 0)).setCell ⟨r, 2, none⟩ (.slice none 0 0)) from by
                rw [HOY.out, if_neg hlg, if_pos rfl]; exact ⟨A7, c7, rfl, HZL.out, HZE.out.1, HZE.out.2⟩)
              clear hlg
              go_wp2
              refine bodyPost_ret (results_tmp4 rfl _ _ _) rfl ?_
              exact HFIN.out
      · have hini : ¬ ((k : Int) + (n : Int) ≤ (L : Int)) := by omega
        clear hin
        go_quiet (fail)
        go_upto_region 12 with fail
        refine fresh (P := fun wx => Code.wp _ _ _ _ wx) (C := fun wx => wx.heap[r]? = some (.cells #[.int .u64 (i : Nat), .int .u64 (t : Nat), .slice A2 L cv2] tRJ (0, 0)) ∧ Own B wx (.slice A2 L cv2) d ∧ Kept (fun b => b = r) w1 wx) ⟨HRX.out, HVX.out, drewK HKX.out _⟩ ?_
        clear x0 x1 x2 y0 y1 y2 y3 y4 HRX HVX HKX
        rintro wy ⟨hrx, hvx, hkx⟩
        have hyx := (hkx.block _ (row_lt HR1.out) (fun e => by have := HRW.out; omega)).trans HR1.out
        obtain ⟨x0, x1, x2⟩ := rjcells hrx
        obtain ⟨y0, y1, y2, y3, y4⟩ := rcells hyx
        obtain ⟨A2', c2', hv2, hlc, hlm, -, hlv, -⟩ := hvx.form
        obtain ⟨rfl, rfl⟩ : A2 = A2' ∧ cv2 = c2' := by injection hv2 with h1 h2 h3; exact ⟨h1, h3⟩
        have hkL : k ≤ cv2 := Nat.le_trans HK.out hlc
        have hs1 := fun w' => run_to' w' A2 L cv2 k hkL
        have HTK := Lib.hid (show k = (d.take k).length by rw [List.length_take]; have := HK.out; omega)
        have HOWN := Lib.hid (show Own wy.heap.size (wy.alloc (.cells #[] 5)).drew (.slice (some ⟨wy.heap.size, 0, none⟩) 0 0) [] from Own.made wy wy.heap.size #[] 0 (Nat.le_refl _) (by decide) rfl)
        have HLA := Lib.hid (show Lies (wy.alloc (.cells #[] 5)).drew wy.heap.size A2 (d.take k) from (lies_take hlv k).alloc (Nat.le_refl _) _)
        have HZA := Lib.hid (show wy.heap.size ≤ (wy.alloc (.cells #[] 5)).drew.heap.size by show _ ≤ (wy.alloc _).heap.size; simp)
        have HBA := Lib.hid (show Below wy.heap.size wy (wy.alloc (.cells #[] 5)).drew from ((Below.refl _ _).alloc (Nat.le_refl _) _).drew)
        have ya : (wy.alloc (.cells #[] 5)).cell? ⟨w.heap.size, 2, none⟩ = some (.int .i64 (k : Int)) := (World.cell?_alloc_lt wy _ ⟨w.heap.size, 2, none⟩ (row_lt hyx)).trans y2
        have xa : (wy.alloc (.cells #[] 5)).cell? ⟨r, 2, none⟩ = some (.slice A2 L cv2) := (World.cell?_alloc_lt wy _ ⟨r, 2, none⟩ (row_lt hrx)).trans x2
        have HRX := Lib.hid hrx
        have HYX := Lib.hid hyx
        have HKX := Lib.hid ((Kept.of_below HB1.out).trans hkx)
        clear hrx hvx hkx hyx hv2 hlc hlm hlv
        go_region_held3 (fun w' => w'.cell? ⟨w.heap.size, 2, none⟩ = some (.int .i64 (k : Int)) ∧ w'.cell? ⟨r, 2, none⟩ = some (.slice A2 L cv2))
          (first
            | with_reducible assumption
            | with_reducible exact ⟨y2, x2⟩
            | with_reducible exact ⟨ya, xa⟩
            | with_reducible exact ⟨y6, x6⟩
            | (simp [y2, x2]; done)
            | (simp [ya, xa]; done)
            | (simp [y6, x6]; done))
          (first
            | (refine step_app rfl (.tmp 96) (.tmp 103) rfl (v := .slice (some ⟨wy.heap.size, 0, none⟩) 0 0) (by simp [Act.eval]) HOWN.out (A := A2) (m := k) (c := cv2) (by simp [Act.eval]) HTK.out HLA.out (by rw [← HTK.out]; have := HK.out; have := HDL.out; simp; omega) HZA.out ?_
               intro v6 w6 ho6 hb6 _
               rw [List.nil_append] at ho6
               obtain ⟨A6, c6, hv6, -⟩ := ho6.form
               rw [← HTK.out] at hv6
               subst hv6
               have hb6' := HBA.out.trans hb6
               have hy6 := (hb6'.block _ (row_lt HYX.out)).trans HYX.out
               have hr6 := (hb6'.block _ (row_lt HRX.out)).trans HRX.out
               obtain ⟨z0, z1, y6, z3, z4⟩ := rcells hy6
               obtain ⟨-, -, x6⟩ := rjcells hr6
               have HO6 := Lib.hid ho6
               have HK6 := Lib.hid (HKX.out.trans (Kept.of_below hb6'))
               have HB6 := Lib.hid hb6'
               have HR6 := Lib.hid hr6
               have HY6 := Lib.hid hy6
               clear ho6 hb6 hb6' hy6 hr6))
        all_goals
          have HL6 := Lib.hid (kept_lies HA1.out HK6.out HRW.out)
          have HRZ := Lib.hid (show r ≤ w6.heap.size from Nat.le_of_lt (row_lt HR6.out))
          obtain ⟨y, hyy⟩ : ∃ y, y = d.take k ++ x := ⟨_, rfl⟩
          have HY := Lib.hid hyy
          clear hyy
          go_upto_region 14 with (at_builtin; refine wpList_app rfl (.tmp 105) (.tmp 107) rfl rfl HO6.out rfl HN.out HL6.out (by rw [← HTK.out]; have := HK.out; have := HDL.out; have := HN.out; omega) HB6.out.size ?_
                                  intro v7 w7 ho7 hb7 hg7
                                  rw [← HY.out] at ho7
                                  obtain ⟨A7, c7, hv7, -⟩ := ho7.form
                                  subst hv7
                                  have hb7' := HB6.out.trans hb7
                                  have hr7 := (hb7'.block _ (row_lt HRX.out)).trans HRX.out
                                  have hy7 := (hb7'.block _ (row_lt HYX.out)).trans HYX.out
                                  have HK7 := Lib.hid (HKX.out.trans (Kept.of_below hb7'))
                                  have HO7 := Lib.hid ho7
                                  have HR7 := Lib.hid hr7
                                  have HY7 := Lib.hid hy7
                                  clear ho7 hb7 hg7 hb7' hr7 hy7)
          obtain ⟨u0, u1, u2⟩ := rjcells HR7.out
          obtain ⟨s0, s1, s2, s3, s4⟩ := rcells HY7.out
          have f7 : ∀ q, w7.frozen? ⟨r, q, none⟩ = false := fun q => frozen_of_row w7 _ q _ _ HR7.out
          have HYB := Lib.hid (show w.heap.size ≤ wy.heap.size from HKX.out.size)
          have HZE := Lib.hid (rj_zero (v := .slice A7 y.length c7) HJ1.out.1 HJ1.out.2.1 HR7.out HK7.out)
          have HZL := Lib.hid (lies_set3 (v := .slice A7 y.length c7) (u := .slice none 0 0) HO7.out (show r < wy.heap.size from row_lt HRX.out))
          have HZS := Lib.hid (rj_set HJ1.out.1 HJ1.out.2.1 HYB.out HR7.out HK7.out HO7.out)
          clear x0 x1 x2 y0 y1 y2 y3 y4 z0 z1 z3 z4 y6 x6 ya xa hs1
          cases last
          · have HOY := Lib.hid (HO.out.trans (by rw [show laidD d k false x = y from (if_neg (fun h => by have := HL.out; have := HN.out; omega)).trans HY.out.symm] : _ = (if 32768 < y.length then (⟨⟨0, 0, []⟩, 0, [], false, 7⟩ : AddO) else if false = true then ⟨⟨0, 0, []⟩, y.length, y, true, 0⟩ else ⟨⟨i, t, y⟩, y.length, [], false, 0⟩)))
            by_cases hlg : 32768 < y.length
            · have hlgi : (32768 : Int) < (y.length : Int) := by omega
              have HFIN := Lib.hid (show RAddPost r B o w (.returned (.tuple #[.int .i64 0, .slice none 0 0, .bool false, .int .i64 7])) ((((w7.setCell ⟨r, 2, none⟩ (.slice A7 y.length c7)).setCell ⟨r, 0, none⟩ (.int .u64 0)).setCell ⟨r, 1, none⟩ (.int .u64 0)).setCell ⟨r, 2, none⟩ (.slice none 0 0)) from by
                rw [HOY.out, if_pos hlg]; exact ⟨none, 0, rfl, Lies.empty _ _ _, HZE.out.1, HZE.out.2⟩)
              clear hlg
              go_wp2
              refine bodyPost_ret (results_tmp4 rfl _ _ _) rfl ?_
              exact HFIN.out
            · have hlgi : ¬ ((32768 : Int) < (y.length : Int)) := by omega
              have HFIN := Lib.hid (show RAddPost r B o w (.returned (.tuple #[.int .i64 (y.length : Nat), .slice none 0 0, .bool false, .int .i64 0])) (w7.setCell ⟨r, 2, none⟩ (.slice A7 y.length c7)) from by
                rw [HOY.out, if_neg hlg, if_neg Bool.false_ne_true]; exact ⟨none, 0, rfl, Lies.empty _ _ _, HZS.out.1, HZS.out.2⟩)
              clear hlg
              go_wp2
              refine bodyPost_ret (results_tmp4 rfl _ _ _) rfl ?_
              exact HFIN.out
          · have HOY := Lib.hid (HO.out.trans (by rw [show laidD d k true x = y from (if_neg (fun h => by have := HL.out; have := HN.out; omega)).trans HY.out.symm] : _ = (if 32768 < y.length then (⟨⟨0, 0, []⟩, 0, [], false, 7⟩ : AddO) else if true = true then ⟨⟨0, 0, []⟩, y.length, y, true, 0⟩ else ⟨⟨i, t, y⟩, y.length, [], false, 0⟩)))
            by_cases hlg : 32768 < y.length
            · have hlgi : (32768 : Int) < (y.length : Int) := by omega
              have HFIN := Lib.hid (show RAddPost r B o w (.returned (.tuple #[.int .i64 0, .slice none 0 0, .bool false, .int .i64 7])) ((((w7.setCell ⟨r, 2, none⟩ (.slice A7 y.length c7)).setCell ⟨r, 0, none⟩ (.int .u64 0)).setCell ⟨r, 1, none⟩ (.int .u64 0)).setCell ⟨r, 2, none⟩ (.slice none 0 0)) from by
                rw [HOY.out, if_pos hlg]; exact ⟨none, 0, rfl, Lies.empty _ _ _, HZE.out.1, HZE.out.2⟩)
              clear hlg
              go_wp2
              refine bodyPost_ret (results_tmp4 rfl _ _ _) rfl ?_
              exact HFIN.out
            · have hlgi : ¬ ((32768 : Int) < (y.length : Int)) := by omega
              have HFIN := Lib.hid (show RAddPost r B o w (.returned (.tuple #[.int .i64 (y.length : Nat), .slice A7 y.length c7, .bool true, .int .i64 0])) ((((w7.setCell ⟨r, 2, none⟩ (.slice A7 y.length c7)).setCell ⟨r, 0, none⟩ (.int .u64 0)).setCell ⟨r, 1, none⟩ (.int .u64 0)).setCell ⟨r, 2, none⟩ (.slice none 0 0)) from by
                rw [HOY.out, if_neg hlg, if_pos rfl]; exact ⟨A7, c7, rfl, HZL.out, HZE.out.1, HZE.out.2⟩)
              clear hlg
              go_wp2
              refine bodyPost_ret (results_tmp4 rfl _ _ _) rfl ?_
              exact HFIN.out
  · have q1 : ((i : Int) != (j.i : Int)) = true := bne_iff_ne.2 (by omega)
    have hdj : d = [] := hd.trans (if_neg (fun h => h1 h.1))
    have hkz : k = 0 := by rw [hdj] at hg; simpa using hg
    have hkne : ((k : Int) != 0) = false := by rw [hkz]; rfl
    have HSET := Lib.hid (fun (q : Nat) => rj_new (d := d) (B := B) hdj (show (w1.drewN q).heap[r]? = _ from HROW1.out) i t)
    clear hdj hkz h1 hg hd
    go_wp2
    go_quiet (fail)
    go_wp2
    go_quiet (fail)
    go_upto_region 10 with fail
    refine fresh (P := fun wx => Code.wp _ _ _ _ wx) (C := fun wx => (∃ v2, wx.heap[r]? = some (.cells #[.int .u64 (i : Nat), .int .u64 (t : Nat), v2] tRJ (0, 0)) ∧ Own B wx v2 d) ∧ Kept (fun b => b = r) w1 wx) ⟨(HSET.out _).1, drewS (HSET.out _).2⟩ ?_
    rintro wx ⟨⟨v2, hrx, hvx⟩, hkx⟩
    clear c0 c1 c2 c3 c4 j0 j1 j2 fj
    have hyx := (hkx.block _ (row_lt HR1.out) (fun e => by have := HRW.out; omega)).trans HR1.out
    obtain ⟨y0, y1, y2, y3, y4⟩ := rcells hyx
    obtain ⟨A2, cv2, hve2, -⟩ := hvx.form
    subst hve2
    obtain ⟨L, hL⟩ : ∃ L, L = d.length := ⟨_, rfl⟩
    rw [← hL] at hrx hvx
    obtain ⟨x0, x1, x2⟩ := rjcells hrx
    have hLi : (L : Int) ≤ 32768 := by have := HDL.out; omega
    have hkL8 : (k : Int) ≤ (L : Int) := by have := HK.out; omega
    have HL := Lib.hid hL
    have HRX := Lib.hid hrx
    have HVX := Lib.hid hvx
    have HKX := Lib.hid hkx
    clear hrx hvx hkx hyx hL
    by_cases hin : k + n ≤ L
    · have hini : (k : Int) + (n : Int) ≤ (L : Int) := by omega
      cases last
      · have hy : laidD d k false x = d := if_pos ⟨by have := HL.out; have := HN.out; omega, rfl⟩
        have HFIN := Lib.hid (fun (q : Nat) => show RAddPost r B o w (.returned (.tuple #[.int .i64 (L : Nat), .slice none 0 0, .bool false, .int .i64 0])) (wx.drewN q) from by
          rw [HO.out, hy, if_neg (by have := HDL.out; omega), if_neg Bool.false_ne_true]
          have hk2 := (Kept.of_below HB1.out).trans (drewK HKX.out q)
          exact ⟨none, 0, by rw [HL.out]; rfl, Lies.empty _ _ _, ⟨HJ1.out.1, Nat.le_trans HJ1.out.2.1 hk2.size, _, HRX.out, HVX.out⟩, hk2⟩)
        clear hin hy
        go_quiet (fail)
        go_wp2
        refine bodyPost_ret (results_tmp4 rfl _ _ _) rfl ?_
        exact HFIN.out _
      · clear hin
        go_quiet (fail)
        go_upto_region 12 with fail
        refine fresh (P := fun wx => Code.wp _ _ _ _ wx) (C := fun wx => wx.heap[r]? = some (.cells #[.int .u64 (i : Nat), .int .u64 (t : Nat), .slice A2 L cv2] tRJ (0, 0)) ∧ Own B wx (.slice A2 L cv2) d ∧ Kept (fun b => b = r) w1 wx) ⟨HRX.out, HVX.out, drewK HKX.out _⟩ ?_
        clear x0 x1 x2 y0 y1 y2 y3 y4 HRX HVX HKX
        rintro wy ⟨hrx, hvx, hkx⟩
        have hyx := (hkx.block _ (row_lt HR1.out) (fun e => by have := HRW.out; omega)).trans HR1.out
        obtain ⟨x0, x1, x2⟩ := rjcells hrx
        obtain ⟨y0, y1, y2, y3, y4⟩ := rcells hyx
        obtain ⟨A2', c2', hv2, hlc, hlm, -, hlv, -⟩ := hvx.form
        obtain ⟨rfl, rfl⟩ : A2 = A2' ∧ cv2 = c2' := by injection hv2 with h1 h2 h3; exact ⟨h1, h3⟩
        have hkL : k ≤ cv2 := Nat.le_trans HK.out hlc
        have hs1 := fun w' => run_to' w' A2 L cv2 k hkL
        have HTK := Lib.hid (show k = (d.take k).length by rw [List.length_take]; have := HK.out; omega)
        have HOWN := Lib.hid (show Own wy.heap.size (wy.alloc (.cells #[] 5)).drew (.slice (some ⟨wy.heap.size, 0, none⟩) 0 0) [] from Own.made wy wy.heap.size #[] 0 (Nat.le_refl _) (by decide) rfl)
        have HLA := Lib.hid (show Lies (wy.alloc (.cells #[] 5)).drew wy.heap.size A2 (d.take k) from (lies_take hlv k).alloc (Nat.le_refl _) _)
        have HZA := Lib.hid (show wy.heap.size ≤ (wy.alloc (.cells #[] 5)).drew.heap.size by show _ ≤ (wy.alloc _).heap.size; simp)
        have HBA := Lib.hid (show Below wy.heap.size wy (wy.alloc (.cells #[] 5)).drew from ((Below.refl _ _).alloc (Nat.le_refl _) _).drew)
        have ya : (wy.alloc (.cells #[] 5)).cell? ⟨w.heap.size, 2, none⟩ = some (.int .i64 (k : Int)) := (World.cell?_alloc_lt wy _ ⟨w.heap.size, 2, none⟩ (row_lt hyx)).trans y2
        have xa : (wy.alloc (.cells #[] 5)).cell? ⟨r, 2, none⟩ = some (.slice A2 L cv2) := (World.cell?_alloc_lt wy _ ⟨r, 2, none⟩ (row_lt hrx)).trans x2
        have HRX := Lib.hid hrx
        have HYX := Lib.hid hyx
        have HKX := Lib.hid ((Kept.of_below HB1.out).trans hkx)
        clear hrx hvx hkx hyx hv2 hlc hlm hlv
        go_region_held3 (fun w' => w'.cell? ⟨w.heap.size, 2, none⟩ = some (.int .i64 (k : Int)) ∧ w'.cell? ⟨r, 2, none⟩ = some (.slice A2 L cv2))
          (first
            | with_reducible assumption
            | with_reducible exact ⟨y2, x2⟩
            | with_reducible exact ⟨ya, xa⟩
            | with_reducible exact ⟨y6, x6⟩
            | (simp [y2, x2]; done)
            | (simp [ya, xa]; done)
            | (simp [y6, x6]; done))
          (first
            | (refine step_app rfl (.tmp 96) (.tmp 103) rfl (v := .slice (some ⟨wy.heap.size, 0, none⟩) 0 0) (by simp [Act.eval]) HOWN.out (A := A2) (m := k) (c := cv2) (by simp [Act.eval]) HTK.out HLA.out (by rw [← HTK.out]; have := HK.out; have := HDL.out; simp; omega) HZA.out ?_
               intro v6 w6 ho6 hb6 _
               rw [List.nil_append] at ho6
               obtain ⟨A6, c6, hv6, -⟩ := ho6.form
               rw [← HTK.out] at hv6
               subst hv6
               have hb6' := HBA.out.trans hb6
               have hy6 := (hb6'.block _ (row_lt HYX.out)).trans HYX.out
               have hr6 := (hb6'.block _ (row_lt HRX.out)).trans HRX.out
               obtain ⟨z0, z1, y6, z3, z4⟩ := rcells hy6
               obtain ⟨-, -, x6⟩ := rjcells hr6
               have HO6 := Lib.hid ho6
               have HK6 := Lib.hid (HKX.out.trans (Kept.of_below hb6'))
               have HB6 := Lib.hid hb6'
               have HR6 := Lib.hid hr6
               have HY6 := Lib.hid hy6
               clear ho6 hb6 hb6' hy6 hr6))
        all_goals
          have HL6 := Lib.hid (kept_lies HA1.out HK6.out HRW.out)
          have HRZ := Lib.hid (show r ≤ w6.heap.size from Nat.le_of_lt (row_lt HR6.out))
          obtain ⟨y, hyy⟩ : ∃ y, y = d.take k ++ x := ⟨_, rfl⟩
          have HY := Lib.hid hyy
          clear hyy
          go_upto_region 14 with (at_builtin; refine wpList_app rfl (.tmp 105) (.tmp 107) rfl rfl HO6.out rfl HN.out HL6.out (by rw [← HTK.out]; have := HK.out; have := HDL.out; have := HN.out; omega) HB6.out.size ?_
                                  intro v7 w7 ho7 hb7 hg7
                                  rw [← HY.out] at ho7
                                  obtain ⟨A7, c7, hv7, -⟩ := ho7.form
                                  subst hv7
                                  have hb7' := HB6.out.trans hb7
                                  have hr7 := (hb7'.block _ (row_lt HRX.out)).trans HRX.out
                                  have hy7 := (hb7'.block _ (row_lt HYX.out)).trans HYX.out
                                  have HK7 := Lib.hid (HKX.out.trans (Kept.of_below hb7'))
                                  have HO7 := Lib.hid ho7
                                  have HR7 := Lib.hid hr7
                                  have HY7 := Lib.hid hy7
                                  clear ho7 hb7 hg7 hb7' hr7 hy7)
          obtain ⟨u0, u1, u2⟩ := rjcells HR7.out
          obtain ⟨s0, s1, s2, s3, s4⟩ := rcells HY7.out
          have f7 : ∀ q, w7.frozen? ⟨r, q, none⟩ = false := fun q => frozen_of_row w7 _ q _ _ HR7.out
          have HYB := Lib.hid (show w.heap.size ≤ wy.heap.size from HKX.out.size)
          have HZE := Lib.hid (rj_zero (v := .slice A7 y.length c7) HJ1.out.1 HJ1.out.2.1 HR7.out HK7.out)
          have HZL := Lib.hid (lies_set3 (v := .slice A7 y.length c7) (u := .slice none 0 0) HO7.out (show r < wy.heap.size from row_lt HRX.out))
          have HZS := Lib.hid (rj_set HJ1.out.1 HJ1.out.2.1 HYB.out HR7.out HK7.out HO7.out)
          clear x0 x1 x2 y0 y1 y2 y3 y4 z0 z1 z3 z4 y6 x6 ya xa hs1
          have HOY := Lib.hid (HO.out.trans (by rw [show laidD d k true x = y from (if_neg (fun h => by cases h.2)).trans HY.out.symm] : _ = (if 32768 < y.length then (⟨⟨0, 0, []⟩, 0, [], false, 7⟩ : AddO) else if true = true then ⟨⟨0, 0, []⟩, y.length, y, true, 0⟩ else ⟨⟨i, t, y⟩, y.length, [], false, 0⟩)))
          by_cases hlg : 32768 < y.length
          · have hlgi : (32768 : Int) < (y.length : Int) := by omega
            have HFIN := Lib.hid (show RAddPost r B o w (.returned (.tuple #[.int .i64 0, .slice none 0 0, .bool false, .int .i64 7])) ((((w7.setCell ⟨r, 2, none⟩ (.slice A7 y.length c7)).setCell ⟨r, 0, none⟩ (.int .u64 0)).setCell ⟨r, 1, none⟩ (.int .u64 0)).setCell ⟨r, 2, none⟩ (.slice none 0 0)) from by
              rw [HOY.out, if_pos hlg]; exact ⟨none, 0, rfl, Lies.empty _ _ _, HZE.out.1, HZE.out.2⟩)
            clear hlg
            go_wp2
            refine bodyPost_ret (results_tmp4 rfl _ _ _) rfl ?_
            exact HFIN.out
          · have hlgi : ¬ ((32768 : Int) < (y.length : Int)) := by omega
            have HFIN := Lib.hid (show RAddPost r B o w (.returned (.tuple #[.int .i64 (y.length : Nat), .slice A7 y.length c7, .bool true, .int .i64 0])) ((((w7.setCell ⟨r, 2, none⟩ (.slice A7 y.length c7)).setCell ⟨r, 0, none⟩ (.int .u64 0)).setCell ⟨r, 1, none⟩ (.int .u64 0)).setCell ⟨r, 2, none⟩ (.slice none 0 0)) from by
              rw [HOY.out, if_neg hlg, if_pos rfl]; exact ⟨A7, c7, rfl, HZL.out, HZE.out.1, HZE.out.2⟩)
            clear hlg
            go_wp2
            refine bodyPost_ret (results_tmp4 rfl _ _ _) rfl ?_
            exact HFIN.out
    · have hini : ¬ ((k : Int) + (n : Int) ≤ (L : Int)) := by omega
      clear hin
      go_quiet (fail)
      go_upto_region 12 with fail
      refine fresh (P := fun wx => Code.wp _ _ _ _ wx) (C := fun wx => wx.heap[r]? = some (.cells #[.int .u64 (i : Nat), .int .u64 (t : Nat), .slice A2 L cv2] tRJ (0, 0)) ∧ Own B wx (.slice A2 L cv2) d ∧ Kept (fun b => b = r) w1 wx) ⟨HRX.out, HVX.out, drewK HKX.out _⟩ ?_
      clear x0 x1 x2 y0 y1 y2 y3 y4 HRX HVX HKX
      rintro wy ⟨hrx, hvx, hkx⟩
      have hyx := (hkx.block _ (row_lt HR1.out) (fun e => by have := HRW.out; omega)).trans HR1.out
      obtain ⟨x0, x1, x2⟩ := rjcells hrx
      obtain ⟨y0, y1, y2, y3, y4⟩ := rcells hyx
      obtain ⟨A2', c2', hv2, hlc, hlm, -, hlv, -⟩ := hvx.form
      obtain ⟨rfl, rfl⟩ : A2 = A2' ∧ cv2 = c2' := by injection hv2 with h1 h2 h3; exact ⟨h1, h3⟩
      have hkL : k ≤ cv2 := Nat.le_trans HK.out hlc
      have hs1 := fun w' => run_to' w' A2 L cv2 k hkL
      have HTK := Lib.hid (show k = (d.take k).length by rw [List.length_take]; have := HK.out; omega)
      have HOWN := Lib.hid (show Own wy.heap.size (wy.alloc (.cells #[] 5)).drew (.slice (some ⟨wy.heap.size, 0, none⟩) 0 0) [] from Own.made wy wy.heap.size #[] 0 (Nat.le_refl _) (by decide) rfl)
      have HLA := Lib.hid (show Lies (wy.alloc (.cells #[] 5)).drew wy.heap.size A2 (d.take k) from (lies_take hlv k).alloc (Nat.le_refl _) _)
      have HZA := Lib.hid (show wy.heap.size ≤ (wy.alloc (.cells #[] 5)).drew.heap.size by show _ ≤ (wy.alloc _).heap.size; simp)
      have HBA := Lib.hid (show Below wy.heap.size wy (wy.alloc (.cells #[] 5)).drew from ((Below.refl _ _).alloc (Nat.le_refl _) _).drew)
      have ya : (wy.alloc (.cells #[] 5)).cell? ⟨w.heap.size, 2, none⟩ = some (.int .i64 (k : Int)) := (World.cell?_alloc_lt wy _ ⟨w.heap.size, 2, none⟩ (row_lt hyx)).trans y2
      have xa : (wy.alloc (.cells #[] 5)).cell? ⟨r, 2, none⟩ = some (.slice A2 L cv2) := (World.cell?_alloc_lt wy _ ⟨r, 2, none⟩ (row_lt hrx)).trans x2
      have HRX := Lib.hid hrx
      have HYX := Lib.hid hyx
      have HKX := Lib.hid ((Kept.of_below HB1.out).trans hkx)
      clear hrx hvx hkx hyx hv2 hlc hlm hlv
      go_region_held3 (fun w' => w'.cell? ⟨w.heap.size, 2, none⟩ = some (.int .i64 (k : Int)) ∧ w'.cell? ⟨r, 2, none⟩ = some (.slice A2 L cv2))
        (first
          | with_reducible assumption
          | with_reducible exact ⟨y2, x2⟩
          | with_reducible exact ⟨ya, xa⟩
          | with_reducible exact ⟨y6, x6⟩
          | (simp [y2, x2]; done)
          | (simp [ya, xa]; done)
          | (simp [y6, x6]; done))
        (first
          | (refine step_app rfl (.tmp 96) (.tmp 103) rfl (v := .slice (some ⟨wy.heap.size, 0, none⟩) 0 0) (by simp [Act.eval]) HOWN.out (A := A2) (m := k) (c := cv2) (by simp [Act.eval]) HTK.out HLA.out (by rw [← HTK.out]; have := HK.out; have := HDL.out; simp; omega) HZA.out ?_
             intro v6 w6 ho6 hb6 _
             rw [List.nil_append] at ho6
             obtain ⟨A6, c6, hv6, -⟩ := ho6.form
             rw [← HTK.out] at hv6
             subst hv6
             have hb6' := HBA.out.trans hb6
             have hy6 := (hb6'.block _ (row_lt HYX.out)).trans HYX.out
             have hr6 := (hb6'.block _ (row_lt HRX.out)).trans HRX.out
             obtain ⟨z0, z1, y6, z3, z4⟩ := rcells hy6
             obtain ⟨-, -, x6⟩ := rjcells hr6
             have HO6 := Lib.hid ho6
             have HK6 := Lib.hid (HKX.out.trans (Kept.of_below hb6'))
             have HB6 := Lib.hid hb6'
             have HR6 := Lib.hid hr6
             have HY6 := Lib.hid hy6
             clear ho6 hb6 hb6' hy6 hr6))
      all_goals
        have HL6 := Lib.hid (kept_lies HA1.out HK6.out HRW.out)
        have HRZ := Lib.hid (show r ≤ w6.heap.size from Nat.le_of_lt (row_lt HR6.out))
        obtain ⟨y, hyy⟩ : ∃ y, y = d.take k ++ x := ⟨_, rfl⟩
        have HY := Lib.hid hyy
        clear hyy
        go_upto_region 14 with (at_builtin; refine wpList_app rfl (.tmp 105) (.tmp 107) rfl rfl HO6.out rfl HN.out HL6.out (by rw [← HTK.out]; have := HK.out; have := HDL.out; have := HN.out; omega) HB6.out.size ?_
                                intro v7 w7 ho7 hb7 hg7
                                rw [← HY.out] at ho7
                                obtain ⟨A7, c7, hv7, -⟩ := ho7.form
                                subst hv7
                                have hb7' := HB6.out.trans hb7
                                have hr7 := (hb7'.block _ (row_lt HRX.out)).trans HRX.out
                                have hy7 := (hb7'.block _ (row_lt HYX.out)).trans HYX.out
                                have HK7 := Lib.hid (HKX.out.trans (Kept.of_below hb7'))
                                have HO7 := Lib.hid ho7
                                have HR7 := Lib.hid hr7
                                have HY7 := Lib.hid hy7
                                clear ho7 hb7 hg7 hb7' hr7 hy7)
        obtain ⟨u0, u1, u2⟩ := rjcells HR7.out
        obtain ⟨s0, s1, s2, s3, s4⟩ := rcells HY7.out
        have f7 : ∀ q, w7.frozen? ⟨r, q, none⟩ = false := fun q => frozen_of_row w7 _ q _ _ HR7.out
        have HYB := Lib.hid (show w.heap.size ≤ wy.heap.size from HKX.out.size)
        have HZE := Lib.hid (rj_zero (v := .slice A7 y.length c7) HJ1.out.1 HJ1.out.2.1 HR7.out HK7.out)
        have HZL := Lib.hid (lies_set3 (v := .slice A7 y.length c7) (u := .slice none 0 0) HO7.out (show r < wy.heap.size from row_lt HRX.out))
        have HZS := Lib.hid (rj_set HJ1.out.1 HJ1.out.2.1 HYB.out HR7.out HK7.out HO7.out)
        clear x0 x1 x2 y0 y1 y2 y3 y4 z0 z1 z3 z4 y6 x6 ya xa hs1
        cases last
        · have HOY := Lib.hid (HO.out.trans (by rw [show laidD d k false x = y from (if_neg (fun h => by have := HL.out; have := HN.out; omega)).trans HY.out.symm] : _ = (if 32768 < y.length then (⟨⟨0, 0, []⟩, 0, [], false, 7⟩ : AddO) else if false = true then ⟨⟨0, 0, []⟩, y.length, y, true, 0⟩ else ⟨⟨i, t, y⟩, y.length, [], false, 0⟩)))
          by_cases hlg : 32768 < y.length
          · have hlgi : (32768 : Int) < (y.length : Int) := by omega
            have HFIN := Lib.hid (show RAddPost r B o w (.returned (.tuple #[.int .i64 0, .slice none 0 0, .bool false, .int .i64 7])) ((((w7.setCell ⟨r, 2, none⟩ (.slice A7 y.length c7)).setCell ⟨r, 0, none⟩ (.int .u64 0)).setCell ⟨r, 1, none⟩ (.int .u64 0)).setCell ⟨r, 2, none⟩ (.slice none 0 0)) from by
              rw [HOY.out, if_pos hlg]; exact ⟨none, 0, rfl, Lies.empty _ _ _, HZE.out.1, HZE.out.2⟩)
            clear hlg
            go_wp2
            refine bodyPost_ret (results_tmp4 rfl _ _ _) rfl ?_
            exact HFIN.out
          · have hlgi : ¬ ((32768 : Int) < (y.length : Int)) := by omega
            have HFIN := Lib.hid (show RAddPost r B o w (.returned (.tuple #[.int .i64 (y.length : Nat), .slice none 0 0, .bool false, .int .i64 0])) (w7.setCell ⟨r, 2, none⟩ (.slice A7 y.length c7)) from by
              rw [HOY.out, if_neg hlg, if_neg Bool.false_ne_true]; exact ⟨none, 0, rfl, Lies.empty _ _ _, HZS.out.1, HZS.out.2⟩)
            clear hlg
            go_wp2
            refine bodyPost_ret (results_tmp4 rfl _ _ _) rfl ?_
            exact HFIN.out
        · have HOY := Lib.hid (HO.out.trans (by rw [show laidD d k true x = y from (if_neg (fun h => by have := HL.out; have := HN.out; omega)).trans HY.out.symm] : _ = (if 32768 < y.length then (⟨⟨0, 0, []⟩, 0, [], false, 7⟩ : AddO) else if true = true then ⟨⟨0, 0, []⟩, y.length, y, true, 0⟩ else ⟨⟨i, t, y⟩, y.length, [], false, 0⟩)))
          by_cases hlg : 32768 < y.length
          · have hlgi : (32768 : Int) < (y.length : Int) := by omega
            have HFIN := Lib.hid (show RAddPost r B o w (.returned (.tuple #[.int .i64 0, .slice none 0 0, .bool false, .int .i64 7])) ((((w7.setCell ⟨r, 2, none⟩ (.slice A7 y.length c7)).setCell ⟨r, 0, none⟩ (.int .u64 0)).setCell ⟨r, 1, none⟩ (.int .u64 0)).setCell ⟨r, 2, none⟩ (.slice none 0 0)) from by
              rw [HOY.out, if_pos hlg]; exact ⟨none, 0, rfl, Lies.empty _ _ _, HZE.out.1, HZE.out.2⟩)
            clear hlg
            go_wp2
            refine bodyPost_ret (results_tmp4 rfl _ _ _) rfl ?_
            exact HFIN.out
          · have hlgi : ¬ ((32768 : Int) < (y.length : Int)) := by omega
            have HFIN := Lib.hid (show RAddPost r B o w (.returned (.tuple #[.int .i64 (y.length : Nat), .slice A7 y.length c7, .bool true, .int .i64 0])) ((((w7.setCell ⟨r, 2, none⟩ (.slice A7 y.length c7)).setCell ⟨r, 0, none⟩ (.int .u64 0)).setCell ⟨r, 1, none⟩ (.int .u64 0)).setCell ⟨r, 2, none⟩ (.slice none 0 0)) from by
              rw [HOY.out, if_neg hlg, if_pos rfl]; exact ⟨A7, c7, rfl, HZL.out, HZE.out.1, HZE.out.2⟩)
            clear hlg
            go_wp2
            refine bodyPost_ret (results_tmp4 rfl _ _ _) rfl ?_
            exact HFIN.out
end Go.Proofs.Ytjafgkehkigclaa.Sn
