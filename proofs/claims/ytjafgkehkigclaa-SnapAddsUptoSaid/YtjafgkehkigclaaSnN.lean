/- SnapAdds' walk. -/
import Derived.Test.YtjafgkehkigclaaSnM
import Derived.Test.YtjafgkehkigclaaSnJ
namespace Go.Proofs.Ytjafgkehkigclaa.Sn
open Go.RowKit By

/-- Bytes are not in a block whose cells are no bytes. -/
theorem lies_kept_row {w w' : World} {r B : Nat} {A : Option Addr} {l : Bs} {i t : Int} {v : Value} {a : Option Addr} {n c : Nat} (hv : v = .slice a n c) (hA : Lies w B A l) (hk : Kept (fun b => b = r) w w') (hB : B ≤ w.heap.size) (hr : w.heap[r]? = some (.cells #[.int .u64 i, .int .u64 t, v] tRJ (0, 0))) : Lies w' B A l := fun hn => by
  obtain ⟨g, o, e, hg, hc⟩ := hA hn
  refine ⟨g, o, e, hg, fun j x hx => ?_⟩
  have h1 := hc j x hx
  by_cases hgr : g = r
  · subst hgr
    exfalso
    rw [cell_of_row w g (o + j) _ _ _ hr] at h1
    subst hv
    rcases hoj : o + j with _ | _ | _ | q
    · rw [hoj] at h1; simp [bv] at h1
    · rw [hoj] at h1; simp [bv] at h1
    · rw [hoj] at h1; simp [bv] at h1
    · rw [hoj] at h1; simp at h1
  · exact (World.cell?_of_block (hk.block g (Nat.lt_of_lt_of_le hg hB) hgr)).trans h1
set_option maxRecDepth 100000 in
set_option maxHeartbeats 6400000 in
theorem snapAdds_any (A : Option Addr) (c : Nat) (l : List P7) (w : World) (hl : LiesP w w.heap.size A l) (hok : PcsOk l) (hm : l.length ≤ 1048576) :
    Calls Try.prog 4 #[.slice A l.length c] w (True_ w) := by
  have HL := Lib.hid hl
  have HOK := Lib.hid hok
  have q1 := ptrTest
  obtain ⟨N, hN⟩ : ∃ N, N = l.length := ⟨_, rfl⟩
  have HN := Lib.hid hN
  have hNi : (N : Int) ≤ 1048576 := by omega
  rw [← hN]
  clear hl hok hm hN
  go_enter Try.func4, Try.ntmps4
  go_wp2_with fail
  refine (new_any w).mono ?_
  rintro e w1 ⟨rfl, hj1, hb1, hz1⟩
  obtain ⟨w2, hw2⟩ : ∃ w2, w2 = w1.alloc (.cells #[.int .u64 0, .int .u64 0, .slice none 0 0] tRJ) := ⟨_, rfl⟩
  obtain ⟨g, hg⟩ : ∃ g, g = w.heap.size := ⟨_, rfl⟩
  obtain ⟨r, hr⟩ : ∃ r, r = w1.heap.size := ⟨_, rfl⟩
  have hb2 : Below w.heap.size w w2 := by rw [hw2]; exact nAlloc hb1 (Nat.le_refl _) _
  have hj2 : JAt w2 w.heap.size ⟨0, 0, []⟩ := by rw [hw2]; exact hj1.keep (heap_alloc_old w1 _ hj1.lt)
  have hr2 : RJAt w2 r (r + 1) ⟨0, 0, []⟩ := ⟨Nat.lt_succ_self _, by rw [hw2, hr, World.size_alloc]; exact Nat.le_refl _, .slice none 0 0, by rw [hw2, hr]; exact heap_alloc_new w1 _, Own.nil _ _⟩
  rw [← hg] at hj2 hz1 ⊢
  have HB2 := Lib.hid hb2
  have HJ2 := Lib.hid hj2
  have HR2 := Lib.hid hr2
  have HG := Lib.hid (show w.heap.size ≤ g from Nat.le_of_eq hg.symm)
  have HGR := Lib.hid (show g < r by rw [hr]; exact hz1)
  have HW2 := Lib.hid hw2
  have HR := Lib.hid hr
  clear hw2 hg hr hb1 hj1 hz1 hb2 hj2 hr2
  go_upto_region 3 with fail
  rw [← HW2.out, ← HR.out]
  clear HW2 HR
  go_wp2_with fail
  refine (answers_any w2).mono ?_
  rintro e w3 ⟨rfl, hb3⟩
  have HB3 := Lib.hid (By.ext HB2.out hb3)
  have HJ3 := Lib.hid (HJ2.out.below hb3)
  have HR3 := Lib.hid (HR2.out.below hb3)
  clear hb3
  go_wp2
  go_loopw [5] (fun a wr => ∃ (s : Nat) (j : J7), s ≤ N ∧ a = .int .i64 (s : Int) ∧ JAt wr g j ∧ RJAt wr r (r + 1) j ∧ j.d.length ≤ 32768 ∧ Below w.heap.size w wr) (fun a _ => N - (intOf a).toNat)
  case atStart => exact ⟨0, ⟨0, 0, []⟩, Nat.zero_le _, rfl, HJ3.out, HR3.out, Nat.zero_le _, HB3.out⟩
  case round =>
    obtain ⟨s, j, hs, rfl, hj, hrj, hjl, hb⟩ := hrel
    have HJ := Lib.hid hj
    have HRJ := Lib.hid hrj
    have HJL := Lib.hid hjl
    have HB := Lib.hid hb
    clear hj hrj hjl hb
    by_cases hlt : s < N ∧ s < 200
    · obtain ⟨h1, h2⟩ := hlt
      have h1i : (s : Int) < (N : Int) := by omega
      have h2i : (s : Int) < 200 := by omega
      obtain ⟨tg, tq, Ax, cx, hAe, htg, x0, x1, x2, x3, x4, hlx⟩ := HL.out.at_ (Below.refl _ _) (k := s) (by rw [← HN.out]; exact h1)
      obtain ⟨p, hp⟩ : ∃ p, p = l[s]'(by rw [← HN.out]; exact h1) := ⟨_, rfl⟩
      rw [← hp] at x0 x1 x2 x3 x4 hlx
      have hpd : p.d.length ≤ 1048576 := by rw [hp]; exact (HOK.out _ (List.getElem_mem _)).d
      subst hAe
      have HPD := Lib.hid hpd
      have HLX := Lib.hid hlx
      have HCELL := Lib.hid (fun (w' : World) (hb : Below w.heap.size w w') => (show w'.cell? ⟨tg, tq + s * 5, none⟩ = some (.int .u64 (p.i : Nat)) ∧ w'.cell? ⟨tg, tq + s * 5 + 1, none⟩ = some (.int .u64 (p.t : Nat)) ∧ w'.cell? ⟨tg, tq + s * 5 + 2, none⟩ = some (.int .i64 p.o) ∧ w'.cell? ⟨tg, tq + s * 5 + 3, none⟩ = some (.bool p.last) ∧ w'.cell? ⟨tg, tq + s * 5 + 4, none⟩ = some (.slice Ax p.d.length cx) from
        ⟨(hb.cell (show _ < _ from htg)).trans x0, (hb.cell (show _ < _ from htg)).trans x1, (hb.cell (show _ < _ from htg)).trans x2, (hb.cell (show _ < _ from htg)).trans x3, (hb.cell (show _ < _ from htg)).trans x4⟩))
      have HPC := Lib.hid (piece_any p.i p.t p.d.length cx p.o p.last p.d Ax wr rfl (by omega) ((hlx.below HB.out).more HB.out.size))
      obtain ⟨pi, pt, po, pl, pd⟩ := p
      dsimp only at HPD HLX HCELL HPC
      clear h1 h2 hlx hp hpd x0 x1 x2 x3 x4 htg
      obtain ⟨x0, x1, x2, x3, x4⟩ := HCELL.out _ HB.out
      go_upto_region 8 with fail
      go_wp2_with fail
      refine HPC.out.mono ?_
      rintro e w4 ⟨A4, c4, rfl, ho4, hb4⟩
      dsimp only [pC] at ho4 ⊢
      have HB4 := Lib.hid (By.ext HB.out hb4)
      have HJ4 := Lib.hid (HJ.out.below hb4)
      have HRJ4 := Lib.hid (HRJ.out.below hb4)
      have HL4 := Lib.hid (own_lies ho4)
      clear ho4 hb4 x0 x1 x2 x3 x4 HPC
      obtain ⟨R, hR⟩ : ∃ R, R = addR j ⟨pi, pt, po, pl, pd⟩ := ⟨_, rfl⟩
      have HADD := Lib.hid (show Calls Try.prog 12 #[.pointer (some ⟨g, 0, none⟩), .agg #[.int .u64 (pi : Nat), .int .u64 (pt : Nat), .int .i64 po, .bool pl, .slice A4 pd.length c4]] w4 (AddPost g R w4) by
        rw [hR]; exact add_any g j ⟨pi, pt, po, pl, pd⟩ A4 c4 w4 HJ4.out HJL.out HL4.out)
      have HRADD := Lib.hid (fun (wq : World) (hq : RJAt wq r (r + 1) j) (hb : Below w.heap.size w wq) => (show Calls Try.prog 14 #[.pointer (some ⟨r, 0, none⟩), .agg #[.int .u64 (pi : Nat), .int .u64 (pt : Nat), .int .i64 po, .bool pl, .slice Ax pd.length cx]] wq (RAddPost r (r + 1) R wq) by
        rw [hR]; exact radd_any r (r + 1) j ⟨pi, pt, po, pl, pd⟩ Ax cx wq hq HJL.out ((HLX.out.below hb).more (by have := HG.out; have := HGR.out; omega))))
      have HRL := Lib.hid (show R.j.d.length ≤ 32768 by rw [hR]; exact addR_len j _ HJL.out)
      clear hR
      obtain ⟨j', nn, wh, dn, er⟩ := R
      dsimp only at HRL
      go_wp2_with fail
      refine HADD.out.mono ?_
      rintro e w5 ⟨A5, c5, rfl, hl5, hj5, hk5⟩
      dsimp only at hl5 hj5 ⊢
      have HB5 := Lib.hid (HB4.out.trans (hk5.below HB4.out.size (fun b hb => by rw [hb]; exact HG.out)))
      have HJ5 := Lib.hid hj5
      have HL5 := Lib.hid hl5
      have HRJ5 := Lib.hid (HRJ4.out.kept hk5 (fun e => by have := HGR.out; have e : r = g := e; omega) (fun b hb _ e => by have := HGR.out; have e : b = g := e; omega))
      clear hl5 hj5 hk5 HADD
      obtain ⟨x0, x1, x2, x3, x4⟩ := HCELL.out _ HB5.out
      go_upto_region 9 with fail
      go_wp2_with fail
      refine (HRADD.out w5 HRJ5.out HB5.out).mono ?_
      rintro e w6 ⟨A6, c6, rfl, hl6, hj6, hk6⟩
      dsimp only at hl6 hj6 ⊢
      have HB6 := Lib.hid (HB5.out.trans (hk6.below HB5.out.size (fun b hb => by rw [hb]; have := HG.out; have := HGR.out; omega)))
      have HJ6 := Lib.hid (HJ5.out.keep (hk6.block g HJ5.out.lt (fun e => by have := HGR.out; have e : g = r := e; omega)))
      have HRJ6 := Lib.hid hj6
      have HL6 := Lib.hid hl6
      have HM6 := Lib.hid (show Lies w6 w6.heap.size A5 wh by
        obtain ⟨-, -, v, hv1, hv2⟩ := HRJ5.out
        obtain ⟨a', c', hv3, -⟩ := hv2.form
        exact (lies_kept_row hv3 HL5.out hk6 (Nat.le_refl _) hv1).more hk6.size)
      clear hl6 hj6 hk6 HRADD x0 x1 x2 x3 x4
      go_upto_region 10 with fail
      go_wp2_with fail
      refine (have_any g j' w6 HJ6.out).mono ?_
      rintro e w7 ⟨rfl, hb7⟩
      have HB7 := Lib.hid (By.ext HB6.out hb7)
      have HJ7 := Lib.hid (HJ6.out.below hb7)
      have HRJ7 := Lib.hid (HRJ6.out.below hb7)
      have t1 := run_text w7 c5 rfl (lext HM6.out hb7)
      have t2 := run_text w7 c6 rfl (lext HL6.out hb7)
      have hq := strEq wh
      clear hb7
      obtain ⟨-, -, v, hv1, hv2⟩ := HRJ7.out
      obtain ⟨a', c', hv3, -⟩ := hv2.form
      subst hv3
      obtain ⟨y0, y1, y2⟩ := rjcells hv1
      clear hv1 hv2
      go_wp2
      go_roundw
      case rel => exact ⟨s + 1, j', by omega, by go_num, HJ7.out, HRJ7.out, HRL.out, HB7.out⟩
      case measure => simp [intOf]; omega
    · by_cases h1 : s < N
      · have h1i : (s : Int) < (N : Int) := by omega
        have h2i : ¬ ((s : Int) < 200) := by omega
        clear hlt h1
        go_wp2
        go_ret
        exact ⟨rfl, HB.out⟩
      · have h1i : ¬ ((s : Int) < (N : Int)) := by omega
        clear hlt h1
        go_wp2
        go_ret
        exact ⟨rfl, HB.out⟩
end Go.Proofs.Ytjafgkehkigclaa.Sn
