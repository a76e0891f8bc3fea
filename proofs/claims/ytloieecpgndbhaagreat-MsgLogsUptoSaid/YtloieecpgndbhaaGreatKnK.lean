/- The law MsgLogs, walked: whatever comes in, not too much. Written by genlaw5.py. -/
import Derived.Test.YtloieecpgndbhaaGreatGR
import Derived.Test.YtloieecpgndbhaaGreatKnE
import Derived.Test.YtloieecpgndbhaaGreatGS
import Derived.Test.YtloieecpgndbhaaGreatGN


import Derived.Deep.RegionHeld
namespace Go.Proofs.YtloieecpgndbhaaGreat.Kd
open Go.RowKit By CoP Co Mo

/-- fits over what the package gave, and the bytes that the reference gave. -/
theorem fitsK_any {k : Kd} {d : Data} {w0 w1 : World} {v : Value} {er : Int} (hw : Writes k d w0 (.returned (.tuple #[v, .int .i64 er])) w1) {w : World} (hb : Below w1.heap.size w1 w) (A2 : Option Addr) (n2 c2 : Nat) (hn2 : n2 = (k.put d).length) (hr2 : Lies w w.heap.size A2 (k.put d)) :
    Calls Tryz.prog 19 #[v, .int .i64 er, .bool (k.sound d), .slice A2 n2 c2] w (fun e w' => e = .returned (.bool true) ∧ w' = w) := by
  rcases hw with ⟨_, ⟨hs, v', he, ho⟩ | ⟨hs, he⟩⟩
  · obtain ⟨A, c, rfl, _, _, _, hr, _⟩ := ho.form
    rw [hs]
    simp only [Ending.returned.injEq, Value.tuple.injEq, Array.mk.injEq, List.cons.injEq, Value.int.injEq, true_and, and_true] at he
    obtain ⟨rfl, rfl⟩ := he
    exact fits_yes A _ c A2 n2 c2 _ rfl hn2 w (lext hr hb) hr2
  · rw [hs]
    simp only [Ending.returned.injEq, Value.tuple.injEq, Array.mk.injEq, List.cons.injEq, Value.int.injEq, true_and, and_true] at he
    obtain ⟨rfl, rfl⟩ := he
    exact fits_no _ w
/-- One item as a list. -/
theorem list_one {k : Kd} (hk : k.Ok) {w : World} {xs : List Value} {d : Data} {ty : TypeId} (h : k.rep w (Old w) xs d) (most : Int) : (listK k most).rep (w.alloc (.cells xs.toArray ty)) (Old (w.alloc (.cells xs.toArray ty))) [.slice (some ⟨w.heap.size, 0, none⟩) 1 1] (.agg [d]) := by
  have hb : Below w.heap.size w (w.alloc (.cells xs.toArray ty)) := (Below.refl _ _).alloc (Nat.le_refl _) _
  refine ⟨_, 1, [d], rfl, rfl, Nat.le_refl _, by simp, fun _ => ⟨w.heap.size, 0, rfl, by show w.heap.size < _; rw [World.size_alloc]; exact Nat.lt_succ_self _, fun j d' hd => ?_⟩⟩
  have hj : j = 0 := by
    have := (List.getElem?_eq_some_iff.1 hd).1
    simpa using this
  subst hj
  have hd2 : d = d' := by simpa using hd
  subst hd2
  refine ⟨xs, hk.below h hb, fun i v hv => ?_⟩
  have := Rd.row (heap_alloc_new w (.cells xs.toArray ty)) i v hv
  rwa [show 0 + 0 * k.size + i = 0 + i by omega]
theorem one_of {k : Kd} {w : World} {S : Nat → Prop} {v : Value} {d : Data} {most : Int} (h : (listK k most).rep w S [v] (.agg [d])) : ∃ g o c xs, v = .slice (some ⟨g, o, none⟩) 1 c ∧ 1 ≤ c ∧ k.rep w S xs d ∧ Rd w g o xs := by
  obtain ⟨A, c, ds, e1, e2, hc, _, hl⟩ := h
  obtain rfl := Data.agg.inj e2
  obtain ⟨g, o, rfl, _, h1⟩ := hl (by simp)
  obtain ⟨xs, h2, h3⟩ := h1 0 d rfl
  refine ⟨g, o, c, xs, by simpa using e1, hc, h2, fun i v hv => ?_⟩
  have := h3 i v hv
  rwa [show o + 0 * k.size + i = o + i by omega] at this
set_option maxRecDepth 100000 in
set_option maxHeartbeats 4000000 in
theorem msgLogs_walk (w : World) (m0 m1 m2 m3 m4 : Value) (d1 : Data) (r1 : entryK.rep w (Old w) [m0, m1, m2, m3, m4] d1) (s1 : (entryK.put d1).length ≤ 9437184) (n0 n1 : Value) (d2 : Data) (r2 : confK.rep w (Old w) [n0, n1] d2) (s2 : (confK.put d2).length ≤ 9437184) (x0 x1 x2 x3 x4 : Value) (d3 : Data) (r3 : shotK.rep w (Old w) [x0, x1, x2, x3, x4] d3) (s3 : (shotK.put d3).length ≤ 9437184) (y0 y1 : Value) (d4 : Data) (r4 : hardK.rep w (Old w) [y0, y1] d4) (s4 : (hardK.put d4).length ≤ 9437184) :
    Calls Tryz.prog 3 #[.agg #[m0, m1, m2, m3, m4], .agg #[n0, n1], .agg #[x0, x1, x2, x3, x4], .agg #[y0, y1]] w (True_ w) := by
  have hrow1 : ((((w.alloc (.cells #[m0, m1, m2, m3, m4] 25)).alloc (.cells #[n0, n1] 28)).alloc (.cells #[x0, x1, x2, x3, x4] 30)).alloc (.cells #[y0, y1] 32)).heap[w.heap.size]? = some (.cells #[m0, m1, m2, m3, m4] 25 (0, 0)) := by
    have h := ((heap_alloc_old (((w.alloc (.cells #[m0, m1, m2, m3, m4] 25)).alloc (.cells #[n0, n1] 28)).alloc (.cells #[x0, x1, x2, x3, x4] 30)) (.cells #[y0, y1] 32) (by simp only [World.size_alloc]; omega)).trans ((heap_alloc_old ((w.alloc (.cells #[m0, m1, m2, m3, m4] 25)).alloc (.cells #[n0, n1] 28)) (.cells #[x0, x1, x2, x3, x4] 30) (by simp only [World.size_alloc]; omega)).trans ((heap_alloc_old (w.alloc (.cells #[m0, m1, m2, m3, m4] 25)) (.cells #[n0, n1] 28) (by simp only [World.size_alloc]; omega)).trans (heap_alloc_new w (.cells #[m0, m1, m2, m3, m4] 25)))))
    simpa only [World.size_alloc] using h
  have hrow2 : ((((w.alloc (.cells #[m0, m1, m2, m3, m4] 25)).alloc (.cells #[n0, n1] 28)).alloc (.cells #[x0, x1, x2, x3, x4] 30)).alloc (.cells #[y0, y1] 32)).heap[(w.heap.size + 1)]? = some (.cells #[n0, n1] 28 (0, 0)) := by
    have h := ((heap_alloc_old (((w.alloc (.cells #[m0, m1, m2, m3, m4] 25)).alloc (.cells #[n0, n1] 28)).alloc (.cells #[x0, x1, x2, x3, x4] 30)) (.cells #[y0, y1] 32) (by simp only [World.size_alloc]; omega)).trans ((heap_alloc_old ((w.alloc (.cells #[m0, m1, m2, m3, m4] 25)).alloc (.cells #[n0, n1] 28)) (.cells #[x0, x1, x2, x3, x4] 30) (by simp only [World.size_alloc]; omega)).trans (heap_alloc_new (w.alloc (.cells #[m0, m1, m2, m3, m4] 25)) (.cells #[n0, n1] 28))))
    simpa only [World.size_alloc] using h
  have hrow3 : ((((w.alloc (.cells #[m0, m1, m2, m3, m4] 25)).alloc (.cells #[n0, n1] 28)).alloc (.cells #[x0, x1, x2, x3, x4] 30)).alloc (.cells #[y0, y1] 32)).heap[(w.heap.size + 1 + 1)]? = some (.cells #[x0, x1, x2, x3, x4] 30 (0, 0)) := by
    have h := ((heap_alloc_old (((w.alloc (.cells #[m0, m1, m2, m3, m4] 25)).alloc (.cells #[n0, n1] 28)).alloc (.cells #[x0, x1, x2, x3, x4] 30)) (.cells #[y0, y1] 32) (by simp only [World.size_alloc]; omega)).trans (heap_alloc_new ((w.alloc (.cells #[m0, m1, m2, m3, m4] 25)).alloc (.cells #[n0, n1] 28)) (.cells #[x0, x1, x2, x3, x4] 30)))
    simpa only [World.size_alloc] using h
  have hrow4 : ((((w.alloc (.cells #[m0, m1, m2, m3, m4] 25)).alloc (.cells #[n0, n1] 28)).alloc (.cells #[x0, x1, x2, x3, x4] 30)).alloc (.cells #[y0, y1] 32)).heap[(w.heap.size + 1 + 1 + 1)]? = some (.cells #[y0, y1] 32 (0, 0)) := by
    have h := (heap_alloc_new (((w.alloc (.cells #[m0, m1, m2, m3, m4] 25)).alloc (.cells #[n0, n1] 28)).alloc (.cells #[x0, x1, x2, x3, x4] 30)) (.cells #[y0, y1] 32))
    simpa only [World.size_alloc] using h
  have hb0 : Below w.heap.size w ((((w.alloc (.cells #[m0, m1, m2, m3, m4] 25)).alloc (.cells #[n0, n1] 28)).alloc (.cells #[x0, x1, x2, x3, x4] 30)).alloc (.cells #[y0, y1] 32)) := ((((Below.refl _ _).alloc (Nat.le_refl _) _).alloc (by simp only [World.size_alloc]; omega) _).alloc (by simp only [World.size_alloc]; omega) _).alloc (by simp only [World.size_alloc]; omega) _
  obtain ⟨W, hW⟩ : ∃ W, W = ((((w.alloc (.cells #[m0, m1, m2, m3, m4] 25)).alloc (.cells #[n0, n1] 28)).alloc (.cells #[x0, x1, x2, x3, x4] 30)).alloc (.cells #[y0, y1] 32)) := ⟨_, rfl⟩
  rw [← hW] at hrow1 hrow2 hrow3 hrow4 hb0
  have HR1 := Lib.hid (entryK_ok.below r1 hb0)
  have HS1 := Lib.hid s1
  have HW1 := Lib.hid hrow1
  have HR2 := Lib.hid (confK_ok.below r2 hb0)
  have HS2 := Lib.hid s2
  have HW2 := Lib.hid hrow2
  have HR3 := Lib.hid (shotK_ok.below r3 hb0)
  have HS3 := Lib.hid s3
  have HW3 := Lib.hid hrow3
  have HR4 := Lib.hid (hardK_ok.below r4 hb0)
  have HS4 := Lib.hid s4
  have HW4 := Lib.hid hrow4
  have HB := Lib.hid hb0
  clear hb0 hrow1 r1 s1 hrow2 r2 s2 hrow3 r3 s3 hrow4 r4 s4
  rw [hW] at HW1
  have hm0 : ((((w.alloc (.cells #[m0, m1, m2, m3, m4] 25)).alloc (.cells #[n0, n1] 28)).alloc (.cells #[x0, x1, x2, x3, x4] 30)).alloc (.cells #[y0, y1] 32)).cell? ⟨w.heap.size, 0, none⟩ = some m0 := by rw [cell_of_row _ w.heap.size 0 _ _ _ HW1.out]; rfl
  have hm1 : ((((w.alloc (.cells #[m0, m1, m2, m3, m4] 25)).alloc (.cells #[n0, n1] 28)).alloc (.cells #[x0, x1, x2, x3, x4] 30)).alloc (.cells #[y0, y1] 32)).cell? ⟨w.heap.size, 1, none⟩ = some m1 := by rw [cell_of_row _ w.heap.size 1 _ _ _ HW1.out]; rfl
  have hm2 : ((((w.alloc (.cells #[m0, m1, m2, m3, m4] 25)).alloc (.cells #[n0, n1] 28)).alloc (.cells #[x0, x1, x2, x3, x4] 30)).alloc (.cells #[y0, y1] 32)).cell? ⟨w.heap.size, 2, none⟩ = some m2 := by rw [cell_of_row _ w.heap.size 2 _ _ _ HW1.out]; rfl
  have hm3 : ((((w.alloc (.cells #[m0, m1, m2, m3, m4] 25)).alloc (.cells #[n0, n1] 28)).alloc (.cells #[x0, x1, x2, x3, x4] 30)).alloc (.cells #[y0, y1] 32)).cell? ⟨w.heap.size, 3, none⟩ = some m3 := by rw [cell_of_row _ w.heap.size 3 _ _ _ HW1.out]; rfl
  have hm4 : ((((w.alloc (.cells #[m0, m1, m2, m3, m4] 25)).alloc (.cells #[n0, n1] 28)).alloc (.cells #[x0, x1, x2, x3, x4] 30)).alloc (.cells #[y0, y1] 32)).cell? ⟨w.heap.size, 4, none⟩ = some m4 := by rw [cell_of_row _ w.heap.size 4 _ _ _ HW1.out]; rfl
  rw [← hW] at HW1
  go_enter Tryz.func3, Tryz.ntmps3
  go_wp2_with fail
  rw [← hW]
  have hzW : w.heap.size + 1 + 1 + 1 + 1 = W.heap.size := by rw [hW]; simp only [World.size_alloc]
  clear hW hm0 hm1 hm2 hm3 hm4
  have hbA : Below W.heap.size W (W.alloc (.cells #[m0, m1, m2, m3, m4] 25)) := (Below.refl _ _).alloc (Nat.le_refl _) _
  have hlo := list_one (ty := 25) entryK_ok HR1.out 8
  rw [← hzW] at hlo
  refine (ownEntries_any (most := 8) _ hlo (by omega)).mono ?_
  clear hlo hzW
  rintro e u1 ⟨ve, rfl, hlr, hbu⟩
  have hbu1 := ext hbA hbu
  obtain ⟨ge, oe, ce, xe, rfl, hce, hre, hrde⟩ := one_of hlr
  have hreo := entryK_ok.keep hre (S' := Old u1) (fun _ _ => rfl) (fun b hb => hb.2)
  have HRE := Lib.hid hreo
  obtain ⟨ix, tm, kd, dl, Ae, qe, da, rfl, -⟩ := entry_shape hreo
  have k0 : u1.cell? ⟨ge, oe, none⟩ = some (.int .u64 (ix : Int)) := hrde 0 _ rfl
  have k1 : u1.cell? ⟨ge, oe + 1, none⟩ = some (.int .u64 (tm : Int)) := hrde 1 _ rfl
  have k2 : u1.cell? ⟨ge, oe + 2, none⟩ = some (.int .i64 kd) := hrde 2 _ rfl
  have k3 : u1.cell? ⟨ge, oe + 3, none⟩ = some (.int .i64 dl) := hrde 3 _ rfl
  have k4 : u1.cell? ⟨ge, oe + 4, none⟩ = some (.slice Ae da.length qe) := hrde 4 _ rfl
  have HR1 := Lib.hid (entryK_ok.below HR1.out hbu1)
  have HW1 := Lib.hid ((hbu1.block _ (row_lt HW1.out)).trans HW1.out)
  have HR2 := Lib.hid (confK_ok.below HR2.out hbu1)
  have HW2 := Lib.hid ((hbu1.block _ (row_lt HW2.out)).trans HW2.out)
  have HR3 := Lib.hid (shotK_ok.below HR3.out hbu1)
  have HW3 := Lib.hid ((hbu1.block _ (row_lt HW3.out)).trans HW3.out)
  have HR4 := Lib.hid (hardK_ok.below HR4.out hbu1)
  have HW4 := Lib.hid ((hbu1.block _ (row_lt HW4.out)).trans HW4.out)
  have HB := Lib.hid (ext HB.out hbu1)
  clear hbu1 hbu hbA hlr hre hreo hrde
  go_wp2_with fail
  refine (msgEntry_any (d := d1) _ rfl HRE.out (fun _ => by have := HS1.out; omega)).mono ?_
  rintro e w1 hw
  clear k0 k1 k2 k3 k4
  have hb1 := hw.1
  obtain ⟨v1, e1, rfl, hw1⟩ := Writes.tell hw
  have HV1 := Lib.hid hw1
  have HR1 := Lib.hid (entryK_ok.below HR1.out hb1)
  have HW1 := Lib.hid ((hb1.block _ (row_lt HW1.out)).trans HW1.out)
  have HR2 := Lib.hid (confK_ok.below HR2.out hb1)
  have HW2 := Lib.hid ((hb1.block _ (row_lt HW2.out)).trans HW2.out)
  have HR3 := Lib.hid (shotK_ok.below HR3.out hb1)
  have HW3 := Lib.hid ((hb1.block _ (row_lt HW3.out)).trans HW3.out)
  have HR4 := Lib.hid (hardK_ok.below HR4.out hb1)
  have HW4 := Lib.hid ((hb1.block _ (row_lt HW4.out)).trans HW4.out)
  have HB := Lib.hid (ext HB.out hb1)
  have HN1 := Lib.hid (Below.refl w1.heap.size w1)
  clear hw hw1 hb1
  have hn0 : w1.cell? ⟨(w.heap.size + 1), 0, none⟩ = some n0 := by rw [cell_of_row _ (w.heap.size + 1) 0 _ _ _ HW2.out]; rfl
  have hn1 : w1.cell? ⟨(w.heap.size + 1), 1, none⟩ = some n1 := by rw [cell_of_row _ (w.heap.size + 1) 1 _ _ _ HW2.out]; rfl
  go_wp2_with fail
  refine (ownConf_any (d := d2) (xs := [n0, n1]) _ HR2.out HS2.out).mono ?_
  rintro e u2 ⟨vo, rfl, hre, hbu⟩
  have hreo := confK_ok.keep hre (S' := Old u2) (fun _ _ => rfl) (fun b hb => hb.2)
  have HRE := Lib.hid hreo
  have HR1 := Lib.hid (entryK_ok.below HR1.out hbu)
  have HW1 := Lib.hid ((hbu.block _ (row_lt HW1.out)).trans HW1.out)
  have HR2 := Lib.hid (confK_ok.below HR2.out hbu)
  have HW2 := Lib.hid ((hbu.block _ (row_lt HW2.out)).trans HW2.out)
  have HR3 := Lib.hid (shotK_ok.below HR3.out hbu)
  have HW3 := Lib.hid ((hbu.block _ (row_lt HW3.out)).trans HW3.out)
  have HR4 := Lib.hid (hardK_ok.below HR4.out hbu)
  have HW4 := Lib.hid ((hbu.block _ (row_lt HW4.out)).trans HW4.out)
  have HN1 := Lib.hid (ext HN1.out hbu)
  have HB := Lib.hid (ext HB.out hbu)
  have hvl := confK_ok.len hreo
  have HVL := Lib.hid hvl
  clear hbu hre hreo hvl hn0 hn1
  go_wp2_with fail
  refine (msgConf_any (xs := vo.toList) (d := d2) _ HVL.out HRE.out (fun _ => by have := HS2.out; omega)).mono ?_
  rintro e w2 hw
  have hb2 := hw.1
  obtain ⟨v2, e2, rfl, hw2⟩ := Writes.tell hw
  have HV2 := Lib.hid hw2
  have HR1 := Lib.hid (entryK_ok.below HR1.out hb2)
  have HW1 := Lib.hid ((hb2.block _ (row_lt HW1.out)).trans HW1.out)
  have HR2 := Lib.hid (confK_ok.below HR2.out hb2)
  have HW2 := Lib.hid ((hb2.block _ (row_lt HW2.out)).trans HW2.out)
  have HR3 := Lib.hid (shotK_ok.below HR3.out hb2)
  have HW3 := Lib.hid ((hb2.block _ (row_lt HW3.out)).trans HW3.out)
  have HR4 := Lib.hid (hardK_ok.below HR4.out hb2)
  have HW4 := Lib.hid ((hb2.block _ (row_lt HW4.out)).trans HW4.out)
  have HN1 := Lib.hid (ext HN1.out hb2)
  have HB := Lib.hid (ext HB.out hb2)
  have HN2 := Lib.hid (Below.refl w2.heap.size w2)
  clear hw hw2 hb2 HVL HRE
  have hx0 : w2.cell? ⟨(w.heap.size + 1 + 1), 0, none⟩ = some x0 := by rw [cell_of_row _ (w.heap.size + 1 + 1) 0 _ _ _ HW3.out]; rfl
  have hx1 : w2.cell? ⟨(w.heap.size + 1 + 1), 1, none⟩ = some x1 := by rw [cell_of_row _ (w.heap.size + 1 + 1) 1 _ _ _ HW3.out]; rfl
  have hx2 : w2.cell? ⟨(w.heap.size + 1 + 1), 2, none⟩ = some x2 := by rw [cell_of_row _ (w.heap.size + 1 + 1) 2 _ _ _ HW3.out]; rfl
  have hx3 : w2.cell? ⟨(w.heap.size + 1 + 1), 3, none⟩ = some x3 := by rw [cell_of_row _ (w.heap.size + 1 + 1) 3 _ _ _ HW3.out]; rfl
  have hx4 : w2.cell? ⟨(w.heap.size + 1 + 1), 4, none⟩ = some x4 := by rw [cell_of_row _ (w.heap.size + 1 + 1) 4 _ _ _ HW3.out]; rfl
  go_wp2_with fail
  refine (ownShot_any (d := d3) (xs := [x0, x1, x2, x3, x4]) _ HR3.out HS3.out).mono ?_
  rintro e u3 ⟨vo, rfl, hre, hbu⟩
  have hreo := shotK_ok.keep hre (S' := Old u3) (fun _ _ => rfl) (fun b hb => hb.2)
  have HRE := Lib.hid hreo
  have HR1 := Lib.hid (entryK_ok.below HR1.out hbu)
  have HW1 := Lib.hid ((hbu.block _ (row_lt HW1.out)).trans HW1.out)
  have HR2 := Lib.hid (confK_ok.below HR2.out hbu)
  have HW2 := Lib.hid ((hbu.block _ (row_lt HW2.out)).trans HW2.out)
  have HR3 := Lib.hid (shotK_ok.below HR3.out hbu)
  have HW3 := Lib.hid ((hbu.block _ (row_lt HW3.out)).trans HW3.out)
  have HR4 := Lib.hid (hardK_ok.below HR4.out hbu)
  have HW4 := Lib.hid ((hbu.block _ (row_lt HW4.out)).trans HW4.out)
  have HN1 := Lib.hid (ext HN1.out hbu)
  have HN2 := Lib.hid (ext HN2.out hbu)
  have HB := Lib.hid (ext HB.out hbu)
  have hvl := shotK_ok.len hreo
  have HVL := Lib.hid hvl
  clear hbu hre hreo hvl hx0 hx1 hx2 hx3 hx4
  go_wp2_with fail
  refine (msgShot_any (xs := vo.toList) (d := d3) _ HVL.out HRE.out (fun _ => by have := HS3.out; omega)).mono ?_
  rintro e w3 hw
  have hb3 := hw.1
  obtain ⟨v3, e3, rfl, hw3⟩ := Writes.tell hw
  have HV3 := Lib.hid hw3
  have HR1 := Lib.hid (entryK_ok.below HR1.out hb3)
  have HW1 := Lib.hid ((hb3.block _ (row_lt HW1.out)).trans HW1.out)
  have HR2 := Lib.hid (confK_ok.below HR2.out hb3)
  have HW2 := Lib.hid ((hb3.block _ (row_lt HW2.out)).trans HW2.out)
  have HR3 := Lib.hid (shotK_ok.below HR3.out hb3)
  have HW3 := Lib.hid ((hb3.block _ (row_lt HW3.out)).trans HW3.out)
  have HR4 := Lib.hid (hardK_ok.below HR4.out hb3)
  have HW4 := Lib.hid ((hb3.block _ (row_lt HW4.out)).trans HW4.out)
  have HN1 := Lib.hid (ext HN1.out hb3)
  have HN2 := Lib.hid (ext HN2.out hb3)
  have HB := Lib.hid (ext HB.out hb3)
  have HN3 := Lib.hid (Below.refl w3.heap.size w3)
  clear hw hw3 hb3 HVL HRE
  have hy0 : w3.cell? ⟨(w.heap.size + 1 + 1 + 1), 0, none⟩ = some y0 := by rw [cell_of_row _ (w.heap.size + 1 + 1 + 1) 0 _ _ _ HW4.out]; rfl
  have hy1 : w3.cell? ⟨(w.heap.size + 1 + 1 + 1), 1, none⟩ = some y1 := by rw [cell_of_row _ (w.heap.size + 1 + 1 + 1) 1 _ _ _ HW4.out]; rfl
  go_wp2_with fail
  refine (msgHard_any (xs := [y0, y1]) (d := d4) _ rfl HR4.out (fun _ => by have := HS4.out; omega)).mono ?_
  rintro e w4 hw
  have hb4 := hw.1
  obtain ⟨v4, e4, rfl, hw4⟩ := Writes.tell hw
  have HV4 := Lib.hid hw4
  have HR1 := Lib.hid (entryK_ok.below HR1.out hb4)
  have HW1 := Lib.hid ((hb4.block _ (row_lt HW1.out)).trans HW1.out)
  have HR2 := Lib.hid (confK_ok.below HR2.out hb4)
  have HW2 := Lib.hid ((hb4.block _ (row_lt HW2.out)).trans HW2.out)
  have HR3 := Lib.hid (shotK_ok.below HR3.out hb4)
  have HW3 := Lib.hid ((hb4.block _ (row_lt HW3.out)).trans HW3.out)
  have HR4 := Lib.hid (hardK_ok.below HR4.out hb4)
  have HW4 := Lib.hid ((hb4.block _ (row_lt HW4.out)).trans HW4.out)
  have HN1 := Lib.hid (ext HN1.out hb4)
  have HN2 := Lib.hid (ext HN2.out hb4)
  have HN3 := Lib.hid (ext HN3.out hb4)
  have HB := Lib.hid (ext HB.out hb4)
  have HN4 := Lib.hid (Below.refl w4.heap.size w4)
  clear hw hw4 hb4 hy0 hy1
  have hm0 : ∀ w', Below w4.heap.size w4 w' → w'.cell? ⟨w.heap.size, 0, none⟩ = some m0 := fun w' h => by rw [cell_of_row w' w.heap.size 0 _ _ _ ((h.block _ (row_lt HW1.out)).trans HW1.out)]; rfl
  have hm1 : ∀ w', Below w4.heap.size w4 w' → w'.cell? ⟨w.heap.size, 1, none⟩ = some m1 := fun w' h => by rw [cell_of_row w' w.heap.size 1 _ _ _ ((h.block _ (row_lt HW1.out)).trans HW1.out)]; rfl
  have hm2 : ∀ w', Below w4.heap.size w4 w' → w'.cell? ⟨w.heap.size, 2, none⟩ = some m2 := fun w' h => by rw [cell_of_row w' w.heap.size 2 _ _ _ ((h.block _ (row_lt HW1.out)).trans HW1.out)]; rfl
  have hm3 : ∀ w', Below w4.heap.size w4 w' → w'.cell? ⟨w.heap.size, 3, none⟩ = some m3 := fun w' h => by rw [cell_of_row w' w.heap.size 3 _ _ _ ((h.block _ (row_lt HW1.out)).trans HW1.out)]; rfl
  have hm4 : ∀ w', Below w4.heap.size w4 w' → w'.cell? ⟨w.heap.size, 4, none⟩ = some m4 := fun w' h => by rw [cell_of_row w' w.heap.size 4 _ _ _ ((h.block _ (row_lt HW1.out)).trans HW1.out)]; rfl
  have hn0 : ∀ w', Below w4.heap.size w4 w' → w'.cell? ⟨(w.heap.size + 1), 0, none⟩ = some n0 := fun w' h => by rw [cell_of_row w' (w.heap.size + 1) 0 _ _ _ ((h.block _ (row_lt HW2.out)).trans HW2.out)]; rfl
  have hn1 : ∀ w', Below w4.heap.size w4 w' → w'.cell? ⟨(w.heap.size + 1), 1, none⟩ = some n1 := fun w' h => by rw [cell_of_row w' (w.heap.size + 1) 1 _ _ _ ((h.block _ (row_lt HW2.out)).trans HW2.out)]; rfl
  have hx0 : ∀ w', Below w4.heap.size w4 w' → w'.cell? ⟨(w.heap.size + 1 + 1), 0, none⟩ = some x0 := fun w' h => by rw [cell_of_row w' (w.heap.size + 1 + 1) 0 _ _ _ ((h.block _ (row_lt HW3.out)).trans HW3.out)]; rfl
  have hx1 : ∀ w', Below w4.heap.size w4 w' → w'.cell? ⟨(w.heap.size + 1 + 1), 1, none⟩ = some x1 := fun w' h => by rw [cell_of_row w' (w.heap.size + 1 + 1) 1 _ _ _ ((h.block _ (row_lt HW3.out)).trans HW3.out)]; rfl
  have hx2 : ∀ w', Below w4.heap.size w4 w' → w'.cell? ⟨(w.heap.size + 1 + 1), 2, none⟩ = some x2 := fun w' h => by rw [cell_of_row w' (w.heap.size + 1 + 1) 2 _ _ _ ((h.block _ (row_lt HW3.out)).trans HW3.out)]; rfl
  have hx3 : ∀ w', Below w4.heap.size w4 w' → w'.cell? ⟨(w.heap.size + 1 + 1), 3, none⟩ = some x3 := fun w' h => by rw [cell_of_row w' (w.heap.size + 1 + 1) 3 _ _ _ ((h.block _ (row_lt HW3.out)).trans HW3.out)]; rfl
  have hx4 : ∀ w', Below w4.heap.size w4 w' → w'.cell? ⟨(w.heap.size + 1 + 1), 4, none⟩ = some x4 := fun w' h => by rw [cell_of_row w' (w.heap.size + 1 + 1) 4 _ _ _ ((h.block _ (row_lt HW3.out)).trans HW3.out)]; rfl
  have hy0 : ∀ w', Below w4.heap.size w4 w' → w'.cell? ⟨(w.heap.size + 1 + 1 + 1), 0, none⟩ = some y0 := fun w' h => by rw [cell_of_row w' (w.heap.size + 1 + 1 + 1) 0 _ _ _ ((h.block _ (row_lt HW4.out)).trans HW4.out)]; rfl
  have hy1 : ∀ w', Below w4.heap.size w4 w' → w'.cell? ⟨(w.heap.size + 1 + 1 + 1), 1, none⟩ = some y1 := fun w' h => by rw [cell_of_row w' (w.heap.size + 1 + 1 + 1) 1 _ _ _ ((h.block _ (row_lt HW4.out)).trans HW4.out)]; rfl
  go_wp2_with fail
  go_region_held (fun w' => Below w4.heap.size w4 w')
    (first
      | assumption
      | exact (Below.refl _ _).drew
      | exact ext (by assumption) hb)
    (first
      | (go_at_call 18; refine (answers3_yes _).mono ?_; rintro e w' ⟨rfl, hb⟩)
      | (go_at_call 20; refine (ent_ok _ (entryK_ok.below HR1.out (by assumption))).mono ?_; rintro e w' ⟨rfl, hb⟩)
      | (go_at_call 21; refine (ent_gives _ (entryK_ok.below HR1.out (by assumption)) HS1.out).mono ?_; rintro e w' ⟨_, rfl, ho, hb⟩; obtain ⟨Z, cz, rfl, _, _, _, hrz, _⟩ := ho.form; have HZ1 := Lib.hid hrz; clear hrz ho)
      | (go_at_call 22; refine (conf_ok _ (confK_ok.below HR2.out (by assumption))).mono ?_; rintro e w' ⟨rfl, hb⟩)
      | (go_at_call 23; refine (conf_gives _ (confK_ok.below HR2.out (by assumption)) HS2.out).mono ?_; rintro e w' ⟨_, rfl, ho, hb⟩; obtain ⟨Z, cz, rfl, _, _, _, hrz, _⟩ := ho.form; have HZ2 := Lib.hid hrz; clear hrz ho)
      | (go_at_call 24; refine (shot_ok _ (shotK_ok.below HR3.out (by assumption))).mono ?_; rintro e w' ⟨rfl, hb⟩)
      | (go_at_call 25; refine (shot_gives _ (shotK_ok.below HR3.out (by assumption)) HS3.out).mono ?_; rintro e w' ⟨_, rfl, ho, hb⟩; obtain ⟨Z, cz, rfl, _, _, _, hrz, _⟩ := ho.form; have HZ3 := Lib.hid hrz; clear hrz ho)
      | (go_at_call 26; refine (hard_ok _ (hardK_ok.below HR4.out (by assumption))).mono ?_; rintro e w' ⟨rfl, hb⟩)
      | (go_at_call 27; refine (hard_gives _ (hardK_ok.below HR4.out (by assumption)) HS4.out).mono ?_; rintro e w' ⟨_, rfl, ho, hb⟩; obtain ⟨Z, cz, rfl, _, _, _, hrz, _⟩ := ho.form; have HZ4 := Lib.hid hrz; clear hrz ho)
      | (go_at_call_of 19 v1; refine (fitsK_any HV1.out (ext HN1.out (by assumption)) _ _ _ rfl HZ1.out).mono ?_; rintro e w' ⟨rfl, rfl⟩; have hb := Below.refl w'.heap.size w')
      | (go_at_call_of 19 v2; refine (fitsK_any HV2.out (ext HN2.out (by assumption)) _ _ _ rfl HZ2.out).mono ?_; rintro e w' ⟨rfl, rfl⟩; have hb := Below.refl w'.heap.size w')
      | (go_at_call_of 19 v3; refine (fitsK_any HV3.out (ext HN3.out (by assumption)) _ _ _ rfl HZ3.out).mono ?_; rintro e w' ⟨rfl, rfl⟩; have hb := Below.refl w'.heap.size w')
      | (go_at_call_of 19 v4; refine (fitsK_any HV4.out (ext HN4.out (by assumption)) _ _ _ rfl HZ4.out).mono ?_; rintro e w' ⟨rfl, rfl⟩; have hb := Below.refl w'.heap.size w'))
  go_wp2
  go_ret
  exact ⟨rfl, ext HB.out (by assumption)⟩
end Go.Proofs.YtloieecpgndbhaaGreat.Kd
