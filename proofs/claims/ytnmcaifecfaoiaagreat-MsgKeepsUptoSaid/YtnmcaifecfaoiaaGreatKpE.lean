/- Package scupperref03's OwnMsg. Written by genownm.py. -/
import Derived.Test.YtnmcaifecfaoiaaGreatKpA
import Derived.Test.YtnmcaifecfaoiaaGreatGS
namespace Go.Proofs.YtnmcaifecfaoiaaGreat.Kd
open Go.RowKit By CoP Co Mo

theorem iM : (Tryz.prog.info? 29).map (·.size) = some 14 := by kernel_rfl
theorem msg_rep {w : World} {S : Nat → Prop} {kd fr tt : Int} {tm ix lt cm rd : Nat} {ok : Bool} {E V L : Value} {es : List Data} {cf : Data} {fo : Int} {A3 : Option Addr} {c3 : Nat} {da : List UInt8}
    (hi : (-9223372036854775808 ≤ kd ∧ kd ≤ 9223372036854775807) ∧ (-9223372036854775808 ≤ fr ∧ fr ≤ 9223372036854775807) ∧ (-9223372036854775808 ≤ tt ∧ tt ≤ 9223372036854775807) ∧ (-9223372036854775808 ≤ fo ∧ fo ≤ 9223372036854775807))
    (hu : tm < 18446744073709551616 ∧ ix < 18446744073709551616 ∧ lt < 18446744073709551616 ∧ cm < 18446744073709551616 ∧ rd < 18446744073709551616) (he : entsK.rep w S [E] (.agg es)) (hc : confK.rep w S [V, L] cf)
    (h3 : da.length ≤ c3) (h4 : da.length ≤ 140737488355328) (h5 : LiesS w S A3 da) :
    msgK.rep w S [.int .i64 kd, .int .i64 fr, .int .i64 tt, .int .u64 (tm : Int), .int .u64 (ix : Int), .int .u64 (lt : Int), .int .u64 (cm : Int), .int .u64 (rd : Int), .bool ok, E, V, L, .int .i64 fo, .slice A3 da.length c3]
      (.agg [.lit (.int .i64 kd), .lit (.int .i64 fr), .lit (.int .i64 tt), .lit (.int .u64 (tm : Int)), .lit (.int .u64 (ix : Int)), .lit (.int .u64 (lt : Int)), .lit (.int .u64 (cm : Int)), .lit (.int .u64 (rd : Int)), .lit (.bool ok), .agg es, cf, .lit (.int .i64 fo), .lit (.string da)]) := by
  obtain ⟨⟨a1, a2⟩, ⟨a3, a4⟩, ⟨a5, a6⟩, ⟨a7, a8⟩⟩ := hi
  obtain ⟨b1, b2, b3, b4, b5⟩ := hu
  exact ⟨_, rfl, [_], _, _, _, rfl, rfl, ⟨kd, a1, a2, rfl, rfl⟩, [_], _, _, _, rfl, rfl, ⟨fr, a3, a4, rfl, rfl⟩, [_], _, _, _, rfl, rfl, ⟨tt, a5, a6, rfl, rfl⟩, [_], _, _, _, rfl, rfl, ⟨tm, b1, rfl, rfl⟩, [_], _, _, _, rfl, rfl, ⟨ix, b2, rfl, rfl⟩, [_], _, _, _, rfl, rfl, ⟨lt, b3, rfl, rfl⟩, [_], _, _, _, rfl, rfl, ⟨cm, b4, rfl, rfl⟩, [_], _, _, _, rfl, rfl, ⟨rd, b5, rfl, rfl⟩, [_], _, _, _, rfl, rfl, ⟨ok, rfl, rfl⟩, [E], _, _, _, rfl, rfl, he, [V, L], _, _, _, rfl, rfl, hc, [_], _, _, _, rfl, rfl, ⟨fo, a7, a8, rfl, rfl⟩, [_], _, _, _, rfl, rfl, ⟨A3, c3, da, rfl, rfl, h3, h4, h5⟩, rfl, rfl⟩
set_option maxRecDepth 100000 in
set_option maxHeartbeats 8000000 in
theorem ownMsg_any {xs : List Value} {d : Data} (w : World) (hrep : msgK.rep w (Old w) xs d) (hs : (msgK.put d).length ≤ 9437184) : Calls Tryz.prog 4 #[.agg xs.toArray] w (Owned msgK d w) := by
  obtain ⟨kd, fr, tt, tm, ix, lt, cm, rd, ok, Ae, ce, es, A, c, vs, A2, c2, ls, fo, A3, c3, da, rfl, rfl, hi, hu, ⟨_, he⟩, ⟨_, _, _, _, _, _, hcf⟩, h3, h4, h5⟩ := msg_shape hrep
  have hen' : es.length ≤ 9437184 := by
    have := ents_le he
    rw [msg_put] at hs
    simp only [List.length_append] at hs
    omega
  have hsc : (confK.put (confD vs ls)).length ≤ 9437184 := by
    rw [msg_put] at hs
    rw [conf_put]
    simp only [List.length_append] at hs
    omega
  have HI := Lib.hid hi
  have HU := Lib.hid hu
  have HDN := Lib.hid (And.intro (show da.length = da.length from rfl) (And.intro h3 h4))
  clear hs hi hu hrep
  obtain ⟨en, hqn⟩ : ∃ en, en = es.length := ⟨_, rfl⟩
  obtain ⟨vn, hqv⟩ : ∃ vn, vn = vs.length := ⟨_, rfl⟩
  obtain ⟨ln, hql⟩ : ∃ ln, ln = ls.length := ⟨_, rfl⟩
  obtain ⟨dn, hqd⟩ : ∃ dn, dn = da.length := ⟨_, rfl⟩
  have HDL := Lib.hid hqd
  have h3' : dn ≤ c3 := by omega
  have h4' : dn ≤ 140737488355328 := by omega
  have hen2 : en ≤ 9437184 := by omega
  show Calls Tryz.prog 4 #[.agg #[.int .i64 kd, .int .i64 fr, .int .i64 tt, .int .u64 (tm : Int), .int .u64 (ix : Int), .int .u64 (lt : Int), .int .u64 (cm : Int), .int .u64 (rd : Int), .bool ok, .slice Ae es.length ce, .slice A vs.length c, .slice A2 ls.length c2, .int .i64 fo, .slice A3 da.length c3]] w _
  rw [← hqn] at he ⊢
  rw [← hqv, ← hql] at hcf ⊢
  rw [← hqd]
  have HQN := Lib.hid hqn
  have HQD := Lib.hid hqd
  clear hqn hqv hql hqd h3 h4 hen'
  obtain ⟨W, hW⟩ : ∃ W, W = (w.alloc (.cells #[.int .i64 kd, .int .i64 fr, .int .i64 tt, .int .u64 (tm : Int), .int .u64 (ix : Int), .int .u64 (lt : Int), .int .u64 (cm : Int), .int .u64 (rd : Int), .bool ok, .slice Ae en ce, .slice A vn c, .slice A2 ln c2, .int .i64 fo, .slice A3 dn c3] 29)).alloc (.cells #[.int .i64 0, .int .i64 0, .int .i64 0, .int .u64 0, .int .u64 0, .int .u64 0, .int .u64 0, .int .u64 0, .bool false, .slice none 0 0, .slice none 0 0, .slice none 0 0, .int .i64 0, .slice none 0 0] 29) := ⟨_, rfl⟩
  have hbW : Below w.heap.size w W := by rw [hW]; exact ((Below.refl _ _).alloc (Nat.le_refl _) _).alloc (by simp) _
  have hzW : W.heap.size = w.heap.size + 1 + 1 := by rw [hW]; simp
  have hr1 : W.heap[w.heap.size]? = some (.cells #[.int .i64 kd, .int .i64 fr, .int .i64 tt, .int .u64 (tm : Int), .int .u64 (ix : Int), .int .u64 (lt : Int), .int .u64 (cm : Int), .int .u64 (rd : Int), .bool ok, .slice Ae en ce, .slice A vn c, .slice A2 ln c2, .int .i64 fo, .slice A3 dn c3] 29 (0, 0)) := by rw [hW]; exact heap_alloc2_old w _ _
  have hr2 : W.heap[w.heap.size + 1]? = some (.cells #[.int .i64 0, .int .i64 0, .int .i64 0, .int .u64 0, .int .u64 0, .int .u64 0, .int .u64 0, .int .u64 0, .bool false, .slice none 0 0, .slice none 0 0, .slice none 0 0, .int .i64 0, .slice none 0 0] 29 (0, 0)) := by rw [hW]; exact heap_alloc2_new w _ _
  have hx9 : W.cell? ⟨w.heap.size, 9, none⟩ = some (.slice Ae en ce) := by rw [cell_of_row W _ 9 _ _ _ hr1]; rfl
  have HE := Lib.hid (entsK_ok.below he hbW)
  have HCF := Lib.hid hcf
  have HBW := Lib.hid hbW
  have HZW := Lib.hid hzW
  have HR1 := Lib.hid hr1
  have HR2 := Lib.hid hr2
  have H5 := Lib.hid h5
  have HSC := Lib.hid hsc
  clear hbW hzW hr1 hr2 h5 hcf he hsc
  rw [hW] at hx9
  go_enter Tryz.func4, Tryz.ntmps4
  go_wp2_with fail
  clear hx9
  rw [← hW]
  clear hW
  refine (ownEntries_any (most := 8) W HE.out hen2).mono ?_
  rintro e w1 ⟨ve, rfl, hle, hb1⟩
  obtain ⟨Aq, cq, eq, q1, q2, _, _, _⟩ := hle
  have hle' : entsK.rep w1 (New W w1) [ve] (.agg es) := ⟨Aq, cq, eq, q1, q2, ‹_›, ‹_›, ‹_›⟩
  obtain rfl := Data.agg.inj q2
  have q3 : ve = .slice Aq en cq := by rw [HQN.out]; simpa using q1
  subst q3
  have HLE := Lib.hid hle'
  have hzW := HZW.out
  have hz1 := hb1.size
  have hr1 := (hb1.block w.heap.size (row_lt HR1.out)).trans HR1.out
  have hr2 := (hb1.block (w.heap.size + 1) (row_lt HR2.out)).trans HR2.out
  have y9 : w1.cell? ⟨w.heap.size, 9, none⟩ = some (.slice Ae en ce) := by rw [cell_of_row w1 _ 9 _ _ _ hr1]; rfl
  have z9 : w1.frozen? ⟨w.heap.size, 9, none⟩ = false := frozen_of_row w1 _ 9 _ _ hr1
  have hrX : (w1.setCell ⟨w.heap.size, 9, none⟩ (.slice Aq en cq)).heap[w.heap.size]? = some (.cells #[.int .i64 kd, .int .i64 fr, .int .i64 tt, .int .u64 (tm : Int), .int .u64 (ix : Int), .int .u64 (lt : Int), .int .u64 (cm : Int), .int .u64 (rd : Int), .bool ok, .slice Aq en cq, .slice A vn c, .slice A2 ln c2, .int .i64 fo, .slice A3 dn c3] 29 (0, 0)) := heap_setCell_same w1 w.heap.size 9 _ _ _ hr1
  have hr2X : (w1.setCell ⟨w.heap.size, 9, none⟩ (.slice Aq en cq)).heap[w.heap.size + 1]? = some (.cells #[.int .i64 0, .int .i64 0, .int .i64 0, .int .u64 0, .int .u64 0, .int .u64 0, .int .u64 0, .int .u64 0, .bool false, .slice none 0 0, .slice none 0 0, .slice none 0 0, .int .i64 0, .slice none 0 0] 29 (0, 0)) := (heap_setCell_other _ ⟨w.heap.size, 9, none⟩ _ _ (by show w.heap.size + 1 ≠ w.heap.size; omega)).trans hr2
  have hzX : (w1.setCell ⟨w.heap.size, 9, none⟩ (.slice Aq en cq)).heap.size = w1.heap.size := size_setCell' _ _ _
  have hbX : Below w.heap.size w (w1.setCell ⟨w.heap.size, 9, none⟩ (.slice Aq en cq)) := (HBW.out.trans (hb1.mono HBW.out.size)).setCell (p := ⟨w.heap.size, 9, none⟩) (Nat.le_refl _) _
  have hofX : ∀ b, b ≠ w.heap.size → (w1.setCell ⟨w.heap.size, 9, none⟩ (.slice Aq en cq)).heap[b]? = w1.heap[b]? := fun b hb => heap_setCell_other w1 ⟨w.heap.size, 9, none⟩ b _ hb
  have hy10 : (w1.setCell ⟨w.heap.size, 9, none⟩ (.slice Aq en cq)).cell? ⟨w.heap.size, 10, none⟩ = some (.slice A vn c) := by rw [cell_of_row _ w.heap.size 10 _ _ _ hrX]; rfl
  have hy11 : (w1.setCell ⟨w.heap.size, 9, none⟩ (.slice Aq en cq)).cell? ⟨w.heap.size, 10 + 1, none⟩ = some (.slice A2 ln c2) := by rw [cell_of_row _ w.heap.size 11 _ _ _ hrX]; rfl
  have HCX := Lib.hid (confK_ok.below HCF.out hbX)
  have HLX := Lib.hid (entsK_ok.keep hle' (S' := New W w1) (fun b hb => hofX b (by have := hb.1; omega)) (fun _ h => h))
  have HRX := Lib.hid hrX
  have HR2X := Lib.hid hr2X
  have HZX := Lib.hid hzX
  have HBX := Lib.hid hbX
  have hz1' : w.heap.size + 1 + 1 ≤ w1.heap.size := by omega
  clear hb1 hr1 hr2 hrX hr2X hzX hbX hofX hle' q1 HE
  go_wp2_with fail
  clear y9 z9 hy10 hy11
  refine (ownConf_any (xs := [.slice A vn c, .slice A2 ln c2]) _ HCX.out HSC.out).mono ?_
  rintro e w2 ⟨ys, rfl, hy, hb2⟩
  obtain ⟨ys⟩ := ys
  have hy0 := hy
  obtain ⟨_, _, hcc⟩ := hy0
  obtain ⟨_, _, _, _, e1, _, ⟨Ay, cy, dy, rfl, _, _, _, _⟩, _, _, _, _, rfl, _, ⟨Az, cz, dz, rfl, _, _, _, _⟩, rfl, _⟩ := hcc
  have e2 : ys = [.slice Ay dy.length cy, .slice Az dz.length cz] := e1
  subst e2
  generalize dy.length = ny at hy ⊢
  generalize dz.length = nz at hy ⊢
  have hzX := HZX.out
  have hz2 := hb2.size
  rw [hzX] at hz2
  have hr1 := (hb2.block w.heap.size (row_lt HRX.out)).trans HRX.out
  have hr2 := (hb2.block (w.heap.size + 1) (row_lt HR2X.out)).trans HR2X.out
  have y2 : w2.cell? ⟨w.heap.size, 10, none⟩ = some (.slice A vn c) := by rw [cell_of_row w2 _ 10 _ _ _ hr1]; rfl
  have y3 : w2.cell? ⟨w.heap.size, 11, none⟩ = some (.slice A2 ln c2) := by rw [cell_of_row w2 _ 11 _ _ _ hr1]; rfl
  have z2 : w2.frozen? ⟨w.heap.size, 10, none⟩ = false := frozen_of_row w2 _ 10 _ _ hr1
  have z3 : w2.frozen? ⟨w.heap.size, 11, none⟩ = false := frozen_of_row w2 _ 11 _ _ hr1
  have hrL : ((w2.setCell ⟨w.heap.size, 10, none⟩ (.slice Ay ny cy)).setCell ⟨w.heap.size, 11, none⟩ (.slice Az nz cz)).heap[w.heap.size]? = some (.cells #[.int .i64 kd, .int .i64 fr, .int .i64 tt, .int .u64 (tm : Int), .int .u64 (ix : Int), .int .u64 (lt : Int), .int .u64 (cm : Int), .int .u64 (rd : Int), .bool ok, .slice Aq en cq, .slice Ay ny cy, .slice Az nz cz, .int .i64 fo, .slice A3 dn c3] 29 (0, 0)) := heap_setCell_same _ w.heap.size 11 _ _ _ (heap_setCell_same w2 w.heap.size 10 _ _ _ hr1)
  have hofL : ∀ b, b ≠ w.heap.size → ((w2.setCell ⟨w.heap.size, 10, none⟩ (.slice Ay ny cy)).setCell ⟨w.heap.size, 11, none⟩ (.slice Az nz cz)).heap[b]? = w2.heap[b]? := fun b hb => (heap_setCell_other _ ⟨w.heap.size, 11, none⟩ b _ hb).trans (heap_setCell_other _ ⟨w.heap.size, 10, none⟩ b _ hb)
  have hr2L : ((w2.setCell ⟨w.heap.size, 10, none⟩ (.slice Ay ny cy)).setCell ⟨w.heap.size, 11, none⟩ (.slice Az nz cz)).heap[w.heap.size + 1]? = some (.cells #[.int .i64 0, .int .i64 0, .int .i64 0, .int .u64 0, .int .u64 0, .int .u64 0, .int .u64 0, .int .u64 0, .bool false, .slice none 0 0, .slice none 0 0, .slice none 0 0, .int .i64 0, .slice none 0 0] 29 (0, 0)) := (hofL _ (by omega)).trans hr2
  have hbL : Below w.heap.size w ((w2.setCell ⟨w.heap.size, 10, none⟩ (.slice Ay ny cy)).setCell ⟨w.heap.size, 11, none⟩ (.slice Az nz cz)) := ((HBX.out.trans (hb2.mono HBX.out.size)).setCell (p := ⟨w.heap.size, 10, none⟩) (Nat.le_refl _) _).setCell (p := ⟨w.heap.size, 11, none⟩) (Nat.le_refl _) _
  have hzL : ((w2.setCell ⟨w.heap.size, 10, none⟩ (.slice Ay ny cy)).setCell ⟨w.heap.size, 11, none⟩ (.slice Az nz cz)).heap.size = w2.heap.size := by rw [size_setCell', size_setCell']
  have hyL : confK.rep ((w2.setCell ⟨w.heap.size, 10, none⟩ (.slice Ay ny cy)).setCell ⟨w.heap.size, 11, none⟩ (.slice Az nz cz)) (New (w1.setCell ⟨w.heap.size, 9, none⟩ (.slice Aq en cq)) w2) [.slice Ay ny cy, .slice Az nz cz] (confD vs ls) := confK_ok.keep hy (fun b hb => hofL b (by have := hb.1; omega)) (fun _ h => h)
  have hlL : entsK.rep ((w2.setCell ⟨w.heap.size, 10, none⟩ (.slice Ay ny cy)).setCell ⟨w.heap.size, 11, none⟩ (.slice Az nz cz)) (New W w1) [.slice Aq en cq] (.agg es) := entsK_ok.keep HLX.out (fun b hb => (hofL b (by have := hb.1; omega)).trans (hb2.block b (by have := hb.2; omega))) (fun _ h => h)
  have hoa : Own w2.heap.size (((w2.setCell ⟨w.heap.size, 10, none⟩ (.slice Ay ny cy)).setCell ⟨w.heap.size, 11, none⟩ (.slice Az nz cz)).alloc (.cells #[] 5)) (.slice (some ⟨w2.heap.size, 0, none⟩) 0 0) [] := by
    have h := Own.made ((w2.setCell ⟨w.heap.size, 10, none⟩ (.slice Ay ny cy)).setCell ⟨w.heap.size, 11, none⟩ (.slice Az nz cz)) ((w2.setCell ⟨w.heap.size, 10, none⟩ (.slice Ay ny cy)).setCell ⟨w.heap.size, 11, none⟩ (.slice Az nz cz)).heap.size #[] 0 (Nat.le_refl _) (by decide) rfl
    rw [hzL] at h
    exact h
  have hc4 : (((w2.setCell ⟨w.heap.size, 10, none⟩ (.slice Ay ny cy)).setCell ⟨w.heap.size, 11, none⟩ (.slice Az nz cz)).alloc (.cells #[] 5)).cell? ⟨w.heap.size, 13, none⟩ = some (.slice A3 dn c3) := by rw [World.cell?_alloc_lt _ _ ⟨w.heap.size, 13, none⟩ (row_lt hrL), cell_of_row _ w.heap.size 13 _ _ _ hrL]; rfl
  have hld := (H5.out.below hbL).alloc (by rw [hzL]; omega) (.cells #[] 5)
  have HRL := Lib.hid hrL
  have HR2L := Lib.hid hr2L
  have HBL := Lib.hid hbL
  have HYL := Lib.hid hyL
  have HLL := Lib.hid hlL
  have HZL := Lib.hid hzL
  clear hrL hr2L hbL hyL hlL hy hb2 hr1 hr2 hzL e1 hofL HLX HCX
  go_wp2_with (at_builtin; refine wpList_app rfl (.tmp 11) (.tmp 13) rfl rfl hoa rfl HDL.out hld ?cs ?cb ?_)
  case cs => have := HQD.out; simp; omega
  case cb => rw [World.size_alloc, HZL.out]; omega
  intro v2 w3 ho3 hb3 _
  rw [← HZL.out] at hb3
  try rw [List.nil_append] at ho3
  obtain ⟨A4, c4, rfl, hc4', _, _, _, _⟩ := ho3.form
  have hzL := HZL.out
  have hb3' : Below ((w2.setCell ⟨w.heap.size, 10, none⟩ (.slice Ay ny cy)).setCell ⟨w.heap.size, 11, none⟩ (.slice Az nz cz)).heap.size ((w2.setCell ⟨w.heap.size, 10, none⟩ (.slice Ay ny cy)).setCell ⟨w.heap.size, 11, none⟩ (.slice Az nz cz)) w3 := ((Below.refl _ _).alloc (Nat.le_refl _) (.cells #[] 5)).trans hb3
  have hr4 := (hb3'.block _ (row_lt HRL.out)).trans HRL.out
  have hr24 := (hb3'.block _ (row_lt HR2L.out)).trans HR2L.out
  have hqd : da.length = dn := HQD.out.symm
  have u4 : w3.cell? ⟨w.heap.size, 13, none⟩ = some (.slice A3 dn c3) := by rw [cell_of_row w3 _ 13 _ _ _ hr4]; rfl
  have v4 : w3.frozen? ⟨w.heap.size, 13, none⟩ = false := frozen_of_row w3 _ 13 _ _ hr4
  have hr5 : (w3.setCell ⟨w.heap.size, 13, none⟩ (.slice A4 da.length c4)).heap[w.heap.size]? = some (.cells #[.int .i64 kd, .int .i64 fr, .int .i64 tt, .int .u64 (tm : Int), .int .u64 (ix : Int), .int .u64 (lt : Int), .int .u64 (cm : Int), .int .u64 (rd : Int), .bool ok, .slice Aq en cq, .slice Ay ny cy, .slice Az nz cz, .int .i64 fo, .slice A4 da.length c4] 29 (0, 0)) := heap_setCell_same w3 w.heap.size 13 _ _ _ hr4
  have hr25 : (w3.setCell ⟨w.heap.size, 13, none⟩ (.slice A4 da.length c4)).heap[w.heap.size + 1]? = some (.cells #[.int .i64 0, .int .i64 0, .int .i64 0, .int .u64 0, .int .u64 0, .int .u64 0, .int .u64 0, .int .u64 0, .bool false, .slice none 0 0, .slice none 0 0, .slice none 0 0, .int .i64 0, .slice none 0 0] 29 (0, 0)) := (heap_setCell_other _ ⟨w.heap.size, 13, none⟩ _ _ (by show w.heap.size + 1 ≠ w.heap.size; omega)).trans hr24
  have hz3 := hb3'.size
  have hfin : ∀ b, w.heap.size + 1 + 1 ≤ b → ((w3.setCell ⟨w.heap.size, 13, none⟩ (.slice A4 da.length c4)).setRow (w.heap.size + 1) #[.int .i64 kd, .int .i64 fr, .int .i64 tt, .int .u64 (tm : Int), .int .u64 (ix : Int), .int .u64 (lt : Int), .int .u64 (cm : Int), .int .u64 (rd : Int), .bool ok, .slice Aq en cq, .slice Ay ny cy, .slice Az nz cz, .int .i64 fo, .slice A4 da.length c4]).heap[b]? = w3.heap[b]? := fun b hb => (setRow_other _ _ b _ (by omega)).trans (heap_setCell_other _ ⟨w.heap.size, 13, none⟩ b _ (by show b ≠ w.heap.size; omega))
  have hzf : ((w3.setCell ⟨w.heap.size, 13, none⟩ (.slice A4 da.length c4)).setRow (w.heap.size + 1) #[.int .i64 kd, .int .i64 fr, .int .i64 tt, .int .u64 (tm : Int), .int .u64 (ix : Int), .int .u64 (lt : Int), .int .u64 (cm : Int), .int .u64 (rd : Int), .bool ok, .slice Aq en cq, .slice Ay ny cy, .slice Az nz cz, .int .i64 fo, .slice A4 da.length c4]).heap.size = w3.heap.size := by rw [size_setRow, size_setCell']
  have hrepf : msgK.rep ((w3.setCell ⟨w.heap.size, 13, none⟩ (.slice A4 da.length c4)).setRow (w.heap.size + 1) #[.int .i64 kd, .int .i64 fr, .int .i64 tt, .int .u64 (tm : Int), .int .u64 (ix : Int), .int .u64 (lt : Int), .int .u64 (cm : Int), .int .u64 (rd : Int), .bool ok, .slice Aq en cq, .slice Ay ny cy, .slice Az nz cz, .int .i64 fo, .slice A4 da.length c4]) (New w ((w3.setCell ⟨w.heap.size, 13, none⟩ (.slice A4 da.length c4)).setRow (w.heap.size + 1) #[.int .i64 kd, .int .i64 fr, .int .i64 tt, .int .u64 (tm : Int), .int .u64 (ix : Int), .int .u64 (lt : Int), .int .u64 (cm : Int), .int .u64 (rd : Int), .bool ok, .slice Aq en cq, .slice Ay ny cy, .slice Az nz cz, .int .i64 fo, .slice A4 da.length c4])) [.int .i64 kd, .int .i64 fr, .int .i64 tt, .int .u64 (tm : Int), .int .u64 (ix : Int), .int .u64 (lt : Int), .int .u64 (cm : Int), .int .u64 (rd : Int), .bool ok, .slice Aq en cq, .slice Ay ny cy, .slice Az nz cz, .int .i64 fo, .slice A4 da.length c4] (msgD kd fr tt tm ix lt cm rd ok es vs ls fo da) :=
    msg_rep HI.out HU.out
      (entsK_ok.keep HLL.out (fun b hb => (hfin b (by have := hb.1; omega)).trans (hb3'.block b (by have := hb.2; omega))) (fun b hb => ⟨by have := hb.1; omega, by rw [hzf]; have := hb.2; omega⟩))
      (confK_ok.keep HYL.out (fun b hb => (hfin b (by have := hb.1; omega)).trans (hb3'.block b (by have := hb.2; omega))) (fun b hb => ⟨by have := hb.1; omega, by rw [hzf]; have := hb.2; omega⟩)) hc4' (by omega)
      ((LiesS.own ho3).keep (fun b hb => hfin b (by have := hb.1; omega)) (fun b hb => ⟨by have := hb.1; omega, by rw [hzf]; exact hb.2⟩))
  have hbf : Below w.heap.size w ((w3.setCell ⟨w.heap.size, 13, none⟩ (.slice A4 da.length c4)).setRow (w.heap.size + 1) #[.int .i64 kd, .int .i64 fr, .int .i64 tt, .int .u64 (tm : Int), .int .u64 (ix : Int), .int .u64 (lt : Int), .int .u64 (cm : Int), .int .u64 (rd : Int), .bool ok, .slice Aq en cq, .slice Ay ny cy, .slice Az nz cz, .int .i64 fo, .slice A4 da.length c4]) := below_setRow (((HBL.out.trans (hb3'.mono (by omega)))).setCell (p := ⟨w.heap.size, 13, none⟩) (Nat.le_refl _) _) (Nat.le_succ _) _
  have HIS := Lib.hid (show (Tryz.prog.info? 29).map (·.size) = some (#[.int .i64 kd, .int .i64 fr, .int .i64 tt, .int .u64 (tm : Int), .int .u64 (ix : Int), .int .u64 (lt : Int), .int .u64 (cm : Int), .int .u64 (rd : Int), .bool ok, .slice Aq en cq, .slice Ay ny cy, .slice Az nz cz, .int .i64 fo, .slice A4 da.length c4] : Array Value).size from iM)
  have HV1 := Lib.hid (show (#[.int .i64 0, .int .i64 0, .int .i64 0, .int .u64 0, .int .u64 0, .int .u64 0, .int .u64 0, .int .u64 0, .bool false, .slice none 0 0, .slice none 0 0, .slice none 0 0, .int .i64 0, .slice none 0 0] : Array Value).size = (#[.int .i64 kd, .int .i64 fr, .int .i64 tt, .int .u64 (tm : Int), .int .u64 (ix : Int), .int .u64 (lt : Int), .int .u64 (cm : Int), .int .u64 (rd : Int), .bool ok, .slice Aq en cq, .slice Ay ny cy, .slice Az nz cz, .int .i64 fo, .slice A4 da.length c4] : Array Value).size from rfl)
  have HV2 := Lib.hid (show (#[.int .i64 kd, .int .i64 fr, .int .i64 tt, .int .u64 (tm : Int), .int .u64 (ix : Int), .int .u64 (lt : Int), .int .u64 (cm : Int), .int .u64 (rd : Int), .bool ok, .slice Aq en cq, .slice Ay ny cy, .slice Az nz cz, .int .i64 fo, .slice A4 da.length c4] : Array Value).all (·.oneCell') = true by simp [Value.oneCell'])
  have f0 : (w3.setCell ⟨w.heap.size, 13, none⟩ (.slice A4 da.length c4)).cell? ⟨w.heap.size, 0, none⟩ = some (.int .i64 kd) := by rw [cell_of_row _ w.heap.size 0 _ _ _ hr5]; rfl
  have f1 : (w3.setCell ⟨w.heap.size, 13, none⟩ (.slice A4 da.length c4)).cell? ⟨w.heap.size, 1, none⟩ = some (.int .i64 fr) := by rw [cell_of_row _ w.heap.size 1 _ _ _ hr5]; rfl
  have f2 : (w3.setCell ⟨w.heap.size, 13, none⟩ (.slice A4 da.length c4)).cell? ⟨w.heap.size, 2, none⟩ = some (.int .i64 tt) := by rw [cell_of_row _ w.heap.size 2 _ _ _ hr5]; rfl
  have f3 : (w3.setCell ⟨w.heap.size, 13, none⟩ (.slice A4 da.length c4)).cell? ⟨w.heap.size, 3, none⟩ = some (.int .u64 (tm : Int)) := by rw [cell_of_row _ w.heap.size 3 _ _ _ hr5]; rfl
  have f4 : (w3.setCell ⟨w.heap.size, 13, none⟩ (.slice A4 da.length c4)).cell? ⟨w.heap.size, 4, none⟩ = some (.int .u64 (ix : Int)) := by rw [cell_of_row _ w.heap.size 4 _ _ _ hr5]; rfl
  have f5 : (w3.setCell ⟨w.heap.size, 13, none⟩ (.slice A4 da.length c4)).cell? ⟨w.heap.size, 5, none⟩ = some (.int .u64 (lt : Int)) := by rw [cell_of_row _ w.heap.size 5 _ _ _ hr5]; rfl
  have f6 : (w3.setCell ⟨w.heap.size, 13, none⟩ (.slice A4 da.length c4)).cell? ⟨w.heap.size, 6, none⟩ = some (.int .u64 (cm : Int)) := by rw [cell_of_row _ w.heap.size 6 _ _ _ hr5]; rfl
  have f7 : (w3.setCell ⟨w.heap.size, 13, none⟩ (.slice A4 da.length c4)).cell? ⟨w.heap.size, 7, none⟩ = some (.int .u64 (rd : Int)) := by rw [cell_of_row _ w.heap.size 7 _ _ _ hr5]; rfl
  have f8 : (w3.setCell ⟨w.heap.size, 13, none⟩ (.slice A4 da.length c4)).cell? ⟨w.heap.size, 8, none⟩ = some (.bool ok) := by rw [cell_of_row _ w.heap.size 8 _ _ _ hr5]; rfl
  have f9 : (w3.setCell ⟨w.heap.size, 13, none⟩ (.slice A4 da.length c4)).cell? ⟨w.heap.size, 9, none⟩ = some (.slice Aq en cq) := by rw [cell_of_row _ w.heap.size 9 _ _ _ hr5]; rfl
  have f10 : (w3.setCell ⟨w.heap.size, 13, none⟩ (.slice A4 da.length c4)).cell? ⟨w.heap.size, 10, none⟩ = some (.slice Ay ny cy) := by rw [cell_of_row _ w.heap.size 10 _ _ _ hr5]; rfl
  have f11 : (w3.setCell ⟨w.heap.size, 13, none⟩ (.slice A4 da.length c4)).cell? ⟨w.heap.size, 11, none⟩ = some (.slice Az nz cz) := by rw [cell_of_row _ w.heap.size 11 _ _ _ hr5]; rfl
  have f12 : (w3.setCell ⟨w.heap.size, 13, none⟩ (.slice A4 da.length c4)).cell? ⟨w.heap.size, 12, none⟩ = some (.int .i64 fo) := by rw [cell_of_row _ w.heap.size 12 _ _ _ hr5]; rfl
  have f13 : (w3.setCell ⟨w.heap.size, 13, none⟩ (.slice A4 da.length c4)).cell? ⟨w.heap.size, 13, none⟩ = some (.slice A4 da.length c4) := by rw [cell_of_row _ w.heap.size 13 _ _ _ hr5]; rfl
  have HR5 := Lib.hid hr5
  have HR25 := Lib.hid hr25
  have HREPF := Lib.hid hrepf
  have HBF := Lib.hid hbf
  clear hb3 hb3' hr4 hr24 hr5 hr25 hrepf hbf hfin hzf ho3 hoa hld hc4 hqd
  go_wp2_with (with_reducible refine wpList_store_row rfl 29 (.tmp 2) (.tmp 16) rfl (w.heap.size + 1) #[.int .i64 kd, .int .i64 fr, .int .i64 tt, .int .u64 (tm : Int), .int .u64 (ix : Int), .int .u64 (lt : Int), .int .u64 (cm : Int), .int .u64 (rd : Int), .bool ok, .slice Aq en cq, .slice Ay ny cy, .slice Az nz cz, .int .i64 fo, .slice A4 da.length c4] rfl rfl 29 #[.int .i64 0, .int .i64 0, .int .i64 0, .int .u64 0, .int .u64 0, .int .u64 0, .int .u64 0, .int .u64 0, .bool false, .slice none 0 0, .slice none 0 0, .slice none 0 0, .int .i64 0, .slice none 0 0] HR25.out HIS.out HV1.out HV2.out ?_)
  exact bodyPost_ret (v := .agg #[.int .i64 kd, .int .i64 fr, .int .i64 tt, .int .u64 (tm : Int), .int .u64 (ix : Int), .int .u64 (lt : Int), .int .u64 (cm : Int), .int .u64 (rd : Int), .bool ok, .slice Aq en cq, .slice Ay ny cy, .slice Az nz cz, .int .i64 fo, .slice A4 da.length c4]) (results_cell_row rfl _ _ (w.heap.size + 1) 29 #[.int .i64 kd, .int .i64 fr, .int .i64 tt, .int .u64 (tm : Int), .int .u64 (ix : Int), .int .u64 (lt : Int), .int .u64 (cm : Int), .int .u64 (rd : Int), .bool ok, .slice Aq en cq, .slice Ay ny cy, .slice Az nz cz, .int .i64 fo, .slice A4 da.length c4] (0, 0) _ rfl (setRow_heap _ _ _ _ _ _ HR25.out) Tryz.underlying29 rfl iM) rfl ⟨_, rfl, HREPF.out, HBF.out⟩
end Go.Proofs.YtnmcaifecfaoiaaGreat.Kd
