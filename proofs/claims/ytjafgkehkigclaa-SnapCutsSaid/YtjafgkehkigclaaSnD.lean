/- The reference's Cut, as a contract of a call. -/
import Derived.Test.YtjafgkehkigclaaSnC
import Derived.Deep.RegionLaw
namespace Go.Proofs.Ytjafgkehkigclaa.Sn
open Go.RowKit By

abbrev tR : TypeId := 29
theorem rret_cut {w4 : World} {r : Nat} {a0 a1 a2 a3 a4 er : Value} {tm : Array Value} (h8 : tm[8]?.getD undef = .pointer (some ⟨r, 0, none⟩)) (h9 : tm[9]?.getD undef = er) (hrow : w4.heap[r]? = some (.cells #[a0, a1, a2, a3, a4] tR (0, 0))) :
    (results Try.f9 tm).run Try.prog w4 = .ok (.tuple #[.agg #[a0, a1, a2, a3, a4], er]) w4 := by
  have hres : Try.f9.results = #[.cell 8 tR, .tmp 9] := by kernel_rfl
  have hlv : (loadVar tR ⟨r, 0, none⟩).run Try.prog w4 = .ok (.agg #[a0, a1, a2, a3, a4]) w4 := run_loadVar_row w4 _ _ _ _ _ _ hrow Try.underlying29 rfl (by kernel_rfl)
  unfold results
  rw [hres]
  simp [asAddr, hlv, h8, h9]
theorem rset5 {w : World} {g : Nat} {b0 b1 b2 b3 b4 : Value} (hr : w.heap[g]? = some (.cells #[b0, b1, b2, b3, b4] tR (0, 0))) (a0 a1 a2 a3 a4 : Value) :
    (((((w.setCell ⟨g, 0, none⟩ a0).setCell ⟨g, 1, none⟩ a1).setCell ⟨g, 2, none⟩ a2).setCell ⟨g, 3, none⟩ a3).setCell ⟨g, 4, none⟩ a4).heap[g]? = some (.cells #[a0, a1, a2, a3, a4] tR (0, 0)) :=
  Go.heap_setCell_same _ _ 4 _ _ a4 (Go.heap_setCell_same _ _ 3 _ _ a3 (Go.heap_setCell_same _ _ 2 _ _ a2 (Go.heap_setCell_same _ _ 1 _ _ a1 (Go.heap_setCell_same w _ 0 _ _ a0 hr))))
theorem rcells {w : World} {g : Nat} {b0 b1 b2 b3 b4 : Value} (hr : w.heap[g]? = some (.cells #[b0, b1, b2, b3, b4] tR (0, 0))) : w.cell? ⟨g, 0, none⟩ = some b0 ∧ w.cell? ⟨g, 1, none⟩ = some b1 ∧ w.cell? ⟨g, 2, none⟩ = some b2 ∧ w.cell? ⟨g, 3, none⟩ = some b3 ∧ w.cell? ⟨g, 4, none⟩ = some b4 :=
  ⟨(cell_of_row w _ 0 _ _ _ hr).trans rfl, (cell_of_row w _ 1 _ _ _ hr).trans rfl, (cell_of_row w _ 2 _ _ _ hr).trans rfl, (cell_of_row w _ 3 _ _ _ hr).trans rfl, (cell_of_row w _ 4 _ _ _ hr).trans rfl⟩
set_option maxHeartbeats 1600000 in
theorem rcut_out (i t : Nat) (A : Option Addr) (n c : Nat) (k : Int) (w : World) (hk : k < 0 ∨ (n : Int) < k) : Calls Try.prog 9 #[.int .u64 (i : Nat), .int .u64 (t : Nat), .slice A n c, .int .i64 k] w (CutPost zeroP 1 w) := by
  obtain ⟨w1, hw1⟩ : ∃ w1, w1 = w.alloc (.cells #[.int .u64 0, .int .u64 0, .int .i64 0, .bool false, .slice none 0 0] tR) := ⟨_, rfl⟩
  have hb1 : Below w.heap.size w w1 := by rw [hw1]; exact (Below.refl _ _).alloc (Nat.le_refl _) _
  have hr1 : w1.heap[w.heap.size]? = some (.cells #[.int .u64 0, .int .u64 0, .int .i64 0, .bool false, .slice none 0 0] tR (0, 0)) := by rw [hw1]; exact heap_alloc_new w _
  have f3 : ∀ i, w1.frozen? ⟨w.heap.size, i, none⟩ = false := fun i => frozen_of_row w1 _ i _ _ hr1
  obtain ⟨c0, c1, c2, c3, c4⟩ := rcells hr1
  have HR := Lib.hid hr1
  have HB := Lib.hid hb1
  have HW1 := Lib.hid hw1
  clear hr1 hw1 hb1
  rcases Int.lt_or_le k 0 with h0 | h0
  · clear hk
    go_enter Try.func9, Try.ntmps9
    go_wp2_with fail
    rw [← HW1.out]
    go_wp2
    exact bodyPost_ret (rret_cut rfl rfl HR.out) rfl ⟨none, 0, rfl, Own.nil _ _, HB.out⟩
  · have h1 : (n : Int) < k := by omega
    have h2 : ¬ (k < 0) := by omega
    clear hk
    go_enter Try.func9, Try.ntmps9
    go_wp2_with fail
    rw [← HW1.out]
    go_wp2
    exact bodyPost_ret (rret_cut rfl rfl HR.out) rfl ⟨none, 0, rfl, Own.nil _ _, HB.out⟩
theorem take_next {l : Bs} {k s : Nat} (hk : k ≤ s) (hs : s < l.length) : (l.drop k).take (s + 1 - k) = (l.drop k).take (s - k) ++ [l[s]] := by
  rw [show s + 1 - k = (s - k) + 1 by omega, List.take_succ_eq_append_getElem (by rw [List.length_drop]; omega)]
  simp [show k + (s - k) = s by omega]
theorem own_off {base : Nat} {w : World} {v u : Value} {l : Bs} {p : Addr} (h : Own base w v l) (hp : p.block < base) : Own base (w.setCell p u) v l :=
  ownsRow_keep h (fun b hb => Below.heap_setCell w p u b (by have := (ownsRow_lt h hb).1; omega))
theorem size_set (w : World) (p : Addr) (v : Value) : (w.setCell p v).heap.size = w.heap.size := by simp [World.setCell]
theorem rcut_end {i t m : Nat} {k : Int} {last : Bool} {x : Bs} {w wr : World} {A0 : Option Addr} {c0 : Nat} {b0 b1 b2 b3 b4 : Value} (HV : Own (w.heap.size + 2) wr (.slice A0 m c0) x) (HX : x.length = m) (HZ : wr.heap[w.heap.size]? = some (.cells #[b0, b1, b2, b3, b4] tR (0, 0))) (HB : Below w.heap.size w wr) :
    ((((((wr.setCell ⟨w.heap.size + 1, 3, none⟩ (.bool last)).setCell ⟨w.heap.size, 0, none⟩ (.int .u64 (i : Nat))).setCell ⟨w.heap.size, 1, none⟩ (.int .u64 (t : Nat))).setCell ⟨w.heap.size, 2, none⟩ (.int .i64 k)).setCell ⟨w.heap.size, 3, none⟩ (.bool last)).setCell ⟨w.heap.size, 4, none⟩ (.slice A0 m c0)).heap[w.heap.size]? = some (.cells #[.int .u64 (i : Nat), .int .u64 (t : Nat), .int .i64 k, .bool last, .slice A0 m c0] tR (0, 0)) ∧
    CutPost ⟨i, t, k, last, x⟩ 0 w (.returned (.tuple #[.agg #[.int .u64 (i : Nat), .int .u64 (t : Nat), .int .i64 k, .bool last, .slice A0 m c0], .int .i64 0])) ((((((wr.setCell ⟨w.heap.size + 1, 3, none⟩ (.bool last)).setCell ⟨w.heap.size, 0, none⟩ (.int .u64 (i : Nat))).setCell ⟨w.heap.size, 1, none⟩ (.int .u64 (t : Nat))).setCell ⟨w.heap.size, 2, none⟩ (.int .i64 k)).setCell ⟨w.heap.size, 3, none⟩ (.bool last)).setCell ⟨w.heap.size, 4, none⟩ (.slice A0 m c0)) := by
  have h0 : (wr.setCell ⟨w.heap.size + 1, 3, none⟩ (.bool last)).heap[w.heap.size]? = some (.cells #[b0, b1, b2, b3, b4] tR (0, 0)) := (Below.heap_setCell _ _ _ _ (by show w.heap.size ≠ w.heap.size + 1; omega)).trans HZ
  refine ⟨rset5 h0 _ _ _ _ _, ?_⟩
  subst HX
  have hk5 := kept5 (w := wr.setCell ⟨w.heap.size + 1, 3, none⟩ (.bool last)) w.heap.size (.int .u64 (i : Nat)) (.int .u64 (t : Nat)) (.int .i64 k) (.bool last) (.slice A0 x.length c0)
  have HV1 := own_off (u := .bool last) HV (show (⟨w.heap.size + 1, 3, none⟩ : Addr).block < w.heap.size + 2 from Nat.lt_succ_self _)
  have HB1 := HB.setCell (p := ⟨w.heap.size + 1, 3, none⟩) (by show w.heap.size ≤ w.heap.size + 1; omega) (.bool last)
  refine ⟨A0, c0, rfl, own_more (ownsRow_keep HV1 fun b hb => hk5.block b (ownsRow_lt HV1 hb).2 (fun e => ?_)) (Nat.le_add_right _ 2), HB1.trans (hk5.below HB1.size (fun b hb => by rw [hb]; exact Nat.le_refl _))⟩
  have h1 := (ownsRow_lt HV hb).1
  have e : b = w.heap.size := e
  omega
set_option maxRecDepth 100000 in
set_option maxHeartbeats 3200000 in
theorem rcut_in (i t : Nat) (A : Option Addr) (n c k : Nat) (l : Bs) (w : World) (hn : n = l.length) (hk : k ≤ n) (hm : n ≤ 140737488355328) (hA : Lies w w.heap.size A l) : Calls Try.prog 9 #[.int .u64 (i : Nat), .int .u64 (t : Nat), .slice A n c, .int .i64 (k : Int)] w (CutPost (cutP l i t k) 0 w) := by
  obtain ⟨w1, hw1⟩ : ∃ w1, w1 = w.alloc (.cells #[.int .u64 0, .int .u64 0, .int .i64 0, .bool false, .slice none 0 0] tR) := ⟨_, rfl⟩
  have hb1 : Below w.heap.size w w1 := by rw [hw1]; exact (Below.refl _ _).alloc (Nat.le_refl _) _
  have hr1 : w1.heap[w.heap.size]? = some (.cells #[.int .u64 0, .int .u64 0, .int .i64 0, .bool false, .slice none 0 0] tR (0, 0)) := by rw [hw1]; exact heap_alloc_new w _
  obtain ⟨w2, hw2⟩ : ∃ w2, w2 = w1.alloc (.cells #[.int .u64 (i : Nat), .int .u64 (t : Nat), .int .i64 (k : Int), .bool false, .slice none 0 0] tR) := ⟨_, rfl⟩
  have hz1 : w1.heap.size = w.heap.size + 1 := by rw [hw1, World.size_alloc]
  have hz2 : w2.heap.size = w.heap.size + 2 := by rw [hw2, World.size_alloc, hz1]
  have hb2 : Below w.heap.size w w2 := by rw [hw2]; exact hb1.alloc hb1.size _
  have hr2 : w2.heap[w.heap.size]? = some (.cells #[.int .u64 0, .int .u64 0, .int .i64 0, .bool false, .slice none 0 0] tR (0, 0)) := by rw [hw2]; exact (heap_alloc_old w1 _ (row_lt hr1)).trans hr1
  have hp2 : w2.heap[w.heap.size + 1]? = some (.cells #[.int .u64 (i : Nat), .int .u64 (t : Nat), .int .i64 (k : Int), .bool false, .slice none 0 0] tR (0, 0)) := by rw [hw2, ← hz1]; exact heap_alloc_new w1 _
  have HREL := Lib.hid (And.intro hr2 (And.intro hp2 hb2))
  have HZ1 := Lib.hid hz1
  have HW1 := Lib.hid hw1
  have HW2 := Lib.hid hw2
  have HZ2 := Lib.hid hz2
  have HA := Lib.hid hA
  have HN := Lib.hid hn
  have hk0 : ¬ ((k : Int) < 0) := by omega
  have hkn : ¬ ((n : Int) < (k : Int)) := by omega
  have hki : (k : Int) ≤ (n : Int) := by omega
  have hni : (n : Int) ≤ 140737488355328 := by omega
  clear hw1 hw2 hb1 hb2 hr1 hr2 hp2 hz1 hz2 hA hn
  go_enter Try.func9, Try.ntmps9
  go_upto_region 4 with fail
  rw [← HW1.out, ← HW2.out]
  go_wp2
  go_loopw [11] (fun x wr => ∃ (s m : Nat) (v : Value), s = k + m ∧ s ≤ n ∧ m ≤ 256 ∧ x = .int .i64 (s : Int) ∧ wr.heap[w.heap.size]? = some (.cells #[.int .u64 0, .int .u64 0, .int .i64 0, .bool false, .slice none 0 0] tR (0, 0)) ∧ wr.heap[w.heap.size + 1]? = some (.cells #[.int .u64 (i : Nat), .int .u64 (t : Nat), .int .i64 (k : Int), .bool false, v] tR (0, 0)) ∧ Own (w.heap.size + 2) wr v ((l.drop k).take m) ∧ Below w.heap.size w wr ∧ w.heap.size + 2 ≤ wr.heap.size) (fun x _ => n - (intOf x).toNat)
  case atStart => exact ⟨k, 0, .slice none 0 0, rfl, hk, Nat.zero_le _, rfl, HREL.out.1, HREL.out.2.1, by simpa using Own.nil _ _, HREL.out.2.2, Nat.le_of_eq HZ2.out.symm⟩
  case round =>
    obtain ⟨s, m, v, hs, hsn, hm6, rfl, hz, hp, hv, hbr, hwz⟩ := hrel
    have hxl : ((l.drop k).take m).length = m := by rw [List.length_take, List.length_drop, ← HN.out]; omega
    obtain ⟨A0, c0, hve, -⟩ := hv.form
    rw [hxl] at hve
    subst hve
    obtain ⟨x, hx⟩ : ∃ x, x = (l.drop k).take m := ⟨_, rfl⟩
    rw [← hx] at hv hxl
    obtain ⟨p0, p1, p2, p3, p4⟩ := rcells hp
    have HZ := Lib.hid hz
    have HP := Lib.hid hp
    have HV := Lib.hid hv
    have HBR := Lib.hid hbr
    have HX := Lib.hid hx
    have HXL := Lib.hid hxl
    have HS := Lib.hid hs
    have HWZ := Lib.hid hwz
    have hks : (k : Int) ≤ (s : Int) := by omega
    by_cases hlt : s < n ∧ m < 256
    · obtain ⟨hsl, hml⟩ := hlt
      have hsl2 : s < l.length := by rw [← HN.out]; exact hsl
      obtain ⟨g, o, hAe, hg, hcell⟩ := (HA.out.below hbr).at_ hsl2
      subst hAe
      have h1 : (s : Int) < (n : Int) := by omega
      have h2 : (s : Int) - (k : Int) < 256 := by omega
      obtain ⟨by_, hby⟩ : ∃ y, y = l[s] := ⟨_, rfl⟩
      rw [← hby] at hcell
      have HBY := Lib.hid (show x ++ [by_] = (l.drop k).take (m + 1) by
        rw [hx, hby]
        have := take_next (k := k) (s := s) (by omega) hsl2
        rw [show s + 1 - k = m + 1 by omega, show s - k = m by omega] at this
        exact this.symm)
      have HOWN := Lib.hid (show Own (w.heap.size + 2) (wr.alloc (.cells #[.int .u8 (by_.toNat : Int)] 5)).drew (.slice A0 m c0) x from hv.alloc _)
      have HLA := Lib.hid (show Lies (wr.alloc (.cells #[.int .u8 (by_.toNat : Int)] 5)).drew (wr.heap.size + 1) (some ⟨wr.heap.size, 0, none⟩) [by_] from Lies.one wr _ by_ rfl)
      have HZA := Lib.hid (show w.heap.size + 2 ≤ (wr.alloc (.cells #[.int .u8 (by_.toNat : Int)] 5)).drew.heap.size by show _ ≤ (wr.alloc _).heap.size; simp; omega)
      have HBA := Lib.hid (show Below (w.heap.size + 2) wr (wr.alloc (.cells #[.int .u8 (by_.toNat : Int)] 5)).drew from ((Below.refl _ _).alloc hwz _).drew)
      have hpa : (wr.alloc (.cells #[.int .u8 (by_.toNat : Int)] 5)).cell? ⟨w.heap.size + 1, 4, none⟩ = some (.slice A0 m c0) := (World.cell?_alloc_lt wr _ ⟨w.heap.size + 1, 4, none⟩ (row_lt hp)).trans p4
      clear hz hp hv hbr hx hxl hs hwz hml hby
      go_upto_region 7 with fail
      go_region_law (first
        | (refine step_app rfl (.tmp 39) (.tmp 44) rfl (v := .slice A0 m c0) (by simp [Act.eval]) HOWN.out (A := some ⟨wr.heap.size, 0, none⟩) (m := 1) (c := 1) (by simp [Act.eval]) rfl HLA.out (by rw [HXL.out]; simp; omega) HZA.out ?_
           intro v3 w3 ho3 hb3 hg3
           rw [HBY.out] at ho3
           have hxl3 : ((l.drop k).take (m + 1)).length = m + 1 := by rw [← HBY.out, List.length_append, HXL.out]; rfl
           obtain ⟨A3, c3, hv3, -⟩ := ho3.form
           rw [hxl3] at hv3
           subst hv3
           have hb3' := HBA.out.trans hb3
           have hp3 := (hb3'.block (w.heap.size + 1) (by omega)).trans HP.out
           have hf3 : w3.frozen? ⟨w.heap.size + 1, 4, none⟩ = false := frozen_of_row w3 _ 4 _ _ hp3
           have hc3 : w3.cell? ⟨w.heap.size + 1, 4, none⟩ = some (.slice A0 m c0) := (rcells hp3).2.2.2.2
           have HO3 := Lib.hid ho3
           have HB3 := Lib.hid hb3'
           clear ho3 hb3 hg3 hp3 hb3'))
      all_goals
        go_wp2
        go_roundw
        case rel => exact ⟨s + 1, m + 1, _, by have := HS.out; omega, by omega, by have := HS.out; omega, by go_num, (Below.heap_setCell _ _ _ _ (by show w.heap.size ≠ w.heap.size + 1; omega)).trans ((HB3.out.block w.heap.size (by omega)).trans HZ.out), Go.heap_setCell_same _ _ 4 _ _ _ ((HB3.out.block (w.heap.size + 1) (by omega)).trans HP.out), own_off HO3.out (by show w.heap.size + 1 < _; omega), (HBR.out.trans (HB3.out.mono (by omega))).setCell (by show w.heap.size ≤ w.heap.size + 1; omega) _, by rw [size_set]; exact Nat.le_trans HWZ.out HB3.out.size⟩
        case measure => simp [intOf]; omega
    · obtain ⟨z0, z1, z2, z3, z4⟩ := rcells hz
      have fz : ∀ j, wr.frozen? ⟨w.heap.size, j, none⟩ = false := fun j => frozen_of_row wr _ j _ _ hz
      have fp : ∀ j, wr.frozen? ⟨w.heap.size + 1, j, none⟩ = false := fun j => frozen_of_row wr _ j _ _ hp
      have hmi : (m : Int) ≤ 256 := by omega
      rcases Nat.lt_or_ge s n with hsl | hsl
      · have hm256 : m = 256 := by omega
        have h1 : (s : Int) < (n : Int) := by omega
        have h2 : ¬ ((s : Int) - (k : Int) < 256) := by omega
        have hq : ((k : Int) + (m : Int) == (n : Int)) = false := beq_eq_false_iff_ne.2 (by omega)
        have hcp : cutP l i t k = ⟨i, t, (k : Int), false, x⟩ := by
          unfold cutP
          rw [decide_eq_false (by rw [← HN.out]; omega), hx, hm256]
        have HCP := Lib.hid hcp
        clear hz hp hv hbr hx hxl hs hwz hlt hcp hm256 hsl
        go_wp2
        have HE := rcut_end HV.out HXL.out HZ.out HBR.out (i := i) (t := t) (k := (k : Int)) (last := false)
        rw [← HCP.out] at HE
        exact bodyPost_ret (rret_cut rfl rfl HE.1) rfl HE.2
      · have h1 : ¬ ((s : Int) < (n : Int)) := by omega
        have hq : ((k : Int) + (m : Int) == (n : Int)) = true := beq_iff_eq.2 (by omega)
        have hcp : cutP l i t k = ⟨i, t, (k : Int), true, x⟩ := by
          unfold cutP
          rw [decide_eq_true (by rw [← HN.out]; omega), hx, List.take_of_length_le (by rw [List.length_drop, ← HN.out]; omega), List.take_of_length_le (by rw [List.length_drop, ← HN.out]; omega)]
        have HCP := Lib.hid hcp
        clear hz hp hv hbr hx hxl hs hwz hlt hcp hsl
        go_wp2
        have HE := rcut_end HV.out HXL.out HZ.out HBR.out (i := i) (t := t) (k := (k : Int)) (last := true)
        rw [← HCP.out] at HE
        exact bodyPost_ret (rret_cut rfl rfl HE.1) rfl HE.2
end Go.Proofs.Ytjafgkehkigclaa.Sn
