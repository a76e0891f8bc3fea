/- The law ClockDrift, walked. -/
import Derived.Test.YthpcmcnkiiebkaaCkO
import Derived.Deep.DeepCutAuto
namespace Go.Proofs.Ythpcmcnkiiebkaa.Ck
open Go.RowKit Go.Maps By Mp SumP SumW

set_option maxRecDepth 100000 in
set_option maxHeartbeats 2000000 in
theorem drift_bad (rho f : Int) (A : Option Addr) (c : Nat) (l : List A9) (w : World) (hr : ¬ okNew 3 2 rho) : Calls Try.prog 4 #[.int .i64 rho, .slice A l.length c, .int .u8 f] w (True_ w) := by
  have HN : Hid (Calls Try.prog 7 #[.int .i64 3, .int .i64 2, .int .i64 rho] w (Ret (.tuple #[.pointer none, .int .i64 1]) w)) := Lib.hid (new_bad 3 2 rho hr w)
  have HA := Lib.hid (answers_any w)
  have q1 := ptrTest
  clear hr
  go_enter Try.func4, Try.ntmps4
  go_wp2_with fail
  refine HN.out.mono ?_
  rintro e w' ⟨rfl, rfl⟩
  go_wp2_with fail
  refine HA.out.mono ?_
  rintro e w2 ⟨rfl, hb2⟩
  have HB2 := Lib.hid hb2
  have HA2 := Lib.hid (answers_any w2)
  clear hb2 HA HN
  go_wp2_with fail
  refine HA2.out.mono ?_
  rintro e w3 ⟨rfl, hb3⟩
  have HB3 := Lib.hid (By.ext HB2.out hb3)
  clear hb3
  go_wp2
  go_ret
  exact ⟨rfl, HB3.out⟩
/-- The ends that the law looks at, by their places in its list. -/
def endsL : List Int := [1, 2, 3, -1, -2]
/-- Where the law looks, in its order. -/
theorem ends_at (j : Nat) (hj : j < 5) : ∃ e : Int, endsL[j]? = some e ∧ atF 3 2 e = j ∧ -16 ≤ e ∧ e ≤ 16 := by
  have : j = 0 ∨ j = 1 ∨ j = 2 ∨ j = 3 ∨ j = 4 := by omega
  rcases this with rfl | rfl | rfl | rfl | rfl
  · exact ⟨1, rfl, by decide, by decide, by decide⟩
  · exact ⟨2, rfl, by decide, by decide, by decide⟩
  · exact ⟨3, rfl, by decide, by decide, by decide⟩
  · exact ⟨-1, rfl, by decide, by decide, by decide⟩
  · exact ⟨-2, rfl, by decide, by decide, by decide⟩
abbrev tArr5 : TypeId := 38
/-- Clocks that pass, beside what they showed once, and the ends that are looked at. -/
structure Lab (w : World) (g b5 be : Nat) (rho : Int) (k : Nat) (p : C9) (S : Nat → Prop) (t0 : List Int) (wr : World) : Prop where
  runs : Runs w g 3 2 rho k p S wr
  at5 : wr.heap[b5]? = some (.cells (t0.map iv).toArray tArr5 (0, 0))
  ends : wr.heap[be]? = some (.cells (endsL.map iv).toArray tInt (0, 0))
  len : t0.length = 5
  sep : ∀ b, S b → b ≠ b5 ∧ b ≠ be
  hb : w.heap.size ≤ b5
  ne : b5 ≠ be
theorem Lab.cell5 {w wr : World} {g b5 be k j : Nat} {rho x : Int} {p : C9} {S : Nat → Prop} {t0 : List Int} (h : Lab w g b5 be rho k p S t0 wr) (hx : t0[j]? = some x) : wr.cell? ⟨b5, j, none⟩ = some (.int .i64 x) := by
  rw [cell_of_row wr b5 j _ _ _ h.at5]
  simp [hx, iv]
theorem Lab.cellE {w wr : World} {g b5 be k j : Nat} {rho x : Int} {p : C9} {S : Nat → Prop} {t0 : List Int} (h : Lab w g b5 be rho k p S t0 wr) (hx : endsL[j]? = some x) : wr.cell? ⟨be, j, none⟩ = some (.int .i64 x) := by
  rw [cell_of_row wr be j _ _ _ h.ends]
  simp [hx, iv]
theorem Lab.set {w wr : World} {g b5 be k : Nat} {rho : Int} {p : C9} {S : Nat → Prop} {t0 : List Int} (h : Lab w g b5 be rho k p S t0 wr) (j : Nat) (x : Int) : Lab w g b5 be rho k p S (t0.set j x) (wr.setCell ⟨b5, j, none⟩ (.int .i64 x)) := by
  have hr := h.runs
  refine ⟨⟨hr.clk.keep (fun b hb => heap_setCell_other wr ⟨b5, j, none⟩ b _ (h.sep b hb).1) (by simp [World.setCell]), hr.s, hr.below.setCell (by exact h.hb) _, hr.nodes, hr.edges, hr.rho, hr.still, hr.real⟩, ?_, ?_, by simpa using h.len, h.sep, h.hb, h.ne⟩
  · rw [heap_setCell_same _ b5 j _ _ _ h.at5]
    simp [iv, List.map_set]
  · exact (heap_setCell_other wr ⟨b5, j, none⟩ be _ (Ne.symm h.ne)).trans h.ends
theorem Lab.skip {w wr w2 : World} {g b5 be k : Nat} {rho : Int} {p : C9} {S : Nat → Prop} {t0 : List Int} (h : Lab w g b5 be rho k p S t0 wr) (hb : Below wr.heap.size wr w2) : Lab w g b5 be rho (k + 1) p S t0 w2 :=
  ⟨h.runs.skip hb, (hb.block b5 (row_lt h.at5)).trans h.at5, (hb.block be (row_lt h.ends)).trans h.ends, h.len, h.sep, h.hb, h.ne⟩
theorem Lab.step {w wr w2 : World} {g b5 be k : Nat} {rho n d : Int} {p : C9} {S S2 : Nat → Prop} {t0 : List Int} (h : Lab w g b5 be rho k p S t0 wr) (hn : n ≤ 1000000) (h2 : ClkIs w2 g (passC p n d) S2) (hs : ∀ b, S2 b → S b ∨ wr.heap.size ≤ b) (hk : Kept S wr w2) : Lab w g b5 be rho (k + 1) (passC p n d) S2 t0 w2 := by
  have l5 := row_lt h.at5
  have le := row_lt h.ends
  refine ⟨h.runs.step hn h2 hs hk, (hk.block b5 l5 (fun e => (h.sep b5 e).1 rfl)).trans h.at5, (hk.block be le (fun e => (h.sep be e).2 rfl)).trans h.ends, h.len, fun b hb => ?_, h.hb, h.ne⟩
  rcases hs b hb with e | e
  · exact h.sep b e
  · exact ⟨by omega, by omega⟩
theorem Lab.born {w w2 : World} {g : Nat} {rho : Int} {S : Nat → Prop} (h : Runs w g 3 2 rho 0 (begun 3 2 rho) S w2) :
    Lab w g w2.heap.size (w2.heap.size + 1) rho 0 (begun 3 2 rho) S (begun 3 2 rho).t ((w2.alloc (.cells #[.int .i64 0, .int .i64 0, .int .i64 0, .int .i64 0, .int .i64 0] tArr5)).alloc (.cells #[.int .i64 1, .int .i64 2, .int .i64 3, .int .i64 (-1), .int .i64 (-2)] tInt)) := by
  refine ⟨h.more (((Below.refl _ _).alloc (Nat.le_refl _) _).alloc (by simp) _), ?_, ?_, rfl, fun b hb => ?_, h.below.size, by omega⟩
  · rw [heap_alloc_old _ _ (by simp), heap_alloc_new w2 _]; rfl
  · have := heap_alloc_new (w2.alloc (.cells #[.int .i64 0, .int .i64 0, .int .i64 0, .int .i64 0, .int .i64 0] tArr5)) (.cells #[.int .i64 1, .int .i64 2, .int .i64 3, .int .i64 (-1), .int .i64 (-2)] tInt)
    rw [World.size_alloc] at this
    exact this
  · have := h.clk.lt b hb
    exact ⟨by omega, by omega⟩
/-- What the law reckons with is small. -/
theorem small {p0 p : C9} {rho : Int} {k i : Nat} {x0 x : Int} (h : Drift p0 p) (h0 : 0 ≤ p0.real) (hp : p.real ≤ k * 1000000) (hk : k ≤ 100) (hr0 : 0 ≤ rho) (hr1 : rho ≤ 500000) (hr : p.rho = rho) (hx0 : p0.t[i]? = some x0) (hx : p.t[i]? = some x) :
    0 ≤ p.real - p0.real ∧ p.real - p0.real ≤ 100000000 ∧ 0 ≤ x - x0 ∧ x - x0 ≤ 150000000 ∧ 0 ≤ (p.real - p0.real) * (1000000 + rho) ∧ (p.real - p0.real) * (1000000 + rho) ≤ 150000000000000 ∧ 0 ≤ (x - x0) * (1000000 + rho) ∧ (x - x0) * (1000000 + rho) ≤ 225000000000000 ∧
      (x - x0) * 1000000 ≤ (p.real - p0.real) * (1000000 + rho) ∧ (p.real - p0.real) * 1000000 ≤ (x - x0) * (1000000 + rho) := by
  obtain ⟨a1, a2, a3⟩ := h.2 i x0 x hx0 hx
  rw [hr] at a2 a3
  have h1 := h.1
  have e1 : p.real - p0.real ≤ 100000000 := by omega
  have q1 := prod_in (show 0 ≤ p.real - p0.real by omega) e1 (show 0 ≤ 1000000 + rho by omega) (show 1000000 + rho ≤ 1500000 by omega)
  have e2 : x - x0 ≤ 150000000 := by omega
  have q2 := prod_in (show 0 ≤ x - x0 by omega) e2 (show 0 ≤ 1000000 + rho by omega) (show 1000000 + rho ≤ 1500000 by omega)
  omega
set_option maxRecDepth 100000 in
set_option maxHeartbeats 2000000 in
theorem drift_ok (rho f : Int) (f0 : 0 ≤ f) (f1 : f ≤ 255) (A : Option Addr) (c : Nat) (l : List A9) (w : World) (hl : LiesA w w.heap.size A l) (ho : ActsOk l) (hlm : l.length ≤ 140737488355328) (hr : okNew 3 2 rho) : Calls Try.prog 4 #[.int .i64 rho, .slice A l.length c, .int .u8 f] w (True_ w) := by
  have HN : Hid (Calls Try.prog 7 #[.int .i64 3, .int .i64 2, .int .i64 rho] w (GivesNew 3 2 rho w)) := Lib.hid (new_good 3 2 rho hr w)
  have HL := Lib.hid hl
  have HO := Lib.hid ho
  have HRH := Lib.hid hr
  have q1 := ptrTest
  have hlm2 : (l.length : Int) ≤ 140737488355328 := by omega
  clear hl ho hlm hr
  go_enter Try.func4, Try.ntmps4
  go_wp2_with fail
  refine HN.out.mono ?_
  rintro e w1 ⟨g, S, rfl, hc, hs, hb1⟩
  have HA := Lib.hid (answers_any w1)
  have HR1 := Lib.hid (Runs.born hc hs hb1)
  clear hc hs hb1 HN
  go_wp2_with fail
  refine HA.out.mono ?_
  rintro e w2 ⟨rfl, hb2⟩
  have HR2 := Lib.hid (HR1.out.more hb2)
  clear hb2 HA HR1
  have hlab := Lab.born HR2.out
  obtain ⟨b5, hb5⟩ : ∃ b5, b5 = w2.heap.size := ⟨_, rfl⟩
  obtain ⟨be, hbe⟩ : ∃ be, be = b5 + 1 := ⟨_, rfl⟩
  rw [← hb5, ← hbe] at hlab
  obtain ⟨w5, hw5⟩ : ∃ w5, w5 = (w2.alloc (.cells #[.int .i64 0, .int .i64 0, .int .i64 0, .int .i64 0, .int .i64 0] tArr5)).alloc (.cells #[.int .i64 1, .int .i64 2, .int .i64 3, .int .i64 (-1), .int .i64 (-2)] tInt) := ⟨_, rfl⟩
  rw [← hw5] at hlab
  have HLAB := Lib.hid hlab
  clear HR2 hlab
  go_wp2
  rw [← hb5, ← hbe, ← hw5]
  clear hb5 hbe hw5
  go_loopw [10, 12] (fun bg i wr => ∃ (k : Nat) (p p0 : C9) (S : Nat → Prop), k ≤ l.length ∧ k ≤ 100 ∧ bg = .int .i64 p0.real ∧ i = .int .i64 (k : Int) ∧ Lab w g b5 be rho k p S p0.t wr ∧ Drift p0 p ∧ p0.Ok) (fun _ i _ => l.length - (intOf i).toNat)
  case atStart => exact ⟨0, _, begun 3 2 rho, _, Nat.zero_le _, by omega, rfl, rfl, HLAB.out, Drift.refl _, HLAB.out.runs.clk.ok⟩
  case round =>
    clear HLAB
    obtain ⟨k, p, p0, S, hk, hk2, rfl, rfl, hlab, hdf, hok0⟩ := hrel
    have HLAB := Lib.hid hlab
    have HDF := Lib.hid (And.intro hdf hok0)
    clear hlab hdf hok0
    by_cases hlt : k < l.length
    · by_cases h100 : (k : Int) < 100
      · obtain ⟨x, hx⟩ : ∃ x, l[k]? = some x := ⟨_, List.getElem?_eq_getElem hlt⟩
        have HX := Lib.hid hx
        obtain ⟨ag, ao, rfl, hag, -, -, -, -⟩ := (HL.out.below HLAB.out.runs.below).at_ hx
        clear hx
        obtain ⟨wo, rfl⟩ : ∃ wo : World, wo = wr := ⟨_, rfl⟩
        go_upto_if 49 with fail
        go_cut [10] (fun bg wx => ∃ q0 : C9, bg = .int .i64 q0.real ∧ Lab w g b5 be rho k p S q0.t wx ∧ Drift q0 p ∧ q0.Ok)
        case first =>
          by_cases hkf : (k : Int) = f
          · have hkf2 : ((k : Int) == f) = true := beq_iff_eq.2 hkf
            have HTR := Lib.hid (true_any HLAB.out.runs.clk)
            clear hkf
            go_wp2_with (go_at_call 13; refine HTR.out.mono ?_; rintro e w3 ⟨rfl, rfl⟩)
            go_loopw [13] (fun i wr => ∃ (j : Nat) (l5 : List Int), j ≤ 5 ∧ i = .int .i64 (j : Int) ∧ Lab w g b5 be rho k p S l5 wr ∧ l5.take j = p.t.take j) (fun i _ => 5 - (intOf i).toNat)
            case atStart => exact ⟨0, _, by omega, rfl, HLAB.out, rfl⟩
            case round =>
              clear HLAB HTR
              obtain ⟨j, l5, hj, rfl, hlab, htk⟩ := hrel
              have HLAB := Lib.hid hlab
              have HTK := Lib.hid htk
              by_cases hj5 : (j : Int) < 5
              · obtain ⟨e, he1, he2, he3, he4⟩ := ends_at j (by omega)
                obtain ⟨t1, t2⟩ := time_two hlab.runs.clk.ok hlab.runs.nodes hlab.runs.edges he2
                have ce := hlab.cellE he1
                have c5 : ∃ y, wr.cell? ⟨b5, j, none⟩ = some (.int .i64 y) := ⟨_, hlab.cell5 (List.getElem?_eq_getElem (show j < l5.length by rw [hlab.len]; omega))⟩
                obtain ⟨y, c5⟩ := c5
                have f5 : wr.frozen? ⟨b5, j, none⟩ = false := frozen_of_row wr b5 j _ _ hlab.at5
                have HN := Lib.hid (now_any hlab.runs.clk e (by omega) (by omega))
                rw [t2] at HN
                have HS := Lib.hid (hlab.set j (p.time e))
                have HTK2 := Lib.hid (show (l5.set j (p.time e)).take (j + 1) = p.t.take (j + 1) by
                  rw [List.take_add_one, List.take_add_one, t1, List.getElem?_set_self (by rw [hlab.len]; omega), List.take_set_of_le (Nat.le_refl _), htk])
                clear hlab htk t1 t2 he1 he2
                generalize p.time e = z at *
                go_wp2_with (go_at_call 14; refine HN.out.mono ?_; rintro e9 w3 ⟨rfl, rfl⟩)
                go_roundw
                case rel => exact ⟨j + 1, _, by omega, by go_num, HS.out, HTK2.out⟩
                case measure => simp [intOf]; omega
              · have hlen := hlab.runs.clk.ok.len
                rw [hlab.runs.nodes, hlab.runs.edges] at hlen
                have hl5 := hlab.len
                obtain rfl : l5 = p.t := by rwa [List.take_of_length_le (by omega), List.take_of_length_le (by omega)] at htk
                clear hlab htk hlen hl5
                go_wp2
                go_meet
                exact ⟨p, rfl, HLAB.out, Drift.refl _, HLAB.out.runs.clk.ok⟩
          · have hkf2 : ((k : Int) == f) = false := beq_eq_false_iff_ne.2 hkf
            go_wp2
            go_meet
            exact ⟨p0, rfl, HLAB.out, HDF.out.1, HDF.out.2⟩
        case rest =>
          clear HLAB HDF
          obtain ⟨q0, rfl, hlab, hdf, hok0⟩ := hcut
          have HLAB := Lib.hid hlab
          have HDF := Lib.hid (And.intro hdf hok0)
          clear hlab hdf hok0
          have HALL := Lib.hid (show ∀ w', Kept S wc w' → w'.cell? ⟨ag, ao + k * 4 + 2, none⟩ = some (.int .i64 x.n) ∧ w'.cell? ⟨ag, ao + k * 4 + 3, none⟩ = some (.int .u64 x.d) from fun w' hk => by
            have hr := HLAB.out.runs
            obtain ⟨ag2, ao2, e2, -, -, -, d2, d3⟩ := (HL.out.below (hr.below.trans (hk.below hr.below.size hr.s))).at_ HX.out
            injection e2 with e2
            injection e2 with e2 e3
            subst e2 e3
            exact ⟨d2, d3⟩)
          obtain ⟨E, hE⟩ : ∃ E : Int, E = passE p x.n x.d := ⟨_, rfl⟩
          have hxd := (HO.out x (List.mem_of_getElem? HX.out)).d
          have HP := Lib.hid (show ∀ w', Below wc.heap.size wc w' → Calls Try.prog 15 #[.pointer (some ⟨g, 0, none⟩), .int .i64 x.n, .int .u64 x.d] w' (CStep (.int .i64 E) g (passC p x.n x.d) S w') from fun w' hb => by
            rw [hE]
            exact pass_any (HLAB.out.runs.clk.below hb) x.n x.d hxd.1 hxd.2)
          clear hE hxd
          by_cases hbig : 1000000 < x.n
          · obtain ⟨c2, c3⟩ := HALL.out wc (Kept.refl _ _)
            have hd : decide (1000000 < x.n) = true := decide_eq_true hbig
            go_upto_region 16 with fail
            go_quiet (fail)
            go_wp2
            go_roundw
            case rel => exact ⟨k + 1, p, q0, S, by omega, by omega, rfl, by go_num, HLAB.out.skip (below_drewN _ _), HDF.out.1, HDF.out.2⟩
            case measure => simp [intOf]; omega
          · obtain ⟨c2, c3⟩ := HALL.out wc (Kept.refl _ _)
            have hd : decide (1000000 < x.n) = false := decide_eq_false hbig
            go_upto_region 16 with fail
            have HB0 := Lib.hid (show Below wc.heap.size wc wc.drew from (Below.refl _ _).drew)
            go_region_held3 (fun w' => w'.cell? ⟨ag, ao + k * 4 + 2, none⟩ = some (.int .i64 x.n) ∧ w'.cell? ⟨ag, ao + k * 4 + 3, none⟩ = some (.int .u64 x.d))
              (first
                | with_reducible assumption
                | with_reducible exact HALL.out _ (Kept.of_below HB0.out)
                | with_reducible exact HALL.out _ HK2.out)
              (first
                | (go_at_call 15; refine (HP.out _ HB0.out).mono ?_; rintro e wx ⟨rfl, S2, hc2, hs2, hk2⟩
                   have HK2 := Lib.hid (Kept.step (M := S) (Kept.of_below HB0.out) hk2 (fun b _ e => e))
                   have HX2 := Lib.hid (And.intro hc2 hs2)
                   clear hc2 hs2 hk2))
            have hlab := HLAB.out.step hbig HX2.out.1 HX2.out.2 HK2.out
            have hdf := HDF.out.1.pass HLAB.out.runs.clk.ok x.n x.d
            obtain ⟨q, hq⟩ : ∃ q, q = passC p x.n x.d := ⟨_, rfl⟩
            rw [← hq] at hlab hdf
            have HLAB2 := Lib.hid hlab
            have HDF2 := Lib.hid (And.intro hdf HDF.out.2)
            have HTR := Lib.hid (true_any hlab.runs.clk)
            clear hlab hdf hq HALL HP HX2 HK2 HLAB HDF HB0 c2 c3 hd
            by_cases hE0 : E = 0
            · subst hE0
              by_cases hkf : (k : Int) < f
              · go_wp2
                go_roundw
                case rel => exact ⟨k + 1, q, q0, S2, by omega, by omega, rfl, by go_num, HLAB2.out, HDF2.out.1, HDF2.out.2⟩
                case measure => simp [intOf]; omega
              · have hr1 : 0 ≤ q.real ∧ q.real ≤ 1152921504606846976 := HLAB2.out.runs.clk.ok.real
                have hr0 : 0 ≤ q0.real ∧ q0.real ≤ 1152921504606846976 := HDF2.out.2.real
                obtain ⟨R, hR⟩ : ∃ R, R = q.real - q0.real := ⟨_, rfl⟩
                have HRR := Lib.hid hR
                clear hR
                go_upto_region 19 with (go_at_call 13; refine HTR.out.mono ?_; rintro e w3 ⟨rfl, rfl⟩)
                rw [← HRR.out]
                clear HTR hkf hr1 hr0
                go_wp2
                go_loopw [15] (fun i wr => ∃ j : Nat, j ≤ 5 ∧ i = .int .i64 (j : Int) ∧ wr = wx) (fun i _ => 5 - (intOf i).toNat)
                case atStart => exact ⟨0, by omega, rfl, rfl⟩
                case round =>
                  obtain ⟨j, hj, rfl, hwx⟩ := hrel
                  subst hwx
                  by_cases hj5 : (j : Int) < 5
                  · obtain ⟨e, he1, he2, he3, he4⟩ := ends_at j (by omega)
                    have hrn := HLAB2.out.runs
                    obtain ⟨t1, t2⟩ := time_two hrn.clk.ok hrn.nodes hrn.edges he2
                    have ce := HLAB2.out.cellE he1
                    have hx0 : q0.t[j]? = some (q0.t.getD j 0) := by
                      rw [List.getD_eq_getElem?_getD, List.getElem?_eq_getElem (show j < q0.t.length by rw [HLAB2.out.len]; omega)]; rfl
                    have c5 := HLAB2.out.cell5 hx0
                    have hsm := small HDF2.out.1 HDF2.out.2.real.1 hrn.real (by omega) HRH.out.2.2.2.2.1 HRH.out.2.2.2.2.2 hrn.rho hx0 t1
                    have HN := Lib.hid (now_any hrn.clk e (by omega) (by omega))
                    rw [t2] at HN
                    have hxx := (hrn.clk.ok.ts _ (List.mem_of_getElem? t1))
                    have hyy := (HDF2.out.2.ts _ (List.mem_of_getElem? hx0))
                    have hx1 : 0 ≤ q.time e ∧ q.time e ≤ 1152921504606846976 := hxx
                    have hy1 : 0 ≤ q0.t.getD j 0 ∧ q0.t.getD j 0 ≤ 1152921504606846976 := hyy
                    rw [← HRR.out] at hsm
                    have hro0 : 0 ≤ rho := HRH.out.2.2.2.2.1
                    have hro1 : rho ≤ 500000 := HRH.out.2.2.2.2.2
                    clear hrn t1 t2 he1 he2 hx0 hxx hyy
                    generalize q.time e = z at *
                    generalize q0.t.getD j 0 = y at *
                    obtain ⟨s1, s2, s3, s4, s5, s6, s7, s8, s9, s10⟩ := hsm
                    go_wp2_with (go_at_call 14; refine HN.out.mono ?_; rintro e9 w3 ⟨rfl, rfl⟩)
                    go_roundw
                    case rel => exact ⟨j + 1, by omega, by go_num, by first | rfl | trivial⟩
                    case measure => simp [intOf]; omega
                  · go_wp2
                    go_roundw
                    case rel => exact ⟨k + 1, q, q0, S2, by omega, by omega, rfl, by go_num, HLAB2.out, HDF2.out.1, HDF2.out.2⟩
                    case measure => simp [intOf]; omega
            · have hne : (E != 0) = true := bne_iff_ne.2 hE0
              have hne2 : (E == 0) = false := beq_eq_false_iff_ne.2 hE0
              clear hE0
              go_wp2
              go_roundw
              case rel => exact ⟨k + 1, q, q0, S2, by omega, by omega, rfl, by go_num, HLAB2.out, HDF2.out.1, HDF2.out.2⟩
              case measure => simp [intOf]; omega
      · have hd1 : decide ((k : Int) < 100) = false := decide_eq_false h100
        have hd2 : decide (k < 100) = false := decide_eq_false (by omega)
        have HST := Lib.hid (steady_any HLAB.out.runs.clk)
        rw [HLAB.out.runs.still] at HST
        go_wp2_with (go_at_call 16; refine HST.out.mono ?_; rintro e w3 ⟨rfl, rfl⟩)
        go_ret
        exact ⟨rfl, HLAB.out.runs.below⟩
    · have hd1 : decide ((k : Int) < (l.length : Int)) = false := decide_eq_false (by omega)
      have hd2 : decide (k < l.length) = false := decide_eq_false hlt
      have HST := Lib.hid (steady_any HLAB.out.runs.clk)
      rw [HLAB.out.runs.still] at HST
      go_wp2_with (go_at_call 16; refine HST.out.mono ?_; rintro e w3 ⟨rfl, rfl⟩)
      go_ret
      exact ⟨rfl, HLAB.out.runs.below⟩
theorem drift_any (rho f : Int) (f0 : 0 ≤ f) (f1 : f ≤ 255) (A : Option Addr) (c : Nat) (l : List A9) (w : World) (hl : LiesA w w.heap.size A l) (ho : ActsOk l) (hlm : l.length ≤ 140737488355328) : Calls Try.prog 4 #[.int .i64 rho, .slice A l.length c, .int .u8 f] w (True_ w) := by
  by_cases hr : okNew 3 2 rho
  · exact drift_ok rho f f0 f1 A c l w hl ho hlm hr
  · exact drift_bad rho f A c l w hr
end Go.Proofs.Ythpcmcnkiiebkaa.Ck
