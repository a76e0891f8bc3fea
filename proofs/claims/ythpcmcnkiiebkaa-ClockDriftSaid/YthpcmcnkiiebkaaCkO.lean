/- The law ClockTrust, walked. -/
import Derived.Test.YthpcmcnkiiebkaaCkN
namespace Go.Proofs.Ythpcmcnkiiebkaa.Ck
open Go.RowKit Go.Maps By Mp SumP SumW

theorem time_two {q : C9} (h : q.Ok) {N M i : Nat} (hN : q.nodes = N) (hM : q.edges = M) {e : Int} (he : atF N M e = i) : q.t[i]? = some (q.time e) ∧ nowV q e = .tuple #[.int .i64 (q.time e), .int .i64 0] := by
  have hat : 0 ≤ atF q.nodes q.edges e := by rw [hN, hM, he]; omega
  refine ⟨?_, nowV_in hat⟩
  have := (h.time hat).1
  rwa [hN, hM, he, Int.toNat_natCast] at this
set_option maxRecDepth 100000 in
set_option maxHeartbeats 2000000 in
theorem trust_bad (rho t : Int) (A : Option Addr) (c : Nat) (l : List A9) (w : World) (hr : ¬ okNew 2 0 rho) : Calls Try.prog 5 #[.int .i64 rho, .int .i64 t, .slice A l.length c] w (True_ w) := by
  have HN : Hid (Calls Try.prog 7 #[.int .i64 2, .int .i64 0, .int .i64 rho] w (Ret (.tuple #[.pointer none, .int .i64 1]) w)) := Lib.hid (new_bad 2 0 rho hr w)
  have HA := Lib.hid (answers_any w)
  clear hr
  go_enter Try.func5, Try.ntmps5
  go_wp2_with fail
  refine HN.out.mono ?_
  rintro e w' ⟨rfl, rfl⟩
  go_wp2_with fail
  refine HA.out.mono ?_
  rintro e w2 ⟨rfl, hb2⟩
  have HB2 := Lib.hid hb2
  have HA2 := Lib.hid (answers_any w2)
  clear hb2 HA HN
  go_wp2_with fail
  refine HA2.out.mono ?_
  rintro e w3 ⟨rfl, hb3⟩
  have HB3 := Lib.hid (By.ext HB2.out hb3)
  clear hb3
  go_wp2
  go_ret
  exact ⟨rfl, HB3.out⟩
set_option maxRecDepth 100000 in
set_option maxHeartbeats 2000000 in
theorem trust_late (rho t : Int) (A : Option Addr) (c : Nat) (l : List A9) (w : World) (hr : okNew 2 0 rho) (ht : ¬ TameT t rho) : Calls Try.prog 5 #[.int .i64 rho, .int .i64 t, .slice A l.length c] w (True_ w) := by
  have HN : Hid (Calls Try.prog 7 #[.int .i64 2, .int .i64 0, .int .i64 rho] w (GivesNew 2 0 rho w)) := Lib.hid (new_good 2 0 rho hr w)
  have HB := Lib.hid (fun w => rbad_bad t rho ht w)
  clear hr ht
  go_enter Try.func5, Try.ntmps5
  go_wp2_with fail
  refine HN.out.mono ?_
  rintro e w1 ⟨g, S, rfl, hc, hs, hb1⟩
  have HA := Lib.hid (answers_any w1)
  have HB1 := Lib.hid hb1
  clear hc hs hb1 HN
  go_wp2_with fail
  refine HA.out.mono ?_
  rintro e w2 ⟨rfl, hb2⟩
  have HB2 := Lib.hid (By.ext HB1.out hb2)
  have HA2 := Lib.hid (answers_any w2)
  clear hb2 HA HB1
  go_wp2_with fail
  refine (HB.out _).mono ?_
  rintro e w' ⟨rfl, rfl⟩
  go_wp2_with fail
  refine HA2.out.mono ?_
  rintro e w3 ⟨rfl, hb3⟩
  have HB3 := Lib.hid (By.ext HB2.out hb3)
  clear hb3
  go_wp2
  go_ret
  exact ⟨rfl, HB3.out⟩
set_option maxRecDepth 100000 in
set_option maxHeartbeats 2000000 in
theorem trust_ok (rho t : Int) (A : Option Addr) (c : Nat) (l : List A9) (w : World) (hl : LiesA w w.heap.size A l) (ho : ActsOk l) (hlm : l.length ≤ 140737488355328) (hr : okNew 2 0 rho) (ht : TameT t rho) : Calls Try.prog 5 #[.int .i64 rho, .int .i64 t, .slice A l.length c] w (True_ w) := by
  have HN : Hid (Calls Try.prog 7 #[.int .i64 2, .int .i64 0, .int .i64 rho] w (GivesNew 2 0 rho w)) := Lib.hid (new_good 2 0 rho hr w)
  have HB := Lib.hid (fun w => rbad_good t rho ht w)
  have HG := Lib.hid (fun w => rguard_good t rho ht w)
  have HT := Lib.hid ht
  have HL := Lib.hid hl
  have HO := Lib.hid ho
  have hlm2 : (l.length : Int) ≤ 140737488355328 := by omega
  clear hr ht hl ho hlm
  go_enter Try.func5, Try.ntmps5
  go_wp2_with fail
  refine HN.out.mono ?_
  rintro e w1 ⟨g, S, rfl, hc, hs, hb1⟩
  have HA := Lib.hid (answers_any w1)
  have HR1 := Lib.hid (Runs.born hc hs hb1)
  clear hc hs hb1 HN
  go_wp2_with fail
  refine HA.out.mono ?_
  rintro e w2 ⟨rfl, hb2⟩
  have HR2 := Lib.hid (HR1.out.more hb2)
  clear hb2 HA HR1
  go_wp2_with fail
  refine (HB.out _).mono ?_
  rintro e w' ⟨rfl, rfl⟩
  go_wp2_with fail
  refine (HG.out _).mono ?_
  rintro e w3 ⟨rfl, ng, rfl⟩
  have HR3 := Lib.hid (HR2.out.more (below_drewN _ ng))
  obtain ⟨gd, hgd⟩ : ∃ gd, gd = guardF t rho := ⟨_, rfl⟩
  rw [← hgd]
  have HGD := Lib.hid hgd
  obtain ⟨w3, hw3⟩ : ∃ w3, w3 = w'.drewN ng := ⟨_, rfl⟩
  rw [← hw3] at HR3 ⊢
  clear HR2 HB HG hgd hw3
  go_wp2
  go_loopw [10] (fun i wr => ∃ (k : Nat) (p : C9) (S : Nat → Prop), k ≤ l.length ∧ k ≤ 100 ∧ i = .int .i64 (k : Int) ∧ Runs w g 2 0 rho k p S wr ∧ Drift (begun 2 0 rho) p) (fun i _ => l.length - (intOf i).toNat)
  case atStart => exact ⟨0, _, _, Nat.zero_le _, by omega, rfl, HR3.out, Drift.refl _⟩
  case round =>
    clear HR3
    obtain ⟨k, p, S, hk, hk2, rfl, hrn, hdf⟩ := hrel
    have HRN := Lib.hid hrn
    have HDF := Lib.hid hdf
    clear hrn hdf
    by_cases hlt : k < l.length
    · by_cases h100 : (k : Int) < 100
      · obtain ⟨x, hx⟩ : ∃ x, l[k]? = some x := ⟨_, List.getElem?_eq_getElem hlt⟩
        have HX := Lib.hid hx
        obtain ⟨ag, ao, rfl, hag, -, -, -, -⟩ := (HL.out.below HRN.out.below).at_ hx
        clear hx
        have HALL := Lib.hid (show ∀ w', Kept S wr w' → w'.cell? ⟨ag, ao + k * 4 + 2, none⟩ = some (.int .i64 x.n) ∧ w'.cell? ⟨ag, ao + k * 4 + 3, none⟩ = some (.int .u64 x.d) from fun w' hk => by
          obtain ⟨ag2, ao2, e2, -, -, -, d2, d3⟩ := (HL.out.below (HRN.out.below.trans (hk.below HRN.out.below.size HRN.out.s))).at_ HX.out
          injection e2 with e2
          injection e2 with e2 e3
          subst e2 e3
          exact ⟨d2, d3⟩)
        obtain ⟨E, hE⟩ : ∃ E : Int, E = passE p x.n x.d := ⟨_, rfl⟩
        have hxd := (HO.out x (List.mem_of_getElem? HX.out)).d
        have HP := Lib.hid (show ∀ w', Below wr.heap.size wr w' → Calls Try.prog 15 #[.pointer (some ⟨g, 0, none⟩), .int .i64 x.n, .int .u64 x.d] w' (CStep (.int .i64 E) g (passC p x.n x.d) S w') from fun w' hb => by
          rw [hE]
          exact pass_any (HRN.out.clk.below hb) x.n x.d hxd.1 hxd.2)
        clear hE hxd
        by_cases hbig : 1000000 < x.n
        · obtain ⟨c2, c3⟩ := HALL.out wr (Kept.refl _ _)
          have hd : decide (1000000 < x.n) = true := decide_eq_true hbig
          go_upto_region 8 with fail
          go_quiet (fail)
          go_wp2
          go_roundw
          case rel => exact ⟨k + 1, p, S, by omega, by omega, by go_num, HRN.out.skip (below_drewN _ _), HDF.out⟩
          case measure => simp [intOf]; omega
        · obtain ⟨c2, c3⟩ := HALL.out wr (Kept.refl _ _)
          have hd : decide (1000000 < x.n) = false := decide_eq_false hbig
          go_upto_region 8 with fail
          have HB0 := Lib.hid (show Below wr.heap.size wr wr.drew from (Below.refl _ _).drew)
          go_region_held3 (fun w' => w'.cell? ⟨ag, ao + k * 4 + 2, none⟩ = some (.int .i64 x.n) ∧ w'.cell? ⟨ag, ao + k * 4 + 3, none⟩ = some (.int .u64 x.d))
            (first
              | with_reducible assumption
              | with_reducible exact HALL.out _ (Kept.of_below HB0.out)
              | with_reducible exact HALL.out _ HK2.out)
            (first
              | (go_at_call 15; refine (HP.out _ HB0.out).mono ?_; rintro e wx ⟨rfl, S2, hc2, hs2, hk2⟩
                 have HK2 := Lib.hid (Kept.step (M := S) (Kept.of_below HB0.out) hk2 (fun b _ e => e))
                 have HX2 := Lib.hid (And.intro hc2 hs2)
                 clear hc2 hs2 hk2))
          have hrn := HRN.out.step hbig HX2.out.1 HX2.out.2 HK2.out
          have hdf := HDF.out.pass HRN.out.clk.ok x.n x.d
          obtain ⟨q, hq⟩ : ∃ q, q = passC p x.n x.d := ⟨_, rfl⟩
          rw [← hq] at hrn hdf
          have HRN2 := Lib.hid hrn
          obtain ⟨a1, a2⟩ := time_two hrn.clk.ok hrn.nodes hrn.edges (e := 1) (i := 0) rfl
          obtain ⟨b1, b2⟩ := time_two hrn.clk.ok hrn.nodes hrn.edges (e := 2) (i := 1) rfl
          have htr := trusted (t := t) hdf rfl (i := 0) (j := 1) rfl rfl a1 b1 (by rw [hrn.rho]; exact HT.out)
          rw [hrn.rho, ← HGD.out] at htr
          have HTRU := Lib.hid htr
          have HDF2 := Lib.hid hdf
          have HW1 := Lib.hid (now_any hrn.clk 1 (by omega) (by omega))
          rw [a2] at HW1
          have HW2 := Lib.hid (now_any hrn.clk 2 (by omega) (by omega))
          rw [b2] at HW2
          clear hrn hdf hq a1 a2 b1 b2 htr HALL HP HX2 HK2 HRN HDF HB0 c2 c3 hd
          generalize q.time 1 = a at *
          generalize q.time 2 = b at *
          by_cases hE0 : E = 0
          · subst hE0
            by_cases htb : t ≤ b
            · have hga := HTRU.out htb
              have hga2 : ¬ a < gd := by omega
              go_wp2_with fail
              refine HW1.out.mono ?_
              rintro e w3 ⟨rfl, rfl⟩
              go_wp2_with fail
              refine HW2.out.mono ?_
              rintro e w3 ⟨rfl, rfl⟩
              go_wp2
              go_roundw
              case rel => exact ⟨k + 1, q, S2, by omega, by omega, by go_num, HRN2.out, HDF2.out⟩
              case measure => simp [intOf]; omega
            · go_wp2_with fail
              refine HW1.out.mono ?_
              rintro e w3 ⟨rfl, rfl⟩
              go_wp2_with fail
              refine HW2.out.mono ?_
              rintro e w3 ⟨rfl, rfl⟩
              go_wp2
              go_roundw
              case rel => exact ⟨k + 1, q, S2, by omega, by omega, by go_num, HRN2.out, HDF2.out⟩
              case measure => simp [intOf]; omega
          · have hne : (E != 0) = true := bne_iff_ne.2 hE0
            have hne2 : (E == 0) = false := beq_eq_false_iff_ne.2 hE0
            clear hE0
            go_wp2
            go_roundw
            case rel => exact ⟨k + 1, q, S2, by omega, by omega, by go_num, HRN2.out, HDF2.out⟩
            case measure => simp [intOf]; omega
      · have hd1 : decide ((k : Int) < 100) = false := decide_eq_false h100
        have hd2 : decide (k < 100) = false := decide_eq_false (by omega)
        go_wp2
        go_ret
        exact ⟨rfl, HRN.out.below⟩
    · have hd1 : decide ((k : Int) < (l.length : Int)) = false := decide_eq_false (by omega)
      have hd2 : decide (k < l.length) = false := decide_eq_false hlt
      go_wp2
      go_ret
      exact ⟨rfl, HRN.out.below⟩
theorem trust_any (rho t : Int) (A : Option Addr) (c : Nat) (l : List A9) (w : World) (hl : LiesA w w.heap.size A l) (ho : ActsOk l) (hlm : l.length ≤ 140737488355328) : Calls Try.prog 5 #[.int .i64 rho, .int .i64 t, .slice A l.length c] w (True_ w) := by
  by_cases hr : okNew 2 0 rho
  · by_cases ht : TameT t rho
    · exact trust_ok rho t A c l w hl ho hlm hr ht
    · exact trust_late rho t A c l w hr ht
  · exact trust_bad rho t A c l w hr
end Go.Proofs.Ythpcmcnkiiebkaa.Ck
