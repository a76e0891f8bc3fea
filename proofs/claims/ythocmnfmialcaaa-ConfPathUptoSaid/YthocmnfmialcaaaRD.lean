/- The reference's Change, as a contract of a call. Written by gencn3.py. | The law's answers and change, as contracts of calls. Written by gencn4.py. | The law ConfChanges, walked. | Configurations and lists of ints, as they come in: of few items. -/
import Derived.Test.YthocmnfmialcaaaRC
import Derived.Test.YthocmnfmialcaaaKnL
import Derived.Test.YthocmnfmialcaaaRA
/-! The reference's Change, as a contract of a call. Written by gencn3.py. -/
namespace Go.Proofs.Ythocmnfmialcaaa.Cn
open Go.RowKit Go.ChangeAt By CoP Co Mo Kd Go.Shelf
variable {w W w' : World} {A A2 : Option Addr} {n c m c2 : Nat} {vs ls : List Int}
theorem chgE_form {k : Nat} {vs ls : List Int} {x : Int} (h : ¬ confB vs ls = true) : chgE k vs ls x = 2 := by
  have e : ccErr vs ls x = 2 := by unfold ccErr; rw [if_neg h]
  unfold chgE
  rw [e, if_pos (by decide)]
theorem chgE_arg {k : Nat} {vs ls : List Int} {x : Int} (h : confB vs ls = true) (hx : x < 1 ∨ 16 < x) : chgE k vs ls x = 1 := by
  have e : ccErr vs ls x = 1 := by unfold ccErr; rw [if_pos h, if_pos hx]
  unfold chgE
  rw [e, if_pos (by decide)]
/-- Blocks that are there. -/
def Any : World → World → Nat → Prop := fun _ w' => Old w'
theorem give_errA {er : Int} {vs ls : List Int} (h : Boxes w W A n c A2 m c2) (hb : Below W.heap.size W w') (hv : vs = []) (hl : ls = []) : GivesC Any er vs ls w (.returned (.tuple #[cfV none 0 0 none 0 0, .int .i64 er])) ((w'.setCell ⟨w.heap.size + 1, 0, none⟩ (.slice none 0 0)).setCell ⟨w.heap.size + 1, 1, none⟩ (.slice none 0 0)) :=
  ⟨none, 0, 0, none, 0, 0, rfl, by subst hv; subst hl; exact CfAt.empty _ _, h.setBelow hb _ _⟩
theorem give_twoA {A4 A5 : Option Addr} {c4 c5 : Nat} {us ks : List Int} {wa w4 wb w5 : World} (h : Boxes w W A n c A2 m c2) (ha : Below W.heap.size W wa) (hb : Below W.heap.size W wb) (hs : Below W.heap.size W w5) (h4 : Ls w4 (NewF wa w4) A4 us) (h45 : Below w4.heap.size w4 w5)
    (h5 : Ls w5 (NewF wb w5) A5 ks) (hc4 : us.length ≤ c4) (hc5 : ks.length ≤ c5) (hsm : (putConf us ks).length ≤ 9437184) :
    GivesC Any 0 us ks w (.returned (.tuple #[cfV A4 us.length c4 A5 ks.length c5, .int .i64 0])) ((w5.setCell ⟨w.heap.size + 1, 0, none⟩ (.slice A4 us.length c4)).setCell ⟨w.heap.size + 1, 1, none⟩ (.slice A5 ks.length c5)) := by
  have z := h.size
  have za := ha.size
  have zb := hb.size
  exact ⟨A4, _, c4, A5, _, c5, rfl, ⟨rfl, rfl, (h4.box h45 (by omega) w (by omega) _ _).less (fun b hB => hB.1.2), (h5.box (Below.refl _ _) (by omega) w (by omega) _ _).less (fun b hB => hB.1.2), hc4, hc5, hsm⟩, h.setBelow hs _ _⟩
theorem give_oneA {A5 : Option Addr} {c5 : Nat} {ks : List Int} {wb w5 : World} (hcf : CfAt w (Old w) A n c A2 m c2 vs ls) (h : Boxes w W A n c A2 m c2) (hb : Below W.heap.size W wb) (hs : Below W.heap.size W w5)
    (h5 : Ls w5 (NewF wb w5) A5 ks) (hc5 : ks.length ≤ c5) (hsm : (putConf vs ks).length ≤ 9437184) :
    GivesC Any 0 vs ks w (.returned (.tuple #[cfV A n c A5 ks.length c5, .int .i64 0])) ((w5.setCell ⟨w.heap.size + 1, 0, none⟩ (.slice A n c)).setCell ⟨w.heap.size + 1, 1, none⟩ (.slice A5 ks.length c5)) := by
  have z := h.size
  have zb := hb.size
  exact ⟨A, n, c, A5, _, c5, rfl, ⟨hcf.hn, rfl, hcf.v.below (h.setBelow hs _ _), (h5.box (Below.refl _ _) (by omega) w (by omega) _ _).less (fun b hB => hB.1.2), hcf.cv, hc5, hsm⟩, h.setBelow hs _ _⟩
set_option maxHeartbeats 2000000 in
theorem rChange1_any (h : CfAt w (Old w) A n c A2 m c2 vs ls) (x : Int) (hx : I64 x) : Calls Try.prog 20 #[.int .i64 1, cfV A n c A2 m c2, .int .i64 x] w (GivesC Any (chgE 1 vs ls x) (chgV 1 vs ls x) (chgL 1 vs ls x) w) := by
  obtain ⟨W, hW⟩ : ∃ W, W = (w.alloc (.cells #[.slice A n c, .slice A2 m c2] 24)).alloc (.cells #[.slice none 0 0, .slice none 0 0] 24) := ⟨_, rfl⟩
  have hbx : Boxes w W A n c A2 m c2 := by rw [hW]; exact boxes w A n c A2 m c2
  have hb1 := hbx.below
  have hok := fun w' (hb : Below W.heap.size W w') => confOKc_any h w' (By.ext hb1 hb)
  have hh1 := fun w' (hb : Below W.heap.size W w') => h.rhas1 x hx.1 hx.2 w' (By.ext hb1 hb)
  have hh2 := fun w' (hb : Below W.heap.size W w') => h.rhas2 x hx.1 hx.2 w' (By.ext hb1 hb)
  have HX := Lib.hid hx
  clear hx
  have HBX := Lib.hid hbx
  obtain ⟨k0, k1⟩ := hbx.cells (Below.refl _ _)
  obtain ⟨r0, r1⟩ := hbx.rcells (Below.refl _ _)
  have f0 := hbx.fz (Below.refl _ _)
  by_cases hs : confB vs ls = true
  case neg =>
    have hE : chgE 1 vs ls x = 2 := chgE_form hs
    have HV := Lib.hid (show chgV 1 vs ls x = [] by unfold chgV; rw [if_pos (by rw [hE]; decide)])
    have HL := Lib.hid (show chgL 1 vs ls x = [] by unfold chgL; rw [if_pos (by rw [hE]; decide)])
    rw [hE]
    have hsf : confB vs ls = false := by simpa using hs
    rw [hsf] at hok
    have HOK := Lib.hid hok
    clear hok hh1 hh2 hb1 h hbx hs hsf hE
    go_enter Try.func20, Try.ntmps20
    go_wp2_with fail
    rw [← hW]
    clear hW
    refine (HOK.out _ (Below.refl W.heap.size W)).mono ?_
    rintro e w2 ⟨rfl, hb⟩
    have HB2 := Lib.hid (By.ext (Below.refl W.heap.size W) hb)
    obtain ⟨k0, k1⟩ := HBX.out.cells HB2.out
    obtain ⟨r0, r1⟩ := HBX.out.rcells HB2.out
    have f0 := HBX.out.fz HB2.out
    clear hb
    go_wp2
    exact bodyPost_ret (v := .tuple #[cfV none 0 0 none 0 0, .int .i64 2]) (Kd.results_cell_tmp (p := 6) (q := 7) rfl _ _ (w.heap.size + 1) 24 #[.slice none 0 0, .slice none 0 0] (0, 0) _ rfl (HBX.out.set HB2.out _ _) Try.underlying24 conf_size) rfl (give_errA HBX.out HB2.out HV.out HL.out)
  obtain ⟨hv16, hl16⟩ := below_sound hs
  have hwo := woL_empty (x := x) hs
  by_cases hx1 : x < 1
  · have hE : chgE 1 vs ls x = 1 := chgE_arg hs (.inl hx1)
    have HV := Lib.hid (show chgV 1 vs ls x = [] by unfold chgV; rw [if_pos (by rw [hE]; decide)])
    have HL := Lib.hid (show chgL 1 vs ls x = [] by unfold chgL; rw [if_pos (by rw [hE]; decide)])
    rw [hE]
    rw [hs] at hok
    have HOK := Lib.hid hok
    have d1 : decide (x < 1) = true := decide_eq_true hx1
    clear hok hh1 hh2 hb1 h hbx hs hE hv16 hl16 hwo hx1
    go_enter Try.func20, Try.ntmps20
    go_wp2_with fail
    rw [← hW]
    clear hW
    refine (HOK.out _ (Below.refl W.heap.size W)).mono ?_
    rintro e w2 ⟨rfl, hb⟩
    have HB2 := Lib.hid (By.ext (Below.refl W.heap.size W) hb)
    obtain ⟨k0, k1⟩ := HBX.out.cells HB2.out
    obtain ⟨r0, r1⟩ := HBX.out.rcells HB2.out
    have f0 := HBX.out.fz HB2.out
    clear hb
    go_wp2
    exact bodyPost_ret (v := .tuple #[cfV none 0 0 none 0 0, .int .i64 1]) (Kd.results_cell_tmp (p := 6) (q := 7) rfl _ _ (w.heap.size + 1) 24 #[.slice none 0 0, .slice none 0 0] (0, 0) _ rfl (HBX.out.set HB2.out _ _) Try.underlying24 conf_size) rfl (give_errA HBX.out HB2.out HV.out HL.out)
  by_cases hx16 : 16 < x
  · have hE : chgE 1 vs ls x = 1 := chgE_arg hs (.inr hx16)
    have HV := Lib.hid (show chgV 1 vs ls x = [] by unfold chgV; rw [if_pos (by rw [hE]; decide)])
    have HL := Lib.hid (show chgL 1 vs ls x = [] by unfold chgL; rw [if_pos (by rw [hE]; decide)])
    rw [hE]
    rw [hs] at hok
    have HOK := Lib.hid hok
    have d1 : decide (x < 1) = false := decide_eq_false hx1
    have d2 : decide (16 < x) = true := decide_eq_true hx16
    clear hok hh1 hh2 hb1 h hbx hs hE hv16 hl16 hwo hx1 hx16
    go_enter Try.func20, Try.ntmps20
    go_wp2_with fail
    rw [← hW]
    clear hW
    refine (HOK.out _ (Below.refl W.heap.size W)).mono ?_
    rintro e w2 ⟨rfl, hb⟩
    have HB2 := Lib.hid (By.ext (Below.refl W.heap.size W) hb)
    obtain ⟨k0, k1⟩ := HBX.out.cells HB2.out
    obtain ⟨r0, r1⟩ := HBX.out.rcells HB2.out
    have f0 := HBX.out.fz HB2.out
    clear hb
    go_wp2
    exact bodyPost_ret (v := .tuple #[cfV none 0 0 none 0 0, .int .i64 1]) (Kd.results_cell_tmp (p := 6) (q := 7) rfl _ _ (w.heap.size + 1) 24 #[.slice none 0 0, .slice none 0 0] (0, 0) _ rfl (HBX.out.set HB2.out _ _) Try.underlying24 conf_size) rfl (give_errA HBX.out HB2.out HV.out HL.out)
  have he : ccErr vs ls x = 0 := by unfold ccErr; rw [if_pos hs, if_neg (by omega)]
  have d1 : decide (x < 1) = false := decide_eq_false hx1
  have d2 : decide (16 < x) = false := decide_eq_false hx16
  have hHV : ∀ w' : World, Below W.heap.size W w' → LiesI w' w'.heap.size A vs := fun w' hb => (h.below (By.ext hb1 hb)).v.lies
  have hHL : ∀ w' : World, Below W.heap.size W w' → LiesI w' w'.heap.size A2 ls := fun w' hb => (h.below (By.ext hb1 hb)).l.lies
  have HCF := Lib.hid h
  have HN := Lib.hid h.hn
  have HM := Lib.hid h.hm
  have HNV := Lib.hid h.nv
  have HNL := Lib.hid h.nl
  have HHV := Lib.hid hHV
  have HHL := Lib.hid hHL
  have HL16 := Lib.hid hl16
  have HV16 := Lib.hid hv16
  rw [hs] at hok
  have HOK := Lib.hid hok
  by_cases hv : x ∈ vs
  · by_cases hl : x ∈ ls
    · have hE : chgE 1 vs ls x = 9 := by unfold chgE; rw [if_neg (by rw [he]; decide), if_pos rfl, if_pos (.inl hv)]
      have HV := Lib.hid (show chgV 1 vs ls x = [] by unfold chgV; rw [if_pos (by rw [hE]; decide)])
      have HL := Lib.hid (show chgL 1 vs ls x = [] by unfold chgL; rw [if_pos (by rw [hE]; decide)])
      rw [hE]
      have hv9 : decide (x ∈ vs) = true := decide_eq_true hv
      have hl9 : decide (x ∈ ls) = true := decide_eq_true hl
      rw [hv9] at hh1
      rw [hl9] at hh2
      have H1 := Lib.hid hh1
      have H2 := Lib.hid hh2
      clear hok hh1 hh2 hb1 h hbx hs hv16 hl16 hwo hx1 hx16 he hE hHV hHL hv hl hv9 hl9
      go_enter Try.func20, Try.ntmps20
      go_wp2_with fail
      rw [← hW]
      clear hW
      refine (HOK.out _ (Below.refl W.heap.size W)).mono ?_
      rintro e w2 ⟨rfl, hb⟩
      have HB2 := Lib.hid (By.ext (Below.refl W.heap.size W) hb)
      obtain ⟨k0, k1⟩ := HBX.out.cells HB2.out
      obtain ⟨r0, r1⟩ := HBX.out.rcells HB2.out
      have f0 := HBX.out.fz HB2.out
      clear hb
      go_wp2_with fail
      refine (H1.out _ HB2.out).mono ?_
      rintro e w3 ⟨rfl, hb⟩
      have HB3 := Lib.hid (By.ext HB2.out hb)
      obtain ⟨k0, k1⟩ := HBX.out.cells HB3.out
      obtain ⟨r0, r1⟩ := HBX.out.rcells HB3.out
      have f0 := HBX.out.fz HB3.out
      clear hb
      go_wp2_with fail
      refine (H2.out _ HB3.out).mono ?_
      rintro e w4 ⟨rfl, hb⟩
      have HB4 := Lib.hid (By.ext HB3.out hb)
      obtain ⟨k0, k1⟩ := HBX.out.cells HB4.out
      obtain ⟨r0, r1⟩ := HBX.out.rcells HB4.out
      have f0 := HBX.out.fz HB4.out
      clear hb
      go_wp2
      exact bodyPost_ret (v := .tuple #[cfV none 0 0 none 0 0, .int .i64 9]) (Kd.results_cell_tmp (p := 6) (q := 7) rfl _ _ (w.heap.size + 1) 24 #[.slice none 0 0, .slice none 0 0] (0, 0) _ rfl (HBX.out.set HB4.out _ _) Try.underlying24 conf_size) rfl (give_errA HBX.out HB4.out HV.out HL.out)
    · have hE : chgE 1 vs ls x = 9 := by unfold chgE; rw [if_neg (by rw [he]; decide), if_pos rfl, if_pos (.inl hv)]
      have HV := Lib.hid (show chgV 1 vs ls x = [] by unfold chgV; rw [if_pos (by rw [hE]; decide)])
      have HL := Lib.hid (show chgL 1 vs ls x = [] by unfold chgL; rw [if_pos (by rw [hE]; decide)])
      rw [hE]
      have hv9 : decide (x ∈ vs) = true := decide_eq_true hv
      have hl9 : decide (x ∈ ls) = false := decide_eq_false hl
      rw [hv9] at hh1
      rw [hl9] at hh2
      have H1 := Lib.hid hh1
      have H2 := Lib.hid hh2
      clear hok hh1 hh2 hb1 h hbx hs hv16 hl16 hwo hx1 hx16 he hE hHV hHL hv hl hv9 hl9
      go_enter Try.func20, Try.ntmps20
      go_wp2_with fail
      rw [← hW]
      clear hW
      refine (HOK.out _ (Below.refl W.heap.size W)).mono ?_
      rintro e w2 ⟨rfl, hb⟩
      have HB2 := Lib.hid (By.ext (Below.refl W.heap.size W) hb)
      obtain ⟨k0, k1⟩ := HBX.out.cells HB2.out
      obtain ⟨r0, r1⟩ := HBX.out.rcells HB2.out
      have f0 := HBX.out.fz HB2.out
      clear hb
      go_wp2_with fail
      refine (H1.out _ HB2.out).mono ?_
      rintro e w3 ⟨rfl, hb⟩
      have HB3 := Lib.hid (By.ext HB2.out hb)
      obtain ⟨k0, k1⟩ := HBX.out.cells HB3.out
      obtain ⟨r0, r1⟩ := HBX.out.rcells HB3.out
      have f0 := HBX.out.fz HB3.out
      clear hb
      go_wp2_with fail
      refine (H2.out _ HB3.out).mono ?_
      rintro e w4 ⟨rfl, hb⟩
      have HB4 := Lib.hid (By.ext HB3.out hb)
      obtain ⟨k0, k1⟩ := HBX.out.cells HB4.out
      obtain ⟨r0, r1⟩ := HBX.out.rcells HB4.out
      have f0 := HBX.out.fz HB4.out
      clear hb
      go_wp2
      exact bodyPost_ret (v := .tuple #[cfV none 0 0 none 0 0, .int .i64 9]) (Kd.results_cell_tmp (p := 6) (q := 7) rfl _ _ (w.heap.size + 1) 24 #[.slice none 0 0, .slice none 0 0] (0, 0) _ rfl (HBX.out.set HB4.out _ _) Try.underlying24 conf_size) rfl (give_errA HBX.out HB4.out HV.out HL.out)
  · by_cases hl : x ∈ ls
    · have hE : chgE 1 vs ls x = 9 := by unfold chgE; rw [if_neg (by rw [he]; decide), if_pos rfl, if_pos (.inr hl)]
      have HV := Lib.hid (show chgV 1 vs ls x = [] by unfold chgV; rw [if_pos (by rw [hE]; decide)])
      have HL := Lib.hid (show chgL 1 vs ls x = [] by unfold chgL; rw [if_pos (by rw [hE]; decide)])
      rw [hE]
      have hv9 : decide (x ∈ vs) = false := decide_eq_false hv
      have hl9 : decide (x ∈ ls) = true := decide_eq_true hl
      rw [hv9] at hh1
      rw [hl9] at hh2
      have H1 := Lib.hid hh1
      have H2 := Lib.hid hh2
      clear hok hh1 hh2 hb1 h hbx hs hv16 hl16 hwo hx1 hx16 he hE hHV hHL hv hl hv9 hl9
      go_enter Try.func20, Try.ntmps20
      go_wp2_with fail
      rw [← hW]
      clear hW
      refine (HOK.out _ (Below.refl W.heap.size W)).mono ?_
      rintro e w2 ⟨rfl, hb⟩
      have HB2 := Lib.hid (By.ext (Below.refl W.heap.size W) hb)
      obtain ⟨k0, k1⟩ := HBX.out.cells HB2.out
      obtain ⟨r0, r1⟩ := HBX.out.rcells HB2.out
      have f0 := HBX.out.fz HB2.out
      clear hb
      go_wp2_with fail
      refine (H1.out _ HB2.out).mono ?_
      rintro e w3 ⟨rfl, hb⟩
      have HB3 := Lib.hid (By.ext HB2.out hb)
      obtain ⟨k0, k1⟩ := HBX.out.cells HB3.out
      obtain ⟨r0, r1⟩ := HBX.out.rcells HB3.out
      have f0 := HBX.out.fz HB3.out
      clear hb
      go_wp2_with fail
      refine (H2.out _ HB3.out).mono ?_
      rintro e w4 ⟨rfl, hb⟩
      have HB4 := Lib.hid (By.ext HB3.out hb)
      obtain ⟨k0, k1⟩ := HBX.out.cells HB4.out
      obtain ⟨r0, r1⟩ := HBX.out.rcells HB4.out
      have f0 := HBX.out.fz HB4.out
      clear hb
      go_wp2
      exact bodyPost_ret (v := .tuple #[cfV none 0 0 none 0 0, .int .i64 9]) (Kd.results_cell_tmp (p := 6) (q := 7) rfl _ _ (w.heap.size + 1) 24 #[.slice none 0 0, .slice none 0 0] (0, 0) _ rfl (HBX.out.set HB4.out _ _) Try.underlying24 conf_size) rfl (give_errA HBX.out HB4.out HV.out HL.out)
    · have hE : chgE 1 vs ls x = 0 := by unfold chgE; rw [if_neg (by rw [he]; decide), if_pos rfl, if_neg (fun h => h.elim hv hl)]
      have hV : chgV 1 vs ls x = vs := by unfold chgV; rw [if_neg (by rw [hE]; decide), if_pos rfl]
      have hL : chgL 1 vs ls x = wthL x ls := by unfold chgL; rw [if_neg (by rw [hE]; decide), if_pos rfl]
      rw [hE, hV, hL]
      have hv9 : decide (x ∈ vs) = false := decide_eq_false hv
      have hl9 : decide (x ∈ ls) = false := decide_eq_false hl
      rw [hv9] at hh1
      rw [hl9] at hh2
      have H1 := Lib.hid hh1
      have H2 := Lib.hid hh2
      have HSM := Lib.hid (show (putConf (vs) (wthL x ls)).length ≤ 9437184 from putConf_small (by omega) (by rw [wthL_len]; omega))
      have hrl := fun w' (hb : Below W.heap.size W w') => rWith_any A2 m c2 w'.heap.size ls HM.out (by have := HM.out; omega) x HX.out w' (Nat.le_refl _) (HHL.out w' hb)
      generalize wthL x ls = rl at hrl HSM ⊢
      have HRL := Lib.hid hrl
      clear hok hh1 hh2 hb1 h hbx hs hv16 hl16 hwo hx1 hx16 he hE hHV hHL hv hl hv9 hl9 hrl hV hL
      go_enter Try.func20, Try.ntmps20
      go_wp2_with fail
      rw [← hW]
      clear hW
      refine (HOK.out _ (Below.refl W.heap.size W)).mono ?_
      rintro e w2 ⟨rfl, hb⟩
      have HB2 := Lib.hid (By.ext (Below.refl W.heap.size W) hb)
      obtain ⟨k0, k1⟩ := HBX.out.cells HB2.out
      obtain ⟨r0, r1⟩ := HBX.out.rcells HB2.out
      have f0 := HBX.out.fz HB2.out
      clear hb
      go_wp2_with fail
      refine (H1.out _ HB2.out).mono ?_
      rintro e w3 ⟨rfl, hb⟩
      have HB3 := Lib.hid (By.ext HB2.out hb)
      obtain ⟨k0, k1⟩ := HBX.out.cells HB3.out
      obtain ⟨r0, r1⟩ := HBX.out.rcells HB3.out
      have f0 := HBX.out.fz HB3.out
      clear hb
      go_wp2_with fail
      refine (H2.out _ HB3.out).mono ?_
      rintro e w4 ⟨rfl, hb⟩
      have HB4 := Lib.hid (By.ext HB3.out hb)
      obtain ⟨k0, k1⟩ := HBX.out.cells HB4.out
      obtain ⟨r0, r1⟩ := HBX.out.rcells HB4.out
      have f0 := HBX.out.fz HB4.out
      clear hb
      have hxc : ∀ w', Below (w.heap.size + 1) W w' → w'.cell? ⟨w.heap.size, 0, none⟩ = some (.slice A n c) := fun w' hb => (HBX.out.cellsW hb).1
      have hxd : ∀ w', Below (w.heap.size + 1) W w' → w'.cell? ⟨w.heap.size, 1, none⟩ = some (.slice A2 m c2) := fun w' hb => (HBX.out.cellsW hb).2
      have hs3 := HB4.out
      have hw3 := HBX.out.wk hs3
      have hw3d : Below (w.heap.size + 1) W w4.drew := hw3.drew
      have hs3d : Below W.heap.size W w4.drew := hs3.drew
      clear r0 r1 f0
      go_upto_region 11 with fail
      clear k0 k1
      go_region_held3 (fun w' => Below (w.heap.size + 1) W w')
       (first | with_reducible assumption | with_reducible exact hw3 | with_reducible exact hw3d | with_reducible exact hw5 | with_reducible exact hw5d | with_reducible exact hw6 | with_reducible exact hw6d | with_reducible exact HBX.out.setW hs6 _ _)
       (first
       | (go_at_call 34; refine (HRL.out _ (by with_reducible first | exact hs3 | exact hs3d)).mono ?_; rintro e w6 ⟨A6, c6, rfl, hc6, hl6, hb6⟩; have hs6 : Below W.heap.size W w6 := By.ext (by with_reducible first | exact hs3 | exact hs3d) hb6; have hw6 := HBX.out.wk hs6; have hw6d : Below (w.heap.size + 1) W w6.drew := hw6.drew; have HO6 := Lib.hid hl6; have HC6 := Lib.hid hc6; have HB6 := Lib.hid hb6; have HS6 := Lib.hid hs6; obtain ⟨r0, r1⟩ := HBX.out.rcells hs6; have f0 := HBX.out.fz hs6; clear hb6 hc6 hl6))
      all_goals
        go_wp2
        exact bodyPost_ret (v := .tuple #[cfV A n c A6 rl.length c6, .int .i64 0]) (Kd.results_cell_tmp (p := 6) (q := 7) rfl _ _ (w.heap.size + 1) 24 #[.slice A n c, .slice A6 rl.length c6] (0, 0) _ rfl (HBX.out.set HS6.out _ _) Try.underlying24 conf_size) rfl (give_oneA HCF.out HBX.out (by with_reducible first | exact hs3 | exact hs3d) HS6.out HO6.out HC6.out HSM.out)
set_option maxHeartbeats 2000000 in
theorem rChange2_any (h : CfAt w (Old w) A n c A2 m c2 vs ls) (x : Int) (hx : I64 x) : Calls Try.prog 20 #[.int .i64 2, cfV A n c A2 m c2, .int .i64 x] w (GivesC Any (chgE 2 vs ls x) (chgV 2 vs ls x) (chgL 2 vs ls x) w) := by
  obtain ⟨W, hW⟩ : ∃ W, W = (w.alloc (.cells #[.slice A n c, .slice A2 m c2] 24)).alloc (.cells #[.slice none 0 0, .slice none 0 0] 24) := ⟨_, rfl⟩
  have hbx : Boxes w W A n c A2 m c2 := by rw [hW]; exact boxes w A n c A2 m c2
  have hb1 := hbx.below
  have hok := fun w' (hb : Below W.heap.size W w') => confOKc_any h w' (By.ext hb1 hb)
  have hh1 := fun w' (hb : Below W.heap.size W w') => h.rhas1 x hx.1 hx.2 w' (By.ext hb1 hb)
  have hh2 := fun w' (hb : Below W.heap.size W w') => h.rhas2 x hx.1 hx.2 w' (By.ext hb1 hb)
  have HX := Lib.hid hx
  clear hx
  have HBX := Lib.hid hbx
  obtain ⟨k0, k1⟩ := hbx.cells (Below.refl _ _)
  obtain ⟨r0, r1⟩ := hbx.rcells (Below.refl _ _)
  have f0 := hbx.fz (Below.refl _ _)
  by_cases hs : confB vs ls = true
  case neg =>
    have hE : chgE 2 vs ls x = 2 := chgE_form hs
    have HV := Lib.hid (show chgV 2 vs ls x = [] by unfold chgV; rw [if_pos (by rw [hE]; decide)])
    have HL := Lib.hid (show chgL 2 vs ls x = [] by unfold chgL; rw [if_pos (by rw [hE]; decide)])
    rw [hE]
    have hsf : confB vs ls = false := by simpa using hs
    rw [hsf] at hok
    have HOK := Lib.hid hok
    clear hok hh1 hh2 hb1 h hbx hs hsf hE
    go_enter Try.func20, Try.ntmps20
    go_wp2_with fail
    rw [← hW]
    clear hW
    refine (HOK.out _ (Below.refl W.heap.size W)).mono ?_
    rintro e w2 ⟨rfl, hb⟩
    have HB2 := Lib.hid (By.ext (Below.refl W.heap.size W) hb)
    obtain ⟨k0, k1⟩ := HBX.out.cells HB2.out
    obtain ⟨r0, r1⟩ := HBX.out.rcells HB2.out
    have f0 := HBX.out.fz HB2.out
    clear hb
    go_wp2
    exact bodyPost_ret (v := .tuple #[cfV none 0 0 none 0 0, .int .i64 2]) (Kd.results_cell_tmp (p := 6) (q := 7) rfl _ _ (w.heap.size + 1) 24 #[.slice none 0 0, .slice none 0 0] (0, 0) _ rfl (HBX.out.set HB2.out _ _) Try.underlying24 conf_size) rfl (give_errA HBX.out HB2.out HV.out HL.out)
  obtain ⟨hv16, hl16⟩ := below_sound hs
  have hwo := woL_empty (x := x) hs
  by_cases hx1 : x < 1
  · have hE : chgE 2 vs ls x = 1 := chgE_arg hs (.inl hx1)
    have HV := Lib.hid (show chgV 2 vs ls x = [] by unfold chgV; rw [if_pos (by rw [hE]; decide)])
    have HL := Lib.hid (show chgL 2 vs ls x = [] by unfold chgL; rw [if_pos (by rw [hE]; decide)])
    rw [hE]
    rw [hs] at hok
    have HOK := Lib.hid hok
    have d1 : decide (x < 1) = true := decide_eq_true hx1
    clear hok hh1 hh2 hb1 h hbx hs hE hv16 hl16 hwo hx1
    go_enter Try.func20, Try.ntmps20
    go_wp2_with fail
    rw [← hW]
    clear hW
    refine (HOK.out _ (Below.refl W.heap.size W)).mono ?_
    rintro e w2 ⟨rfl, hb⟩
    have HB2 := Lib.hid (By.ext (Below.refl W.heap.size W) hb)
    obtain ⟨k0, k1⟩ := HBX.out.cells HB2.out
    obtain ⟨r0, r1⟩ := HBX.out.rcells HB2.out
    have f0 := HBX.out.fz HB2.out
    clear hb
    go_wp2
    exact bodyPost_ret (v := .tuple #[cfV none 0 0 none 0 0, .int .i64 1]) (Kd.results_cell_tmp (p := 6) (q := 7) rfl _ _ (w.heap.size + 1) 24 #[.slice none 0 0, .slice none 0 0] (0, 0) _ rfl (HBX.out.set HB2.out _ _) Try.underlying24 conf_size) rfl (give_errA HBX.out HB2.out HV.out HL.out)
  by_cases hx16 : 16 < x
  · have hE : chgE 2 vs ls x = 1 := chgE_arg hs (.inr hx16)
    have HV := Lib.hid (show chgV 2 vs ls x = [] by unfold chgV; rw [if_pos (by rw [hE]; decide)])
    have HL := Lib.hid (show chgL 2 vs ls x = [] by unfold chgL; rw [if_pos (by rw [hE]; decide)])
    rw [hE]
    rw [hs] at hok
    have HOK := Lib.hid hok
    have d1 : decide (x < 1) = false := decide_eq_false hx1
    have d2 : decide (16 < x) = true := decide_eq_true hx16
    clear hok hh1 hh2 hb1 h hbx hs hE hv16 hl16 hwo hx1 hx16
    go_enter Try.func20, Try.ntmps20
    go_wp2_with fail
    rw [← hW]
    clear hW
    refine (HOK.out _ (Below.refl W.heap.size W)).mono ?_
    rintro e w2 ⟨rfl, hb⟩
    have HB2 := Lib.hid (By.ext (Below.refl W.heap.size W) hb)
    obtain ⟨k0, k1⟩ := HBX.out.cells HB2.out
    obtain ⟨r0, r1⟩ := HBX.out.rcells HB2.out
    have f0 := HBX.out.fz HB2.out
    clear hb
    go_wp2
    exact bodyPost_ret (v := .tuple #[cfV none 0 0 none 0 0, .int .i64 1]) (Kd.results_cell_tmp (p := 6) (q := 7) rfl _ _ (w.heap.size + 1) 24 #[.slice none 0 0, .slice none 0 0] (0, 0) _ rfl (HBX.out.set HB2.out _ _) Try.underlying24 conf_size) rfl (give_errA HBX.out HB2.out HV.out HL.out)
  have he : ccErr vs ls x = 0 := by unfold ccErr; rw [if_pos hs, if_neg (by omega)]
  have d1 : decide (x < 1) = false := decide_eq_false hx1
  have d2 : decide (16 < x) = false := decide_eq_false hx16
  have hHV : ∀ w' : World, Below W.heap.size W w' → LiesI w' w'.heap.size A vs := fun w' hb => (h.below (By.ext hb1 hb)).v.lies
  have hHL : ∀ w' : World, Below W.heap.size W w' → LiesI w' w'.heap.size A2 ls := fun w' hb => (h.below (By.ext hb1 hb)).l.lies
  have HCF := Lib.hid h
  have HN := Lib.hid h.hn
  have HM := Lib.hid h.hm
  have HNV := Lib.hid h.nv
  have HNL := Lib.hid h.nl
  have HHV := Lib.hid hHV
  have HHL := Lib.hid hHL
  have HL16 := Lib.hid hl16
  have HV16 := Lib.hid hv16
  rw [hs] at hok
  have HOK := Lib.hid hok
  by_cases hv : x ∈ vs
  · by_cases hl : x ∈ ls
    · have hE : chgE 2 vs ls x = 0 := by unfold chgE; rw [if_neg (by rw [he]; decide), if_neg (by decide), if_pos rfl, if_pos hl]
      have hV : chgV 2 vs ls x = wthL x vs := by unfold chgV; rw [if_neg (by rw [hE]; decide), if_neg (by decide), if_pos rfl]
      have hL : chgL 2 vs ls x = woL x ls := by unfold chgL; rw [if_neg (by rw [hE]; decide), if_neg (by decide)]
      rw [hE, hV, hL]
      have hv9 : decide (x ∈ vs) = true := decide_eq_true hv
      have hl9 : decide (x ∈ ls) = true := decide_eq_true hl
      rw [hv9] at hh1
      rw [hl9] at hh2
      have H1 := Lib.hid hh1
      have H2 := Lib.hid hh2
      have HSM := Lib.hid (show (putConf (wthL x vs) (woL x ls)).length ≤ 9437184 from putConf_small (by rw [wthL_len]; omega) (by have := woL_len x ls; omega))
      have hrv := fun w' (hb : Below W.heap.size W w') => rWith_any A n c w'.heap.size vs HN.out (by have := HN.out; omega) x HX.out w' (Nat.le_refl _) (HHV.out w' hb)
      have hrl := fun w' (hb : Below W.heap.size W w') => rWithout_any A2 m c2 w'.heap.size ls HM.out (by have := HM.out; omega) x w' (Nat.le_refl _) (HHL.out w' hb)
      generalize wthL x vs = rv at hrv HSM ⊢
      have HRV := Lib.hid hrv
      generalize woL x ls = rl at hrl HSM ⊢
      have HRL := Lib.hid hrl
      clear hok hh1 hh2 hb1 h hbx hs hv16 hl16 hwo hx1 hx16 he hE hHV hHL hv hl hv9 hl9 hrl hV hL hrv
      go_enter Try.func20, Try.ntmps20
      go_wp2_with fail
      rw [← hW]
      clear hW
      refine (HOK.out _ (Below.refl W.heap.size W)).mono ?_
      rintro e w2 ⟨rfl, hb⟩
      have HB2 := Lib.hid (By.ext (Below.refl W.heap.size W) hb)
      obtain ⟨k0, k1⟩ := HBX.out.cells HB2.out
      obtain ⟨r0, r1⟩ := HBX.out.rcells HB2.out
      have f0 := HBX.out.fz HB2.out
      clear hb
      go_wp2_with fail
      refine (H1.out _ HB2.out).mono ?_
      rintro e w3 ⟨rfl, hb⟩
      have HB3 := Lib.hid (By.ext HB2.out hb)
      obtain ⟨k0, k1⟩ := HBX.out.cells HB3.out
      obtain ⟨r0, r1⟩ := HBX.out.rcells HB3.out
      have f0 := HBX.out.fz HB3.out
      clear hb
      go_wp2_with fail
      refine (H2.out _ HB3.out).mono ?_
      rintro e w4 ⟨rfl, hb⟩
      have HB4 := Lib.hid (By.ext HB3.out hb)
      obtain ⟨k0, k1⟩ := HBX.out.cells HB4.out
      obtain ⟨r0, r1⟩ := HBX.out.rcells HB4.out
      have f0 := HBX.out.fz HB4.out
      clear hb
      have hxc : ∀ w', Below (w.heap.size + 1) W w' → w'.cell? ⟨w.heap.size, 0, none⟩ = some (.slice A n c) := fun w' hb => (HBX.out.cellsW hb).1
      have hxd : ∀ w', Below (w.heap.size + 1) W w' → w'.cell? ⟨w.heap.size, 1, none⟩ = some (.slice A2 m c2) := fun w' hb => (HBX.out.cellsW hb).2
      have hs3 := HB4.out
      have hw3 := HBX.out.wk hs3
      have hw3d : Below (w.heap.size + 1) W w4.drew := hw3.drew
      have hs3d : Below W.heap.size W w4.drew := hs3.drew
      clear r0 r1 f0
      go_upto_region 15 with fail
      clear k0 k1
      go_region_held3 (fun w' => Below (w.heap.size + 1) W w')
       (first | with_reducible assumption | with_reducible exact hw3 | with_reducible exact hw3d | with_reducible exact hw5 | with_reducible exact hw5d | with_reducible exact hw6 | with_reducible exact hw6d | with_reducible exact HBX.out.setW hs6 _ _)
       (first
       | (go_at_call 34; refine (HRV.out _ (by with_reducible first | exact hs3 | exact hs3d)).mono ?_; rintro e w5 ⟨A5, c5, rfl, hc5, hl5, hb5⟩; have hs5 : Below W.heap.size W w5 := By.ext (by with_reducible first | exact hs3 | exact hs3d) hb5; have hw5 := HBX.out.wk hs5; have hw5d : Below (w.heap.size + 1) W w5.drew := hw5.drew; have hs5d : Below W.heap.size W w5.drew := hs5.drew; have HO5 := Lib.hid hl5; have HC5 := Lib.hid hc5; have HB5 := Lib.hid hb5; have h5done := True.intro; clear hb5 hc5 hl5)
       | (go_at_call 35; refine (HRL.out _ (by with_reducible first | exact hs5 | exact hs5d)).mono ?_; rintro e w6 ⟨A6, c6, rfl, hc6, hl6, hb6⟩; have hs6 : Below W.heap.size W w6 := By.ext (by with_reducible first | exact hs5 | exact hs5d) hb6; have hw6 := HBX.out.wk hs6; have hw6d : Below (w.heap.size + 1) W w6.drew := hw6.drew; have HO6 := Lib.hid hl6; have HC6 := Lib.hid hc6; have HB6 := Lib.hid hb6; have HS6 := Lib.hid hs6; obtain ⟨r0, r1⟩ := HBX.out.rcells hs6; have f0 := HBX.out.fz hs6; clear hb6 hc6 hl6))
      all_goals
        go_wp2
        exact bodyPost_ret (v := .tuple #[cfV A5 rv.length c5 A6 rl.length c6, .int .i64 0]) (Kd.results_cell_tmp (p := 6) (q := 7) rfl _ _ (w.heap.size + 1) 24 #[.slice A5 rv.length c5, .slice A6 rl.length c6] (0, 0) _ rfl (HBX.out.set HS6.out _ _) Try.underlying24 conf_size) rfl (give_twoA HBX.out (by with_reducible first | exact hs3 | exact hs3d) (by with_reducible first | exact hs5 | exact hs5d) HS6.out HO5.out (by with_reducible first | exact HB6.out | exact drew_left HB6.out) HO6.out HC5.out HC6.out HSM.out)
    · have hE : chgE 2 vs ls x = 8 := by unfold chgE; rw [if_neg (by rw [he]; decide), if_neg (by decide), if_pos rfl, if_neg hl]
      have HV := Lib.hid (show chgV 2 vs ls x = [] by unfold chgV; rw [if_pos (by rw [hE]; decide)])
      have HL := Lib.hid (show chgL 2 vs ls x = [] by unfold chgL; rw [if_pos (by rw [hE]; decide)])
      rw [hE]
      have hv9 : decide (x ∈ vs) = true := decide_eq_true hv
      have hl9 : decide (x ∈ ls) = false := decide_eq_false hl
      rw [hv9] at hh1
      rw [hl9] at hh2
      have H1 := Lib.hid hh1
      have H2 := Lib.hid hh2
      clear hok hh1 hh2 hb1 h hbx hs hv16 hl16 hwo hx1 hx16 he hE hHV hHL hv hl hv9 hl9
      go_enter Try.func20, Try.ntmps20
      go_wp2_with fail
      rw [← hW]
      clear hW
      refine (HOK.out _ (Below.refl W.heap.size W)).mono ?_
      rintro e w2 ⟨rfl, hb⟩
      have HB2 := Lib.hid (By.ext (Below.refl W.heap.size W) hb)
      obtain ⟨k0, k1⟩ := HBX.out.cells HB2.out
      obtain ⟨r0, r1⟩ := HBX.out.rcells HB2.out
      have f0 := HBX.out.fz HB2.out
      clear hb
      go_wp2_with fail
      refine (H1.out _ HB2.out).mono ?_
      rintro e w3 ⟨rfl, hb⟩
      have HB3 := Lib.hid (By.ext HB2.out hb)
      obtain ⟨k0, k1⟩ := HBX.out.cells HB3.out
      obtain ⟨r0, r1⟩ := HBX.out.rcells HB3.out
      have f0 := HBX.out.fz HB3.out
      clear hb
      go_wp2_with fail
      refine (H2.out _ HB3.out).mono ?_
      rintro e w4 ⟨rfl, hb⟩
      have HB4 := Lib.hid (By.ext HB3.out hb)
      obtain ⟨k0, k1⟩ := HBX.out.cells HB4.out
      obtain ⟨r0, r1⟩ := HBX.out.rcells HB4.out
      have f0 := HBX.out.fz HB4.out
      clear hb
      go_wp2
      exact bodyPost_ret (v := .tuple #[cfV none 0 0 none 0 0, .int .i64 8]) (Kd.results_cell_tmp (p := 6) (q := 7) rfl _ _ (w.heap.size + 1) 24 #[.slice none 0 0, .slice none 0 0] (0, 0) _ rfl (HBX.out.set HB4.out _ _) Try.underlying24 conf_size) rfl (give_errA HBX.out HB4.out HV.out HL.out)
  · by_cases hl : x ∈ ls
    · have hE : chgE 2 vs ls x = 0 := by unfold chgE; rw [if_neg (by rw [he]; decide), if_neg (by decide), if_pos rfl, if_pos hl]
      have hV : chgV 2 vs ls x = wthL x vs := by unfold chgV; rw [if_neg (by rw [hE]; decide), if_neg (by decide), if_pos rfl]
      have hL : chgL 2 vs ls x = woL x ls := by unfold chgL; rw [if_neg (by rw [hE]; decide), if_neg (by decide)]
      rw [hE, hV, hL]
      have hv9 : decide (x ∈ vs) = false := decide_eq_false hv
      have hl9 : decide (x ∈ ls) = true := decide_eq_true hl
      rw [hv9] at hh1
      rw [hl9] at hh2
      have H1 := Lib.hid hh1
      have H2 := Lib.hid hh2
      have HSM := Lib.hid (show (putConf (wthL x vs) (woL x ls)).length ≤ 9437184 from putConf_small (by rw [wthL_len]; omega) (by have := woL_len x ls; omega))
      have hrv := fun w' (hb : Below W.heap.size W w') => rWith_any A n c w'.heap.size vs HN.out (by have := HN.out; omega) x HX.out w' (Nat.le_refl _) (HHV.out w' hb)
      have hrl := fun w' (hb : Below W.heap.size W w') => rWithout_any A2 m c2 w'.heap.size ls HM.out (by have := HM.out; omega) x w' (Nat.le_refl _) (HHL.out w' hb)
      generalize wthL x vs = rv at hrv HSM ⊢
      have HRV := Lib.hid hrv
      generalize woL x ls = rl at hrl HSM ⊢
      have HRL := Lib.hid hrl
      clear hok hh1 hh2 hb1 h hbx hs hv16 hl16 hwo hx1 hx16 he hE hHV hHL hv hl hv9 hl9 hrl hV hL hrv
      go_enter Try.func20, Try.ntmps20
      go_wp2_with fail
      rw [← hW]
      clear hW
      refine (HOK.out _ (Below.refl W.heap.size W)).mono ?_
      rintro e w2 ⟨rfl, hb⟩
      have HB2 := Lib.hid (By.ext (Below.refl W.heap.size W) hb)
      obtain ⟨k0, k1⟩ := HBX.out.cells HB2.out
      obtain ⟨r0, r1⟩ := HBX.out.rcells HB2.out
      have f0 := HBX.out.fz HB2.out
      clear hb
      go_wp2_with fail
      refine (H1.out _ HB2.out).mono ?_
      rintro e w3 ⟨rfl, hb⟩
      have HB3 := Lib.hid (By.ext HB2.out hb)
      obtain ⟨k0, k1⟩ := HBX.out.cells HB3.out
      obtain ⟨r0, r1⟩ := HBX.out.rcells HB3.out
      have f0 := HBX.out.fz HB3.out
      clear hb
      go_wp2_with fail
      refine (H2.out _ HB3.out).mono ?_
      rintro e w4 ⟨rfl, hb⟩
      have HB4 := Lib.hid (By.ext HB3.out hb)
      obtain ⟨k0, k1⟩ := HBX.out.cells HB4.out
      obtain ⟨r0, r1⟩ := HBX.out.rcells HB4.out
      have f0 := HBX.out.fz HB4.out
      clear hb
      have hxc : ∀ w', Below (w.heap.size + 1) W w' → w'.cell? ⟨w.heap.size, 0, none⟩ = some (.slice A n c) := fun w' hb => (HBX.out.cellsW hb).1
      have hxd : ∀ w', Below (w.heap.size + 1) W w' → w'.cell? ⟨w.heap.size, 1, none⟩ = some (.slice A2 m c2) := fun w' hb => (HBX.out.cellsW hb).2
      have hs3 := HB4.out
      have hw3 := HBX.out.wk hs3
      have hw3d : Below (w.heap.size + 1) W w4.drew := hw3.drew
      have hs3d : Below W.heap.size W w4.drew := hs3.drew
      clear r0 r1 f0
      go_upto_region 15 with fail
      clear k0 k1
      go_region_held3 (fun w' => Below (w.heap.size + 1) W w')
       (first | with_reducible assumption | with_reducible exact hw3 | with_reducible exact hw3d | with_reducible exact hw5 | with_reducible exact hw5d | with_reducible exact hw6 | with_reducible exact hw6d | with_reducible exact HBX.out.setW hs6 _ _)
       (first
       | (go_at_call 34; refine (HRV.out _ (by with_reducible first | exact hs3 | exact hs3d)).mono ?_; rintro e w5 ⟨A5, c5, rfl, hc5, hl5, hb5⟩; have hs5 : Below W.heap.size W w5 := By.ext (by with_reducible first | exact hs3 | exact hs3d) hb5; have hw5 := HBX.out.wk hs5; have hw5d : Below (w.heap.size + 1) W w5.drew := hw5.drew; have hs5d : Below W.heap.size W w5.drew := hs5.drew; have HO5 := Lib.hid hl5; have HC5 := Lib.hid hc5; have HB5 := Lib.hid hb5; have h5done := True.intro; clear hb5 hc5 hl5)
       | (go_at_call 35; refine (HRL.out _ (by with_reducible first | exact hs5 | exact hs5d)).mono ?_; rintro e w6 ⟨A6, c6, rfl, hc6, hl6, hb6⟩; have hs6 : Below W.heap.size W w6 := By.ext (by with_reducible first | exact hs5 | exact hs5d) hb6; have hw6 := HBX.out.wk hs6; have hw6d : Below (w.heap.size + 1) W w6.drew := hw6.drew; have HO6 := Lib.hid hl6; have HC6 := Lib.hid hc6; have HB6 := Lib.hid hb6; have HS6 := Lib.hid hs6; obtain ⟨r0, r1⟩ := HBX.out.rcells hs6; have f0 := HBX.out.fz hs6; clear hb6 hc6 hl6))
      all_goals
        go_wp2
        exact bodyPost_ret (v := .tuple #[cfV A5 rv.length c5 A6 rl.length c6, .int .i64 0]) (Kd.results_cell_tmp (p := 6) (q := 7) rfl _ _ (w.heap.size + 1) 24 #[.slice A5 rv.length c5, .slice A6 rl.length c6] (0, 0) _ rfl (HBX.out.set HS6.out _ _) Try.underlying24 conf_size) rfl (give_twoA HBX.out (by with_reducible first | exact hs3 | exact hs3d) (by with_reducible first | exact hs5 | exact hs5d) HS6.out HO5.out (by with_reducible first | exact HB6.out | exact drew_left HB6.out) HO6.out HC5.out HC6.out HSM.out)
    · have hE : chgE 2 vs ls x = 8 := by unfold chgE; rw [if_neg (by rw [he]; decide), if_neg (by decide), if_pos rfl, if_neg hl]
      have HV := Lib.hid (show chgV 2 vs ls x = [] by unfold chgV; rw [if_pos (by rw [hE]; decide)])
      have HL := Lib.hid (show chgL 2 vs ls x = [] by unfold chgL; rw [if_pos (by rw [hE]; decide)])
      rw [hE]
      have hv9 : decide (x ∈ vs) = false := decide_eq_false hv
      have hl9 : decide (x ∈ ls) = false := decide_eq_false hl
      rw [hv9] at hh1
      rw [hl9] at hh2
      have H1 := Lib.hid hh1
      have H2 := Lib.hid hh2
      clear hok hh1 hh2 hb1 h hbx hs hv16 hl16 hwo hx1 hx16 he hE hHV hHL hv hl hv9 hl9
      go_enter Try.func20, Try.ntmps20
      go_wp2_with fail
      rw [← hW]
      clear hW
      refine (HOK.out _ (Below.refl W.heap.size W)).mono ?_
      rintro e w2 ⟨rfl, hb⟩
      have HB2 := Lib.hid (By.ext (Below.refl W.heap.size W) hb)
      obtain ⟨k0, k1⟩ := HBX.out.cells HB2.out
      obtain ⟨r0, r1⟩ := HBX.out.rcells HB2.out
      have f0 := HBX.out.fz HB2.out
      clear hb
      go_wp2_with fail
      refine (H1.out _ HB2.out).mono ?_
      rintro e w3 ⟨rfl, hb⟩
      have HB3 := Lib.hid (By.ext HB2.out hb)
      obtain ⟨k0, k1⟩ := HBX.out.cells HB3.out
      obtain ⟨r0, r1⟩ := HBX.out.rcells HB3.out
      have f0 := HBX.out.fz HB3.out
      clear hb
      go_wp2_with fail
      refine (H2.out _ HB3.out).mono ?_
      rintro e w4 ⟨rfl, hb⟩
      have HB4 := Lib.hid (By.ext HB3.out hb)
      obtain ⟨k0, k1⟩ := HBX.out.cells HB4.out
      obtain ⟨r0, r1⟩ := HBX.out.rcells HB4.out
      have f0 := HBX.out.fz HB4.out
      clear hb
      go_wp2
      exact bodyPost_ret (v := .tuple #[cfV none 0 0 none 0 0, .int .i64 8]) (Kd.results_cell_tmp (p := 6) (q := 7) rfl _ _ (w.heap.size + 1) 24 #[.slice none 0 0, .slice none 0 0] (0, 0) _ rfl (HBX.out.set HB4.out _ _) Try.underlying24 conf_size) rfl (give_errA HBX.out HB4.out HV.out HL.out)
set_option maxHeartbeats 2000000 in
theorem rChange3_any (h : CfAt w (Old w) A n c A2 m c2 vs ls) (x : Int) (hx : I64 x) : Calls Try.prog 20 #[.int .i64 3, cfV A n c A2 m c2, .int .i64 x] w (GivesC Any (chgE 3 vs ls x) (chgV 3 vs ls x) (chgL 3 vs ls x) w) := by
  obtain ⟨W, hW⟩ : ∃ W, W = (w.alloc (.cells #[.slice A n c, .slice A2 m c2] 24)).alloc (.cells #[.slice none 0 0, .slice none 0 0] 24) := ⟨_, rfl⟩
  have hbx : Boxes w W A n c A2 m c2 := by rw [hW]; exact boxes w A n c A2 m c2
  have hb1 := hbx.below
  have hok := fun w' (hb : Below W.heap.size W w') => confOKc_any h w' (By.ext hb1 hb)
  have hh1 := fun w' (hb : Below W.heap.size W w') => h.rhas1 x hx.1 hx.2 w' (By.ext hb1 hb)
  have hh2 := fun w' (hb : Below W.heap.size W w') => h.rhas2 x hx.1 hx.2 w' (By.ext hb1 hb)
  have HX := Lib.hid hx
  clear hx
  have HBX := Lib.hid hbx
  obtain ⟨k0, k1⟩ := hbx.cells (Below.refl _ _)
  obtain ⟨r0, r1⟩ := hbx.rcells (Below.refl _ _)
  have f0 := hbx.fz (Below.refl _ _)
  by_cases hs : confB vs ls = true
  case neg =>
    have hE : chgE 3 vs ls x = 2 := chgE_form hs
    have HV := Lib.hid (show chgV 3 vs ls x = [] by unfold chgV; rw [if_pos (by rw [hE]; decide)])
    have HL := Lib.hid (show chgL 3 vs ls x = [] by unfold chgL; rw [if_pos (by rw [hE]; decide)])
    rw [hE]
    have hsf : confB vs ls = false := by simpa using hs
    rw [hsf] at hok
    have HOK := Lib.hid hok
    clear hok hh1 hh2 hb1 h hbx hs hsf hE
    go_enter Try.func20, Try.ntmps20
    go_wp2_with fail
    rw [← hW]
    clear hW
    refine (HOK.out _ (Below.refl W.heap.size W)).mono ?_
    rintro e w2 ⟨rfl, hb⟩
    have HB2 := Lib.hid (By.ext (Below.refl W.heap.size W) hb)
    obtain ⟨k0, k1⟩ := HBX.out.cells HB2.out
    obtain ⟨r0, r1⟩ := HBX.out.rcells HB2.out
    have f0 := HBX.out.fz HB2.out
    clear hb
    go_wp2
    exact bodyPost_ret (v := .tuple #[cfV none 0 0 none 0 0, .int .i64 2]) (Kd.results_cell_tmp (p := 6) (q := 7) rfl _ _ (w.heap.size + 1) 24 #[.slice none 0 0, .slice none 0 0] (0, 0) _ rfl (HBX.out.set HB2.out _ _) Try.underlying24 conf_size) rfl (give_errA HBX.out HB2.out HV.out HL.out)
  obtain ⟨hv16, hl16⟩ := below_sound hs
  have hwo := woL_empty (x := x) hs
  by_cases hx1 : x < 1
  · have hE : chgE 3 vs ls x = 1 := chgE_arg hs (.inl hx1)
    have HV := Lib.hid (show chgV 3 vs ls x = [] by unfold chgV; rw [if_pos (by rw [hE]; decide)])
    have HL := Lib.hid (show chgL 3 vs ls x = [] by unfold chgL; rw [if_pos (by rw [hE]; decide)])
    rw [hE]
    rw [hs] at hok
    have HOK := Lib.hid hok
    have d1 : decide (x < 1) = true := decide_eq_true hx1
    clear hok hh1 hh2 hb1 h hbx hs hE hv16 hl16 hwo hx1
    go_enter Try.func20, Try.ntmps20
    go_wp2_with fail
    rw [← hW]
    clear hW
    refine (HOK.out _ (Below.refl W.heap.size W)).mono ?_
    rintro e w2 ⟨rfl, hb⟩
    have HB2 := Lib.hid (By.ext (Below.refl W.heap.size W) hb)
    obtain ⟨k0, k1⟩ := HBX.out.cells HB2.out
    obtain ⟨r0, r1⟩ := HBX.out.rcells HB2.out
    have f0 := HBX.out.fz HB2.out
    clear hb
    go_wp2
    exact bodyPost_ret (v := .tuple #[cfV none 0 0 none 0 0, .int .i64 1]) (Kd.results_cell_tmp (p := 6) (q := 7) rfl _ _ (w.heap.size + 1) 24 #[.slice none 0 0, .slice none 0 0] (0, 0) _ rfl (HBX.out.set HB2.out _ _) Try.underlying24 conf_size) rfl (give_errA HBX.out HB2.out HV.out HL.out)
  by_cases hx16 : 16 < x
  · have hE : chgE 3 vs ls x = 1 := chgE_arg hs (.inr hx16)
    have HV := Lib.hid (show chgV 3 vs ls x = [] by unfold chgV; rw [if_pos (by rw [hE]; decide)])
    have HL := Lib.hid (show chgL 3 vs ls x = [] by unfold chgL; rw [if_pos (by rw [hE]; decide)])
    rw [hE]
    rw [hs] at hok
    have HOK := Lib.hid hok
    have d1 : decide (x < 1) = false := decide_eq_false hx1
    have d2 : decide (16 < x) = true := decide_eq_true hx16
    clear hok hh1 hh2 hb1 h hbx hs hE hv16 hl16 hwo hx1 hx16
    go_enter Try.func20, Try.ntmps20
    go_wp2_with fail
    rw [← hW]
    clear hW
    refine (HOK.out _ (Below.refl W.heap.size W)).mono ?_
    rintro e w2 ⟨rfl, hb⟩
    have HB2 := Lib.hid (By.ext (Below.refl W.heap.size W) hb)
    obtain ⟨k0, k1⟩ := HBX.out.cells HB2.out
    obtain ⟨r0, r1⟩ := HBX.out.rcells HB2.out
    have f0 := HBX.out.fz HB2.out
    clear hb
    go_wp2
    exact bodyPost_ret (v := .tuple #[cfV none 0 0 none 0 0, .int .i64 1]) (Kd.results_cell_tmp (p := 6) (q := 7) rfl _ _ (w.heap.size + 1) 24 #[.slice none 0 0, .slice none 0 0] (0, 0) _ rfl (HBX.out.set HB2.out _ _) Try.underlying24 conf_size) rfl (give_errA HBX.out HB2.out HV.out HL.out)
  have he : ccErr vs ls x = 0 := by unfold ccErr; rw [if_pos hs, if_neg (by omega)]
  have d1 : decide (x < 1) = false := decide_eq_false hx1
  have d2 : decide (16 < x) = false := decide_eq_false hx16
  have hHV : ∀ w' : World, Below W.heap.size W w' → LiesI w' w'.heap.size A vs := fun w' hb => (h.below (By.ext hb1 hb)).v.lies
  have hHL : ∀ w' : World, Below W.heap.size W w' → LiesI w' w'.heap.size A2 ls := fun w' hb => (h.below (By.ext hb1 hb)).l.lies
  have HCF := Lib.hid h
  have HN := Lib.hid h.hn
  have HM := Lib.hid h.hm
  have HNV := Lib.hid h.nv
  have HNL := Lib.hid h.nl
  have HHV := Lib.hid hHV
  have HHL := Lib.hid hHL
  have HL16 := Lib.hid hl16
  have HV16 := Lib.hid hv16
  rw [hs] at hok
  have HOK := Lib.hid hok
  by_cases hv : x ∈ vs
  · by_cases hl : x ∈ ls
    · by_cases h1 : vs.length = 1
      · have hE : chgE 3 vs ls x = 15 := by unfold chgE; rw [if_neg (by rw [he]; decide), if_neg (by decide), if_neg (by decide), if_neg (not_not_intro (.inl hv)), if_pos (hwo.2 ⟨hv, h1⟩)]
        have HV := Lib.hid (show chgV 3 vs ls x = [] by unfold chgV; rw [if_pos (by rw [hE]; decide)])
        have HL := Lib.hid (show chgL 3 vs ls x = [] by unfold chgL; rw [if_pos (by rw [hE]; decide)])
        rw [hE]
        have hv9 : decide (x ∈ vs) = true := decide_eq_true hv
        have hl9 : decide (x ∈ ls) = true := decide_eq_true hl
        rw [hv9] at hh1
        rw [hl9] at hh2
        have H1 := Lib.hid hh1
        have H2 := Lib.hid hh2
        have z1 : ((n : Int) == 1) = true := by rw [beq_iff_eq]; have := HN.out; omega
        have z2 : (n == 1) = true := by rw [beq_iff_eq]; have := HN.out; omega
        clear hok hh1 hh2 hb1 h hbx hs hv16 hl16 hwo hx1 hx16 he hE hHV hHL hv hl hv9 hl9
        go_enter Try.func20, Try.ntmps20
        go_wp2_with fail
        rw [← hW]
        clear hW
        refine (HOK.out _ (Below.refl W.heap.size W)).mono ?_
        rintro e w2 ⟨rfl, hb⟩
        have HB2 := Lib.hid (By.ext (Below.refl W.heap.size W) hb)
        obtain ⟨k0, k1⟩ := HBX.out.cells HB2.out
        obtain ⟨r0, r1⟩ := HBX.out.rcells HB2.out
        have f0 := HBX.out.fz HB2.out
        clear hb
        go_wp2_with fail
        refine (H1.out _ HB2.out).mono ?_
        rintro e w3 ⟨rfl, hb⟩
        have HB3 := Lib.hid (By.ext HB2.out hb)
        obtain ⟨k0, k1⟩ := HBX.out.cells HB3.out
        obtain ⟨r0, r1⟩ := HBX.out.rcells HB3.out
        have f0 := HBX.out.fz HB3.out
        clear hb
        go_wp2_with fail
        refine (H2.out _ HB3.out).mono ?_
        rintro e w4 ⟨rfl, hb⟩
        have HB4 := Lib.hid (By.ext HB3.out hb)
        obtain ⟨k0, k1⟩ := HBX.out.cells HB4.out
        obtain ⟨r0, r1⟩ := HBX.out.rcells HB4.out
        have f0 := HBX.out.fz HB4.out
        clear hb
        go_wp2
        exact bodyPost_ret (v := .tuple #[cfV none 0 0 none 0 0, .int .i64 15]) (Kd.results_cell_tmp (p := 6) (q := 7) rfl _ _ (w.heap.size + 1) 24 #[.slice none 0 0, .slice none 0 0] (0, 0) _ rfl (HBX.out.set HB4.out _ _) Try.underlying24 conf_size) rfl (give_errA HBX.out HB4.out HV.out HL.out)
      · have hE : chgE 3 vs ls x = 0 := by unfold chgE; rw [if_neg (by rw [he]; decide), if_neg (by decide), if_neg (by decide), if_neg (not_not_intro (.inl hv)), if_neg (fun h => h1 (hwo.1 h).2)]
        have hV : chgV 3 vs ls x = woL x vs := by unfold chgV; rw [if_neg (by rw [hE]; decide), if_neg (by decide), if_neg (by decide)]
        have hL : chgL 3 vs ls x = woL x ls := by unfold chgL; rw [if_neg (by rw [hE]; decide), if_neg (by decide)]
        rw [hE, hV, hL]
        have hv9 : decide (x ∈ vs) = true := decide_eq_true hv
        have hl9 : decide (x ∈ ls) = true := decide_eq_true hl
        rw [hv9] at hh1
        rw [hl9] at hh2
        have H1 := Lib.hid hh1
        have H2 := Lib.hid hh2
        have z1 : ((n : Int) == 1) = false := by rw [beq_eq_false_iff_ne]; have := HN.out; omega
        have z2 : (n == 1) = false := by rw [beq_eq_false_iff_ne]; have := HN.out; omega
        clear h1
        have HSM := Lib.hid (show (putConf (woL x vs) (woL x ls)).length ≤ 9437184 from putConf_small (by have := woL_len x vs; omega) (by have := woL_len x ls; omega))
        have hrv := fun w' (hb : Below W.heap.size W w') => rWithout_any A n c w'.heap.size vs HN.out (by have := HN.out; omega) x w' (Nat.le_refl _) (HHV.out w' hb)
        have hrl := fun w' (hb : Below W.heap.size W w') => rWithout_any A2 m c2 w'.heap.size ls HM.out (by have := HM.out; omega) x w' (Nat.le_refl _) (HHL.out w' hb)
        generalize woL x vs = rv at hrv HSM ⊢
        have HRV := Lib.hid hrv
        generalize woL x ls = rl at hrl HSM ⊢
        have HRL := Lib.hid hrl
        clear hok hh1 hh2 hb1 h hbx hs hv16 hl16 hwo hx1 hx16 he hE hHV hHL hv hl hv9 hl9 hrl hV hL hrv
        go_enter Try.func20, Try.ntmps20
        go_wp2_with fail
        rw [← hW]
        clear hW
        refine (HOK.out _ (Below.refl W.heap.size W)).mono ?_
        rintro e w2 ⟨rfl, hb⟩
        have HB2 := Lib.hid (By.ext (Below.refl W.heap.size W) hb)
        obtain ⟨k0, k1⟩ := HBX.out.cells HB2.out
        obtain ⟨r0, r1⟩ := HBX.out.rcells HB2.out
        have f0 := HBX.out.fz HB2.out
        clear hb
        go_wp2_with fail
        refine (H1.out _ HB2.out).mono ?_
        rintro e w3 ⟨rfl, hb⟩
        have HB3 := Lib.hid (By.ext HB2.out hb)
        obtain ⟨k0, k1⟩ := HBX.out.cells HB3.out
        obtain ⟨r0, r1⟩ := HBX.out.rcells HB3.out
        have f0 := HBX.out.fz HB3.out
        clear hb
        go_wp2_with fail
        refine (H2.out _ HB3.out).mono ?_
        rintro e w4 ⟨rfl, hb⟩
        have HB4 := Lib.hid (By.ext HB3.out hb)
        obtain ⟨k0, k1⟩ := HBX.out.cells HB4.out
        obtain ⟨r0, r1⟩ := HBX.out.rcells HB4.out
        have f0 := HBX.out.fz HB4.out
        clear hb
        have hxc : ∀ w', Below (w.heap.size + 1) W w' → w'.cell? ⟨w.heap.size, 0, none⟩ = some (.slice A n c) := fun w' hb => (HBX.out.cellsW hb).1
        have hxd : ∀ w', Below (w.heap.size + 1) W w' → w'.cell? ⟨w.heap.size, 1, none⟩ = some (.slice A2 m c2) := fun w' hb => (HBX.out.cellsW hb).2
        have hs3 := HB4.out
        have hw3 := HBX.out.wk hs3
        have hw3d : Below (w.heap.size + 1) W w4.drew := hw3.drew
        have hs3d : Below W.heap.size W w4.drew := hs3.drew
        clear r0 r1 f0
        go_upto_region 20 with fail
        clear k0 k1
        go_region_held3 (fun w' => Below (w.heap.size + 1) W w')
         (first | with_reducible assumption | with_reducible exact hw3 | with_reducible exact hw3d | with_reducible exact hw5 | with_reducible exact hw5d | with_reducible exact hw6 | with_reducible exact hw6d | with_reducible exact HBX.out.setW hs6 _ _)
         (first
         | (go_at_call 35; have h9 := h5done; refine (HRL.out _ (by with_reducible first | exact hs5 | exact hs5d)).mono ?_; rintro e w6 ⟨A6, c6, rfl, hc6, hl6, hb6⟩; have hs6 : Below W.heap.size W w6 := By.ext (by with_reducible first | exact hs5 | exact hs5d) hb6; have hw6 := HBX.out.wk hs6; have hw6d : Below (w.heap.size + 1) W w6.drew := hw6.drew; have HO6 := Lib.hid hl6; have HC6 := Lib.hid hc6; have HB6 := Lib.hid hb6; have HS6 := Lib.hid hs6; obtain ⟨r0, r1⟩ := HBX.out.rcells hs6; have f0 := HBX.out.fz hs6; clear hb6 hc6 hl6)
         | (go_at_call 35; refine (HRV.out _ (by with_reducible first | exact hs3 | exact hs3d)).mono ?_; rintro e w5 ⟨A5, c5, rfl, hc5, hl5, hb5⟩; have hs5 : Below W.heap.size W w5 := By.ext (by with_reducible first | exact hs3 | exact hs3d) hb5; have hw5 := HBX.out.wk hs5; have hw5d : Below (w.heap.size + 1) W w5.drew := hw5.drew; have hs5d : Below W.heap.size W w5.drew := hs5.drew; have HO5 := Lib.hid hl5; have HC5 := Lib.hid hc5; have HB5 := Lib.hid hb5; have h5done := True.intro; clear hb5 hc5 hl5))
        all_goals
          go_wp2
          exact bodyPost_ret (v := .tuple #[cfV A5 rv.length c5 A6 rl.length c6, .int .i64 0]) (Kd.results_cell_tmp (p := 6) (q := 7) rfl _ _ (w.heap.size + 1) 24 #[.slice A5 rv.length c5, .slice A6 rl.length c6] (0, 0) _ rfl (HBX.out.set HS6.out _ _) Try.underlying24 conf_size) rfl (give_twoA HBX.out (by with_reducible first | exact hs3 | exact hs3d) (by with_reducible first | exact hs5 | exact hs5d) HS6.out HO5.out (by with_reducible first | exact HB6.out | exact drew_left HB6.out) HO6.out HC5.out HC6.out HSM.out)
    · by_cases h1 : vs.length = 1
      · have hE : chgE 3 vs ls x = 15 := by unfold chgE; rw [if_neg (by rw [he]; decide), if_neg (by decide), if_neg (by decide), if_neg (not_not_intro (.inl hv)), if_pos (hwo.2 ⟨hv, h1⟩)]
        have HV := Lib.hid (show chgV 3 vs ls x = [] by unfold chgV; rw [if_pos (by rw [hE]; decide)])
        have HL := Lib.hid (show chgL 3 vs ls x = [] by unfold chgL; rw [if_pos (by rw [hE]; decide)])
        rw [hE]
        have hv9 : decide (x ∈ vs) = true := decide_eq_true hv
        have hl9 : decide (x ∈ ls) = false := decide_eq_false hl
        rw [hv9] at hh1
        rw [hl9] at hh2
        have H1 := Lib.hid hh1
        have H2 := Lib.hid hh2
        have z1 : ((n : Int) == 1) = true := by rw [beq_iff_eq]; have := HN.out; omega
        have z2 : (n == 1) = true := by rw [beq_iff_eq]; have := HN.out; omega
        clear hok hh1 hh2 hb1 h hbx hs hv16 hl16 hwo hx1 hx16 he hE hHV hHL hv hl hv9 hl9
        go_enter Try.func20, Try.ntmps20
        go_wp2_with fail
        rw [← hW]
        clear hW
        refine (HOK.out _ (Below.refl W.heap.size W)).mono ?_
        rintro e w2 ⟨rfl, hb⟩
        have HB2 := Lib.hid (By.ext (Below.refl W.heap.size W) hb)
        obtain ⟨k0, k1⟩ := HBX.out.cells HB2.out
        obtain ⟨r0, r1⟩ := HBX.out.rcells HB2.out
        have f0 := HBX.out.fz HB2.out
        clear hb
        go_wp2_with fail
        refine (H1.out _ HB2.out).mono ?_
        rintro e w3 ⟨rfl, hb⟩
        have HB3 := Lib.hid (By.ext HB2.out hb)
        obtain ⟨k0, k1⟩ := HBX.out.cells HB3.out
        obtain ⟨r0, r1⟩ := HBX.out.rcells HB3.out
        have f0 := HBX.out.fz HB3.out
        clear hb
        go_wp2_with fail
        refine (H2.out _ HB3.out).mono ?_
        rintro e w4 ⟨rfl, hb⟩
        have HB4 := Lib.hid (By.ext HB3.out hb)
        obtain ⟨k0, k1⟩ := HBX.out.cells HB4.out
        obtain ⟨r0, r1⟩ := HBX.out.rcells HB4.out
        have f0 := HBX.out.fz HB4.out
        clear hb
        go_wp2
        exact bodyPost_ret (v := .tuple #[cfV none 0 0 none 0 0, .int .i64 15]) (Kd.results_cell_tmp (p := 6) (q := 7) rfl _ _ (w.heap.size + 1) 24 #[.slice none 0 0, .slice none 0 0] (0, 0) _ rfl (HBX.out.set HB4.out _ _) Try.underlying24 conf_size) rfl (give_errA HBX.out HB4.out HV.out HL.out)
      · have hE : chgE 3 vs ls x = 0 := by unfold chgE; rw [if_neg (by rw [he]; decide), if_neg (by decide), if_neg (by decide), if_neg (not_not_intro (.inl hv)), if_neg (fun h => h1 (hwo.1 h).2)]
        have hV : chgV 3 vs ls x = woL x vs := by unfold chgV; rw [if_neg (by rw [hE]; decide), if_neg (by decide), if_neg (by decide)]
        have hL : chgL 3 vs ls x = woL x ls := by unfold chgL; rw [if_neg (by rw [hE]; decide), if_neg (by decide)]
        rw [hE, hV, hL]
        have hv9 : decide (x ∈ vs) = true := decide_eq_true hv
        have hl9 : decide (x ∈ ls) = false := decide_eq_false hl
        rw [hv9] at hh1
        rw [hl9] at hh2
        have H1 := Lib.hid hh1
        have H2 := Lib.hid hh2
        have z1 : ((n : Int) == 1) = false := by rw [beq_eq_false_iff_ne]; have := HN.out; omega
        have z2 : (n == 1) = false := by rw [beq_eq_false_iff_ne]; have := HN.out; omega
        clear h1
        have HSM := Lib.hid (show (putConf (woL x vs) (woL x ls)).length ≤ 9437184 from putConf_small (by have := woL_len x vs; omega) (by have := woL_len x ls; omega))
        have hrv := fun w' (hb : Below W.heap.size W w') => rWithout_any A n c w'.heap.size vs HN.out (by have := HN.out; omega) x w' (Nat.le_refl _) (HHV.out w' hb)
        have hrl := fun w' (hb : Below W.heap.size W w') => rWithout_any A2 m c2 w'.heap.size ls HM.out (by have := HM.out; omega) x w' (Nat.le_refl _) (HHL.out w' hb)
        generalize woL x vs = rv at hrv HSM ⊢
        have HRV := Lib.hid hrv
        generalize woL x ls = rl at hrl HSM ⊢
        have HRL := Lib.hid hrl
        clear hok hh1 hh2 hb1 h hbx hs hv16 hl16 hwo hx1 hx16 he hE hHV hHL hv hl hv9 hl9 hrl hV hL hrv
        go_enter Try.func20, Try.ntmps20
        go_wp2_with fail
        rw [← hW]
        clear hW
        refine (HOK.out _ (Below.refl W.heap.size W)).mono ?_
        rintro e w2 ⟨rfl, hb⟩
        have HB2 := Lib.hid (By.ext (Below.refl W.heap.size W) hb)
        obtain ⟨k0, k1⟩ := HBX.out.cells HB2.out
        obtain ⟨r0, r1⟩ := HBX.out.rcells HB2.out
        have f0 := HBX.out.fz HB2.out
        clear hb
        go_wp2_with fail
        refine (H1.out _ HB2.out).mono ?_
        rintro e w3 ⟨rfl, hb⟩
        have HB3 := Lib.hid (By.ext HB2.out hb)
        obtain ⟨k0, k1⟩ := HBX.out.cells HB3.out
        obtain ⟨r0, r1⟩ := HBX.out.rcells HB3.out
        have f0 := HBX.out.fz HB3.out
        clear hb
        go_wp2_with fail
        refine (H2.out _ HB3.out).mono ?_
        rintro e w4 ⟨rfl, hb⟩
        have HB4 := Lib.hid (By.ext HB3.out hb)
        obtain ⟨k0, k1⟩ := HBX.out.cells HB4.out
        obtain ⟨r0, r1⟩ := HBX.out.rcells HB4.out
        have f0 := HBX.out.fz HB4.out
        clear hb
        have hxc : ∀ w', Below (w.heap.size + 1) W w' → w'.cell? ⟨w.heap.size, 0, none⟩ = some (.slice A n c) := fun w' hb => (HBX.out.cellsW hb).1
        have hxd : ∀ w', Below (w.heap.size + 1) W w' → w'.cell? ⟨w.heap.size, 1, none⟩ = some (.slice A2 m c2) := fun w' hb => (HBX.out.cellsW hb).2
        have hs3 := HB4.out
        have hw3 := HBX.out.wk hs3
        have hw3d : Below (w.heap.size + 1) W w4.drew := hw3.drew
        have hs3d : Below W.heap.size W w4.drew := hs3.drew
        clear r0 r1 f0
        go_upto_region 20 with fail
        clear k0 k1
        go_region_held3 (fun w' => Below (w.heap.size + 1) W w')
         (first | with_reducible assumption | with_reducible exact hw3 | with_reducible exact hw3d | with_reducible exact hw5 | with_reducible exact hw5d | with_reducible exact hw6 | with_reducible exact hw6d | with_reducible exact HBX.out.setW hs6 _ _)
         (first
         | (go_at_call 35; have h9 := h5done; refine (HRL.out _ (by with_reducible first | exact hs5 | exact hs5d)).mono ?_; rintro e w6 ⟨A6, c6, rfl, hc6, hl6, hb6⟩; have hs6 : Below W.heap.size W w6 := By.ext (by with_reducible first | exact hs5 | exact hs5d) hb6; have hw6 := HBX.out.wk hs6; have hw6d : Below (w.heap.size + 1) W w6.drew := hw6.drew; have HO6 := Lib.hid hl6; have HC6 := Lib.hid hc6; have HB6 := Lib.hid hb6; have HS6 := Lib.hid hs6; obtain ⟨r0, r1⟩ := HBX.out.rcells hs6; have f0 := HBX.out.fz hs6; clear hb6 hc6 hl6)
         | (go_at_call 35; refine (HRV.out _ (by with_reducible first | exact hs3 | exact hs3d)).mono ?_; rintro e w5 ⟨A5, c5, rfl, hc5, hl5, hb5⟩; have hs5 : Below W.heap.size W w5 := By.ext (by with_reducible first | exact hs3 | exact hs3d) hb5; have hw5 := HBX.out.wk hs5; have hw5d : Below (w.heap.size + 1) W w5.drew := hw5.drew; have hs5d : Below W.heap.size W w5.drew := hs5.drew; have HO5 := Lib.hid hl5; have HC5 := Lib.hid hc5; have HB5 := Lib.hid hb5; have h5done := True.intro; clear hb5 hc5 hl5))
        all_goals
          go_wp2
          exact bodyPost_ret (v := .tuple #[cfV A5 rv.length c5 A6 rl.length c6, .int .i64 0]) (Kd.results_cell_tmp (p := 6) (q := 7) rfl _ _ (w.heap.size + 1) 24 #[.slice A5 rv.length c5, .slice A6 rl.length c6] (0, 0) _ rfl (HBX.out.set HS6.out _ _) Try.underlying24 conf_size) rfl (give_twoA HBX.out (by with_reducible first | exact hs3 | exact hs3d) (by with_reducible first | exact hs5 | exact hs5d) HS6.out HO5.out (by with_reducible first | exact HB6.out | exact drew_left HB6.out) HO6.out HC5.out HC6.out HSM.out)
  · by_cases hl : x ∈ ls
    · have hE : chgE 3 vs ls x = 0 := by unfold chgE; rw [if_neg (by rw [he]; decide), if_neg (by decide), if_neg (by decide), if_neg (not_not_intro (.inr hl)), if_neg (fun h => hv (hwo.1 h).1)]
      have hV : chgV 3 vs ls x = woL x vs := by unfold chgV; rw [if_neg (by rw [hE]; decide), if_neg (by decide), if_neg (by decide)]
      have hL : chgL 3 vs ls x = woL x ls := by unfold chgL; rw [if_neg (by rw [hE]; decide), if_neg (by decide)]
      rw [hE, hV, hL]
      have hv9 : decide (x ∈ vs) = false := decide_eq_false hv
      have hl9 : decide (x ∈ ls) = true := decide_eq_true hl
      rw [hv9] at hh1
      rw [hl9] at hh2
      have H1 := Lib.hid hh1
      have H2 := Lib.hid hh2
      have HSM := Lib.hid (show (putConf (woL x vs) (woL x ls)).length ≤ 9437184 from putConf_small (by have := woL_len x vs; omega) (by have := woL_len x ls; omega))
      have hrv := fun w' (hb : Below W.heap.size W w') => rWithout_any A n c w'.heap.size vs HN.out (by have := HN.out; omega) x w' (Nat.le_refl _) (HHV.out w' hb)
      have hrl := fun w' (hb : Below W.heap.size W w') => rWithout_any A2 m c2 w'.heap.size ls HM.out (by have := HM.out; omega) x w' (Nat.le_refl _) (HHL.out w' hb)
      generalize woL x vs = rv at hrv HSM ⊢
      have HRV := Lib.hid hrv
      generalize woL x ls = rl at hrl HSM ⊢
      have HRL := Lib.hid hrl
      clear hok hh1 hh2 hb1 h hbx hs hv16 hl16 hwo hx1 hx16 he hE hHV hHL hv hl hv9 hl9 hrl hV hL hrv
      go_enter Try.func20, Try.ntmps20
      go_wp2_with fail
      rw [← hW]
      clear hW
      refine (HOK.out _ (Below.refl W.heap.size W)).mono ?_
      rintro e w2 ⟨rfl, hb⟩
      have HB2 := Lib.hid (By.ext (Below.refl W.heap.size W) hb)
      obtain ⟨k0, k1⟩ := HBX.out.cells HB2.out
      obtain ⟨r0, r1⟩ := HBX.out.rcells HB2.out
      have f0 := HBX.out.fz HB2.out
      clear hb
      go_wp2_with fail
      refine (H1.out _ HB2.out).mono ?_
      rintro e w3 ⟨rfl, hb⟩
      have HB3 := Lib.hid (By.ext HB2.out hb)
      obtain ⟨k0, k1⟩ := HBX.out.cells HB3.out
      obtain ⟨r0, r1⟩ := HBX.out.rcells HB3.out
      have f0 := HBX.out.fz HB3.out
      clear hb
      go_wp2_with fail
      refine (H2.out _ HB3.out).mono ?_
      rintro e w4 ⟨rfl, hb⟩
      have HB4 := Lib.hid (By.ext HB3.out hb)
      obtain ⟨k0, k1⟩ := HBX.out.cells HB4.out
      obtain ⟨r0, r1⟩ := HBX.out.rcells HB4.out
      have f0 := HBX.out.fz HB4.out
      clear hb
      have hxc : ∀ w', Below (w.heap.size + 1) W w' → w'.cell? ⟨w.heap.size, 0, none⟩ = some (.slice A n c) := fun w' hb => (HBX.out.cellsW hb).1
      have hxd : ∀ w', Below (w.heap.size + 1) W w' → w'.cell? ⟨w.heap.size, 1, none⟩ = some (.slice A2 m c2) := fun w' hb => (HBX.out.cellsW hb).2
      have hs3 := HB4.out
      have hw3 := HBX.out.wk hs3
      have hw3d : Below (w.heap.size + 1) W w4.drew := hw3.drew
      have hs3d : Below W.heap.size W w4.drew := hs3.drew
      clear r0 r1 f0
      go_upto_region 20 with fail
      clear k0 k1
      go_region_held3 (fun w' => Below (w.heap.size + 1) W w')
       (first | with_reducible assumption | with_reducible exact hw3 | with_reducible exact hw3d | with_reducible exact hw5 | with_reducible exact hw5d | with_reducible exact hw6 | with_reducible exact hw6d | with_reducible exact HBX.out.setW hs6 _ _)
       (first
       | (go_at_call 35; have h9 := h5done; refine (HRL.out _ (by with_reducible first | exact hs5 | exact hs5d)).mono ?_; rintro e w6 ⟨A6, c6, rfl, hc6, hl6, hb6⟩; have hs6 : Below W.heap.size W w6 := By.ext (by with_reducible first | exact hs5 | exact hs5d) hb6; have hw6 := HBX.out.wk hs6; have hw6d : Below (w.heap.size + 1) W w6.drew := hw6.drew; have HO6 := Lib.hid hl6; have HC6 := Lib.hid hc6; have HB6 := Lib.hid hb6; have HS6 := Lib.hid hs6; obtain ⟨r0, r1⟩ := HBX.out.rcells hs6; have f0 := HBX.out.fz hs6; clear hb6 hc6 hl6)
       | (go_at_call 35; refine (HRV.out _ (by with_reducible first | exact hs3 | exact hs3d)).mono ?_; rintro e w5 ⟨A5, c5, rfl, hc5, hl5, hb5⟩; have hs5 : Below W.heap.size W w5 := By.ext (by with_reducible first | exact hs3 | exact hs3d) hb5; have hw5 := HBX.out.wk hs5; have hw5d : Below (w.heap.size + 1) W w5.drew := hw5.drew; have hs5d : Below W.heap.size W w5.drew := hs5.drew; have HO5 := Lib.hid hl5; have HC5 := Lib.hid hc5; have HB5 := Lib.hid hb5; have h5done := True.intro; clear hb5 hc5 hl5))
      all_goals
        go_wp2
        exact bodyPost_ret (v := .tuple #[cfV A5 rv.length c5 A6 rl.length c6, .int .i64 0]) (Kd.results_cell_tmp (p := 6) (q := 7) rfl _ _ (w.heap.size + 1) 24 #[.slice A5 rv.length c5, .slice A6 rl.length c6] (0, 0) _ rfl (HBX.out.set HS6.out _ _) Try.underlying24 conf_size) rfl (give_twoA HBX.out (by with_reducible first | exact hs3 | exact hs3d) (by with_reducible first | exact hs5 | exact hs5d) HS6.out HO5.out (by with_reducible first | exact HB6.out | exact drew_left HB6.out) HO6.out HC5.out HC6.out HSM.out)
    · have hE : chgE 3 vs ls x = 8 := by unfold chgE; rw [if_neg (by rw [he]; decide), if_neg (by decide), if_neg (by decide), if_pos (fun h => h.elim hv hl)]
      have HV := Lib.hid (show chgV 3 vs ls x = [] by unfold chgV; rw [if_pos (by rw [hE]; decide)])
      have HL := Lib.hid (show chgL 3 vs ls x = [] by unfold chgL; rw [if_pos (by rw [hE]; decide)])
      rw [hE]
      have hv9 : decide (x ∈ vs) = false := decide_eq_false hv
      have hl9 : decide (x ∈ ls) = false := decide_eq_false hl
      rw [hv9] at hh1
      rw [hl9] at hh2
      have H1 := Lib.hid hh1
      have H2 := Lib.hid hh2
      clear hok hh1 hh2 hb1 h hbx hs hv16 hl16 hwo hx1 hx16 he hE hHV hHL hv hl hv9 hl9
      go_enter Try.func20, Try.ntmps20
      go_wp2_with fail
      rw [← hW]
      clear hW
      refine (HOK.out _ (Below.refl W.heap.size W)).mono ?_
      rintro e w2 ⟨rfl, hb⟩
      have HB2 := Lib.hid (By.ext (Below.refl W.heap.size W) hb)
      obtain ⟨k0, k1⟩ := HBX.out.cells HB2.out
      obtain ⟨r0, r1⟩ := HBX.out.rcells HB2.out
      have f0 := HBX.out.fz HB2.out
      clear hb
      go_wp2_with fail
      refine (H1.out _ HB2.out).mono ?_
      rintro e w3 ⟨rfl, hb⟩
      have HB3 := Lib.hid (By.ext HB2.out hb)
      obtain ⟨k0, k1⟩ := HBX.out.cells HB3.out
      obtain ⟨r0, r1⟩ := HBX.out.rcells HB3.out
      have f0 := HBX.out.fz HB3.out
      clear hb
      go_wp2_with fail
      refine (H2.out _ HB3.out).mono ?_
      rintro e w4 ⟨rfl, hb⟩
      have HB4 := Lib.hid (By.ext HB3.out hb)
      obtain ⟨k0, k1⟩ := HBX.out.cells HB4.out
      obtain ⟨r0, r1⟩ := HBX.out.rcells HB4.out
      have f0 := HBX.out.fz HB4.out
      clear hb
      go_wp2
      exact bodyPost_ret (v := .tuple #[cfV none 0 0 none 0 0, .int .i64 8]) (Kd.results_cell_tmp (p := 6) (q := 7) rfl _ _ (w.heap.size + 1) 24 #[.slice none 0 0, .slice none 0 0] (0, 0) _ rfl (HBX.out.set HB4.out _ _) Try.underlying24 conf_size) rfl (give_errA HBX.out HB4.out HV.out HL.out)
end Go.Proofs.Ythocmnfmialcaaa.Cn

/-! The law's answers and change, as contracts of calls. Written by gencn4.py. -/
namespace Go.Proofs.Ythocmnfmialcaaa.Cn
open Go.RowKit Go.ChangeAt By CoP Co Mo Kd Go.Shelf
variable {w W w' : World} {A A2 : Option Addr} {n c m c2 : Nat} {vs ls : List Int}
/-- Gives a configuration. -/
def GivesV (S : World → World → Nat → Prop) (vs ls : List Int) (w : World) (e : Ending) (w' : World) : Prop :=
  ∃ A n c A2 m c2, e = .returned (cfV A n c A2 m c2) ∧ CfAt w' (S w w') A n c A2 m c2 vs ls ∧ Below w.heap.size w w'
theorem ownC_any (h : CfAt w (Old w) A n c A2 m c2 vs ls) : Calls Try.prog 10 #[cfV A n c A2 m c2] w (GivesV New vs ls w) := by
  refine (ownConf_any (xs := [.slice A n c, .slice A2 m c2]) w h.rep (by rw [conf_put]; exact h.sm)).mono ?_
  rintro e w' ⟨xs, rfl, hr, hb⟩
  obtain ⟨A', n', c', A2', m', c2', vs', ls', h1, h2, h3⟩ := cf_open hr (by rw [conf_put]; exact h.sm)
  obtain ⟨rfl, rfl⟩ := confD_inj h2
  obtain ⟨xl⟩ := xs
  dsimp only at h1
  subst h1
  exact ⟨A', n', c', A2', m', c2', rfl, h3, hb⟩
theorem sameC_any {A3 A4 : Option Addr} {n3 c3 n4 c4 : Nat} {us ks : List Int} (h : CfAt w (Old w) A n c A2 m c2 vs ls) (k : CfAt w (Old w) A3 n3 c3 A4 n4 c4 us ks) : Calls Try.prog 21 #[cfV A n c A2 m c2, cfV A3 n3 c3 A4 n4 c4] w (Says (decide (vs = us) && decide (ls = ks)) w) :=
  same_conf (xs := [.slice A n c, .slice A2 m c2]) (ys := [.slice A3 n3 c3, .slice A4 n4 c4]) w h.rep k.rep
/-- What is given stays, where the result's box is written. -/
theorem CfAt.box {w wa wb : World} {g : Nat} {A A2 : Option Addr} {n c m c2 : Nat} {vs ls : List Int} (h : CfAt wb (NewF wa wb) A n c A2 m c2 vs ls) (hg : g < wa.heap.size) (hbase : w.heap.size ≤ wa.heap.size) (x y : Value) :
    CfAt ((wb.setCell ⟨g, 0, none⟩ x).setCell ⟨g, 1, none⟩ y) (NewF w ((wb.setCell ⟨g, 0, none⟩ x).setCell ⟨g, 1, none⟩ y)) A n c A2 m c2 vs ls :=
  ⟨h.hn, h.hm, h.v.box (Below.refl _ _) hg w hbase x y, h.l.box (Below.refl _ _) hg w hbase x y, h.cv, h.cl, h.sm⟩
theorem quor123 : quorB [1, 2, 3] [] [1, 3] = true := by decide
theorem conf00 : confB [] [] = false := by decide
set_option maxHeartbeats 1000000 in
theorem answers_any (w : World) : Calls Try.prog 12 #[] w (Says true w) := by
  obtain ⟨w1, hw1⟩ : ∃ w1, w1 = w.alloc (.cells #[.int .i64 1, .int .i64 2, .int .i64 3] 3) := ⟨_, rfl⟩
  have z1 : w1.heap.size = w.heap.size + 1 := by rw [hw1]; exact World.size_alloc w _
  obtain ⟨w2, hw2⟩ : ∃ w2, w2 = w1.alloc (.cells #[.slice (some ⟨w.heap.size, 0, none⟩) 3 3, .slice none 0 0] 24) := ⟨_, rfl⟩
  have z2 : w2.heap.size = w.heap.size + 1 + 1 := by rw [hw2, World.size_alloc, z1]
  obtain ⟨w3, hw3⟩ : ∃ w3, w3 = w2.alloc (.cells #[.int .i64 1, .int .i64 3] 3) := ⟨_, rfl⟩
  have z3 : w3.heap.size = w.heap.size + 1 + 1 + 1 := by rw [hw3, World.size_alloc, z2]
  have hb1 : Below w.heap.size w w1 := by rw [hw1]; exact (Below.refl _ _).alloc (Nat.le_refl _) _
  have hb2 : Below w.heap.size w w2 := by rw [hw2]; exact hb1.alloc (by omega) _
  have hb3 : Below w.heap.size w w3 := by rw [hw3]; exact hb2.alloc (by omega) _
  have e1 : w1.heap[w.heap.size]? = some (.cells #[.int .i64 1, .int .i64 2, .int .i64 3] 3 (0, 0)) := by rw [hw1]; exact heap_alloc_new w _
  have e2 : w2.heap[w.heap.size]? = some (.cells #[.int .i64 1, .int .i64 2, .int .i64 3] 3 (0, 0)) := by rw [hw2]; exact (heap_alloc_old w1 _ (row_lt e1)).trans e1
  have e3 : w3.heap[w.heap.size]? = some (.cells #[.int .i64 1, .int .i64 2, .int .i64 3] 3 (0, 0)) := by rw [hw3]; exact (heap_alloc_old w2 _ (row_lt e2)).trans e2
  have g3 : w3.heap[w.heap.size + 1 + 1]? = some (.cells #[.int .i64 1, .int .i64 3] 3 (0, 0)) := by rw [hw3, ← z2]; exact heap_alloc_new w2 _
  have r2 : w2.heap[w.heap.size + 1]? = some (.cells #[.slice (some ⟨w.heap.size, 0, none⟩) 3 3, .slice none 0 0] 24 (0, 0)) := by rw [hw2, ← z1]; exact heap_alloc_new w1 _
  have hcf : CfAt w3 (Old w3) (some ⟨w.heap.size, 0, none⟩) 3 3 none 0 0 [1, 2, 3] [] := ⟨rfl, rfl, fun _ => ⟨_, 0, rfl, row_lt e3, fun j x hx => by
    have hj : j < 3 := (List.getElem?_eq_some_iff.1 hx).1
    rw [cell_of_row w3 _ _ _ _ _ e3]
    match j, hj with
    | 0, _ => obtain rfl : 1 = x := by simpa using hx
              exact ⟨rfl, by decide, by decide⟩
    | 1, _ => obtain rfl : 2 = x := by simpa using hx
              exact ⟨rfl, by decide, by decide⟩
    | 2, _ => obtain rfl : 3 = x := by simpa using hx
              exact ⟨rfl, by decide, by decide⟩⟩, Ls.nil _ _ _, Nat.le_refl _, Nat.le_refl _, putConf_small (by decide) (by decide)⟩
  have hids : LiesI w3 w3.heap.size (some ⟨w.heap.size + 1 + 1, 0, none⟩) [1, 3] := fun _ => ⟨_, 0, rfl, row_lt g3, fun j x hx => by
    have hj : j < 2 := (List.getElem?_eq_some_iff.1 hx).1
    rw [cell_of_row w3 _ _ _ _ _ g3]
    match j, hj with
    | 0, _ => obtain rfl : 1 = x := by simpa using hx
              exact ⟨rfl, by decide, by decide⟩
    | 1, _ => obtain rfl : 3 = x := by simpa using hx
              exact ⟨rfl, by decide, by decide⟩⟩
  have hq := quorum_any hcf (some ⟨w.heap.size + 1 + 1, 0, none⟩) 2 2 [1, 3] rfl (by decide) hids
  rw [quor123] at hq
  have hk : ∀ w', Calls Try.prog 9 #[cfV none 0 0 none 0 0] w' (Tells (.int .i64 2) w') := fun w' => check_any (CfAt.empty w' (Old w'))
  have HQ := Lib.hid hq
  have HK := Lib.hid hk
  have HB3 := Lib.hid hb3
  have c20 : w2.cell? ⟨w.heap.size + 1, 0, none⟩ = some (.slice (some ⟨w.heap.size, 0, none⟩) 3 3) := by rw [cell_of_row w2 _ 0 _ _ _ r2]; rfl
  have c21 : w2.cell? ⟨w.heap.size + 1, 1, none⟩ = some (.slice none 0 0) := by rw [cell_of_row w2 _ 1 _ _ _ r2]; rfl
  have HW1 := Lib.hid hw1
  have HW2 := Lib.hid hw2
  have HW3 := Lib.hid hw3
  have HZ1 := Lib.hid z1
  have HZ2 := Lib.hid z2
  clear hq hk hb1 hb2 hb3 e1 e2 e3 g3 r2 hcf hids hw1 hw2 hw3 z1 z2 z3
  go_enter Try.func12, Try.ntmps12
  go_upto_region 2 with fail
  rw [← HW1.out, ← HW2.out]
  have hq2 := HQ.out
  rw [← HZ2.out] at hq2
  have HQ2 := Lib.hid hq2
  clear hq2
  go_wp2_with fail
  rw [← HW3.out]
  refine HQ2.out.mono ?_
  rintro e w4 ⟨rfl, hb4⟩
  have HB4 := Lib.hid (By.ext HB3.out hb4)
  clear hb4
  go_wp2_with fail
  refine (HK.out _).mono ?_
  rintro e w5 ⟨rfl, hb5⟩
  have HB5 := Lib.hid (By.ext HB4.out hb5)
  clear hb5
  go_wp2
  go_ret
  exact ⟨rfl, HB5.out⟩
set_option maxHeartbeats 1000000 in
theorem change1_any (h : CfAt w (Old w) A n c A2 m c2 vs ls) (x : Int) : Calls Try.prog 19 #[.int .i64 1, cfV A n c A2 m c2, .int .i64 x] w (GivesC NewF (chgE 1 vs ls x) (chgV 1 vs ls x) (chgL 1 vs ls x) w) := by
  obtain ⟨W, hW⟩ : ∃ W, W = (w.alloc (.cells #[.slice A n c, .slice A2 m c2] 24)).alloc (.cells #[.slice none 0 0, .slice none 0 0] 24) := ⟨_, rfl⟩
  have hbx : Boxes w W A n c A2 m c2 := by rw [hW]; exact boxes w A n c A2 m c2
  have HO := Lib.hid (ownC_any (h.below hbx.below))
  have HBX := Lib.hid hbx
  have HL := Lib.hid (fun (w : World) (A : Option Addr) (n c : Nat) (A2 : Option Addr) (m c2 : Nat) (h : CfAt w (Old w) A n c A2 m c2 vs ls) => learn_any h x)
  obtain ⟨k0, k1⟩ := hbx.cells (Below.refl _ _)
  obtain ⟨r0, r1⟩ := hbx.rcells (Below.refl _ _)
  have f0 := hbx.fz (Below.refl _ _)
  generalize chgE 1 vs ls x = er at HL ⊢
  generalize chgV 1 vs ls x = us at HL ⊢
  generalize chgL 1 vs ls x = ks at HL ⊢
  clear hbx h
  go_enter Try.func19, Try.ntmps19
  go_wp2_with fail
  rw [← hW]
  clear hW
  refine HO.out.mono ?_
  rintro e w2 ⟨A', n', c', A2', m', c2', rfl, h2, hb2⟩
  have HB2 := Lib.hid hb2
  have H2 := Lib.hid (h2.less (fun b hb => hb.2 : ∀ b, New W w2 b → Old w2 b))
  obtain ⟨k0, k1⟩ := HBX.out.cells hb2
  obtain ⟨r0, r1⟩ := HBX.out.rcells hb2
  have f0 := HBX.out.fz hb2
  clear h2 hb2
  go_wp2_with fail
  refine (HL.out w2 _ _ _ _ _ _ H2.out).mono ?_
  rintro e w3 ⟨A4, n4, c4, A5, n5, c5, rfl, h3, hb3⟩
  have HB3 := Lib.hid (By.ext HB2.out hb3)
  have H3 := Lib.hid h3
  obtain ⟨k0, k1⟩ := HBX.out.cells HB3.out
  obtain ⟨r0, r1⟩ := HBX.out.rcells HB3.out
  have f0 := HBX.out.fz HB3.out
  clear h3 hb3
  go_wp2
  exact bodyPost_ret (v := .tuple #[cfV A4 n4 c4 A5 n5 c5, .int .i64 er]) (Kd.results_cell_tmp (p := 6) (q := 7) rfl _ _ (w.heap.size + 1) 24 #[.slice A4 n4 c4, .slice A5 n5 c5] (0, 0) _ rfl (HBX.out.set HB3.out _ _) Try.underlying24 conf_size) rfl
    ⟨A4, n4, c4, A5, n5, c5, rfl, H3.out.box (by have h1 := HBX.out.size; have h2 := HB2.out.size; omega) (by have h1 := HBX.out.size; have h2 := HB2.out.size; omega) _ _, HBX.out.setBelow HB3.out _ _⟩
set_option maxHeartbeats 1000000 in
theorem change2_any (h : CfAt w (Old w) A n c A2 m c2 vs ls) (x : Int) : Calls Try.prog 19 #[.int .i64 2, cfV A n c A2 m c2, .int .i64 x] w (GivesC NewF (chgE 2 vs ls x) (chgV 2 vs ls x) (chgL 2 vs ls x) w) := by
  obtain ⟨W, hW⟩ : ∃ W, W = (w.alloc (.cells #[.slice A n c, .slice A2 m c2] 24)).alloc (.cells #[.slice none 0 0, .slice none 0 0] 24) := ⟨_, rfl⟩
  have hbx : Boxes w W A n c A2 m c2 := by rw [hW]; exact boxes w A n c A2 m c2
  have HO := Lib.hid (ownC_any (h.below hbx.below))
  have HBX := Lib.hid hbx
  have HL := Lib.hid (fun (w : World) (A : Option Addr) (n c : Nat) (A2 : Option Addr) (m c2 : Nat) (h : CfAt w (Old w) A n c A2 m c2 vs ls) => vote_any h x)
  obtain ⟨k0, k1⟩ := hbx.cells (Below.refl _ _)
  obtain ⟨r0, r1⟩ := hbx.rcells (Below.refl _ _)
  have f0 := hbx.fz (Below.refl _ _)
  generalize chgE 2 vs ls x = er at HL ⊢
  generalize chgV 2 vs ls x = us at HL ⊢
  generalize chgL 2 vs ls x = ks at HL ⊢
  clear hbx h
  go_enter Try.func19, Try.ntmps19
  go_wp2_with fail
  rw [← hW]
  clear hW
  refine HO.out.mono ?_
  rintro e w2 ⟨A', n', c', A2', m', c2', rfl, h2, hb2⟩
  have HB2 := Lib.hid hb2
  have H2 := Lib.hid (h2.less (fun b hb => hb.2 : ∀ b, New W w2 b → Old w2 b))
  obtain ⟨k0, k1⟩ := HBX.out.cells hb2
  obtain ⟨r0, r1⟩ := HBX.out.rcells hb2
  have f0 := HBX.out.fz hb2
  clear h2 hb2
  go_wp2_with fail
  refine (HL.out w2 _ _ _ _ _ _ H2.out).mono ?_
  rintro e w3 ⟨A4, n4, c4, A5, n5, c5, rfl, h3, hb3⟩
  have HB3 := Lib.hid (By.ext HB2.out hb3)
  have H3 := Lib.hid h3
  obtain ⟨k0, k1⟩ := HBX.out.cells HB3.out
  obtain ⟨r0, r1⟩ := HBX.out.rcells HB3.out
  have f0 := HBX.out.fz HB3.out
  clear h3 hb3
  go_wp2
  exact bodyPost_ret (v := .tuple #[cfV A4 n4 c4 A5 n5 c5, .int .i64 er]) (Kd.results_cell_tmp (p := 6) (q := 7) rfl _ _ (w.heap.size + 1) 24 #[.slice A4 n4 c4, .slice A5 n5 c5] (0, 0) _ rfl (HBX.out.set HB3.out _ _) Try.underlying24 conf_size) rfl
    ⟨A4, n4, c4, A5, n5, c5, rfl, H3.out.box (by have h1 := HBX.out.size; have h2 := HB2.out.size; omega) (by have h1 := HBX.out.size; have h2 := HB2.out.size; omega) _ _, HBX.out.setBelow HB3.out _ _⟩
set_option maxHeartbeats 1000000 in
theorem change3_any (h : CfAt w (Old w) A n c A2 m c2 vs ls) (x : Int) : Calls Try.prog 19 #[.int .i64 3, cfV A n c A2 m c2, .int .i64 x] w (GivesC NewF (chgE 3 vs ls x) (chgV 3 vs ls x) (chgL 3 vs ls x) w) := by
  obtain ⟨W, hW⟩ : ∃ W, W = (w.alloc (.cells #[.slice A n c, .slice A2 m c2] 24)).alloc (.cells #[.slice none 0 0, .slice none 0 0] 24) := ⟨_, rfl⟩
  have hbx : Boxes w W A n c A2 m c2 := by rw [hW]; exact boxes w A n c A2 m c2
  have HO := Lib.hid (ownC_any (h.below hbx.below))
  have HBX := Lib.hid hbx
  have HL := Lib.hid (fun (w : World) (A : Option Addr) (n c : Nat) (A2 : Option Addr) (m c2 : Nat) (h : CfAt w (Old w) A n c A2 m c2 vs ls) => leave_any h x)
  obtain ⟨k0, k1⟩ := hbx.cells (Below.refl _ _)
  obtain ⟨r0, r1⟩ := hbx.rcells (Below.refl _ _)
  have f0 := hbx.fz (Below.refl _ _)
  generalize chgE 3 vs ls x = er at HL ⊢
  generalize chgV 3 vs ls x = us at HL ⊢
  generalize chgL 3 vs ls x = ks at HL ⊢
  clear hbx h
  go_enter Try.func19, Try.ntmps19
  go_wp2_with fail
  rw [← hW]
  clear hW
  refine HO.out.mono ?_
  rintro e w2 ⟨A', n', c', A2', m', c2', rfl, h2, hb2⟩
  have HB2 := Lib.hid hb2
  have H2 := Lib.hid (h2.less (fun b hb => hb.2 : ∀ b, New W w2 b → Old w2 b))
  obtain ⟨k0, k1⟩ := HBX.out.cells hb2
  obtain ⟨r0, r1⟩ := HBX.out.rcells hb2
  have f0 := HBX.out.fz hb2
  clear h2 hb2
  go_wp2_with fail
  refine (HL.out w2 _ _ _ _ _ _ H2.out).mono ?_
  rintro e w3 ⟨A4, n4, c4, A5, n5, c5, rfl, h3, hb3⟩
  have HB3 := Lib.hid (By.ext HB2.out hb3)
  have H3 := Lib.hid h3
  obtain ⟨k0, k1⟩ := HBX.out.cells HB3.out
  obtain ⟨r0, r1⟩ := HBX.out.rcells HB3.out
  have f0 := HBX.out.fz HB3.out
  clear h3 hb3
  go_wp2
  exact bodyPost_ret (v := .tuple #[cfV A4 n4 c4 A5 n5 c5, .int .i64 er]) (Kd.results_cell_tmp (p := 6) (q := 7) rfl _ _ (w.heap.size + 1) 24 #[.slice A4 n4 c4, .slice A5 n5 c5] (0, 0) _ rfl (HBX.out.set HB3.out _ _) Try.underlying24 conf_size) rfl
    ⟨A4, n4, c4, A5, n5, c5, rfl, H3.out.box (by have h1 := HBX.out.size; have h2 := HB2.out.size; omega) (by have h1 := HBX.out.size; have h2 := HB2.out.size; omega) _ _, HBX.out.setBelow HB3.out _ _⟩
end Go.Proofs.Ythocmnfmialcaaa.Cn

/-! The law ConfChanges, walked. -/
namespace Go.Proofs.Ythocmnfmialcaaa.Cn
open Go.RowKit Go.ChangeAt By CoP Co Mo Kd Go.Shelf
variable {w W w' : World} {A A2 : Option Addr} {n c m c2 : Nat} {vs ls : List Int}
/-- The law's change and the reference's, for any of the three kinds. -/
theorem change_any (k : Nat) (hk : k = 1 ∨ k = 2 ∨ k = 3) (h : CfAt w (Old w) A n c A2 m c2 vs ls) (x : Int) : Calls Try.prog 19 #[.int .i64 k, cfV A n c A2 m c2, .int .i64 x] w (GivesC NewF (chgE k vs ls x) (chgV k vs ls x) (chgL k vs ls x) w) := by
  rcases hk with rfl | rfl | rfl
  · exact change1_any h x
  · exact change2_any h x
  · exact change3_any h x
theorem rChange_any (k : Nat) (hk : k = 1 ∨ k = 2 ∨ k = 3) (h : CfAt w (Old w) A n c A2 m c2 vs ls) (x : Int) (hx : I64 x) : Calls Try.prog 20 #[.int .i64 k, cfV A n c A2 m c2, .int .i64 x] w (GivesC Any (chgE k vs ls x) (chgV k vs ls x) (chgL k vs ls x) w) := by
  rcases hk with rfl | rfl | rfl
  · exact rChange1_any h x hx
  · exact rChange2_any h x hx
  · exact rChange3_any h x hx
theorem box_cells {w : World} {g : Nat} {t : TypeId} {a b : Value} (hr : w.heap[g]? = some (.cells #[a, b] t (0, 0))) : w.cell? ⟨g, 0, none⟩ = some a ∧ w.cell? ⟨g, 1, none⟩ = some b :=
  ⟨(cell_of_row w _ 0 _ _ _ hr).trans rfl, (cell_of_row w _ 1 _ _ _ hr).trans rfl⟩
set_option maxHeartbeats 2000000 in
theorem confChanges_walk (h : CfAt w (Old w) A n c A2 m c2 vs ls) (x : Int) (hx : I64 x) : Calls Try.prog 4 #[cfV A n c A2 m c2, .int .i64 x] w (Says true w) := by
  obtain ⟨W, hW⟩ : ∃ W, W = w.alloc (.cells #[.slice A n c, .slice A2 m c2] 24) := ⟨_, rfl⟩
  have hbW : Below w.heap.size w W := by rw [hW]; exact (Below.refl _ _).alloc (Nat.le_refl _) _
  have hrow : W.heap[w.heap.size]? = some (.cells #[.slice A n c, .slice A2 m c2] 24 (0, 0)) := by rw [hW]; exact heap_alloc_new w _
  have hcf : ∀ w', Below W.heap.size W w' → CfAt w' (Old w') A n c A2 m c2 vs ls := fun w' hb => h.below (By.ext hbW hb)
  have hcl : ∀ w', Below W.heap.size W w' → w'.cell? ⟨w.heap.size, 0, none⟩ = some (.slice A n c) ∧ w'.cell? ⟨w.heap.size, 1, none⟩ = some (.slice A2 m c2) := fun w' hb => box_cells ((hb.block _ (row_lt hrow)).trans hrow)
  have HC1 := Lib.hid (fun (k : Nat) (hk : k = 1 ∨ k = 2 ∨ k = 3) (w' : World) (hb : Below W.heap.size W w') => change_any k hk (hcf w' hb) x)
  have HC2 := Lib.hid (fun (k : Nat) (hk : k = 1 ∨ k = 2 ∨ k = 3) (w' : World) (hb : Below W.heap.size W w') => rChange_any k hk (hcf w' hb) x hx)
  have HCL := Lib.hid hcl
  have HBW := Lib.hid hbW
  obtain ⟨k0, k1⟩ := hcl W (Below.refl _ _)
  clear h hcf hcl hrow hbW hx
  go_enter Try.func4, Try.ntmps4
  go_wp2_with fail
  rw [← hW]
  clear hW
  refine (answers_any W).mono ?_
  rintro e w1 ⟨rfl, hb1⟩
  have HB1 := Lib.hid hb1
  clear hb1 k0 k1
  go_wp2
  go_loopw [5, 6, 7, 8, 9] (fun kd _ _ _ _ wr => ∃ k : Nat, 1 ≤ k ∧ k ≤ 4 ∧ kd = .int .i64 k ∧ Below W.heap.size W wr) (fun kd _ _ _ _ _ => 4 - (intOf kd).toNat)
  case atStart => exact ⟨1, Nat.le_refl _, by decide, rfl, HB1.out⟩
  case round =>
    obtain ⟨k, h1, h4, rfl, hb⟩ := hrel
    have HB := Lib.hid hb
    obtain ⟨k0, k1⟩ := HCL.out wr hb
    clear hb
    by_cases hk : k ≤ 3
    · have hk3 : k = 1 ∨ k = 2 ∨ k = 3 := by omega
      have hki : (k : Int) ≤ 3 := by omega
      have HA := Lib.hid (HC1.out k hk3 wr HB.out)
      have HR := Lib.hid (HC2.out k hk3)
      generalize chgE k vs ls x = er at HA HR
      generalize chgV k vs ls x = us at HA HR
      generalize chgL k vs ls x = ks at HA HR
      clear hk3
      go_wp2_with fail
      refine HA.out.mono ?_
      rintro e w2 ⟨A3, n3, c3, A4, n4, c4, rfl, h2, hb2⟩
      have HB2 := Lib.hid (By.ext HB.out hb2)
      have H2 := Lib.hid (h2.less (fun b hb => hb.1.2 : ∀ b, NewF wr w2 b → Old w2 b))
      clear h2 hb2
      go_upto_region 7 with fail
      obtain ⟨w3, hw3⟩ : ∃ w3, w3 = w2.alloc (.cells #[.slice A3 n3 c3, .slice A4 n4 c4] 24) := ⟨_, rfl⟩
      rw [← hw3]
      have b23 : Below w2.heap.size w2 w3 := by rw [hw3]; exact (Below.refl _ _).alloc (Nat.le_refl _) _
      have r3 : w3.heap[w2.heap.size]? = some (.cells #[.slice A3 n3 c3, .slice A4 n4 c4] 24 (0, 0)) := by rw [hw3]; exact heap_alloc_new w2 _
      have HB3 := Lib.hid (By.ext HB2.out b23)
      have H3 := Lib.hid (H2.out.below b23)
      have HR3 := Lib.hid r3
      obtain ⟨k0, k1⟩ := HCL.out w3 HB3.out
      clear hw3 b23 r3
      go_wp2_with fail
      refine (HR.out w3 HB3.out).mono ?_
      rintro e w4 ⟨A5, n5, c5, A6, n6, c6, rfl, h4', hb4⟩
      have HB4 := Lib.hid (By.ext HB3.out hb4)
      have HB34 := Lib.hid hb4
      have H4 := Lib.hid h4'
      clear h4' hb4
      go_upto_region 8 with fail
      obtain ⟨w5, hw5⟩ : ∃ w5, w5 = w4.alloc (.cells #[.slice A5 n5 c5, .slice A6 n6 c6] 24) := ⟨_, rfl⟩
      rw [← hw5]
      have b45 : Below w4.heap.size w4 w5 := by rw [hw5]; exact (Below.refl _ _).alloc (Nat.le_refl _) _
      have r5 : w5.heap[w4.heap.size]? = some (.cells #[.slice A5 n5 c5, .slice A6 n6 c6] 24 (0, 0)) := by rw [hw5]; exact heap_alloc_new w4 _
      have r35 := ((HB34.out.trans (b45.mono HB34.out.size)).block _ (row_lt HR3.out)).trans HR3.out
      have HB5 := Lib.hid (By.ext HB4.out b45)
      obtain ⟨p0, p1⟩ := box_cells r35
      obtain ⟨q0, q1⟩ := box_cells r5
      have hsame := sameC_any (H3.out.below (By.ext HB34.out b45)) ((H4.out.less (fun b hb => hb : ∀ b, Any w3 w4 b → Old w4 b)).below b45)
      rw [decide_eq_true rfl, decide_eq_true rfl] at hsame
      have HS := Lib.hid hsame
      have e1 : (er == er) = true := beq_self_eq_true er
      have e2 : (er != er) = false := by rw [bne, e1]; rfl
      clear hw5 b45 r5 r35 hsame
      go_wp2_with fail
      refine HS.out.mono ?_
      rintro e w6 ⟨rfl, hb6⟩
      have HB6 := Lib.hid (By.ext HB5.out hb6)
      clear hb6
      go_wp2
      go_roundw
      case rel => exact ⟨k + 1, by omega, by omega, by go_num, HB6.out⟩
      case measure => simp [intOf]; omega
    · have hki : ¬ (k : Int) ≤ 3 := by omega
      go_wp2
      go_ret
      exact ⟨rfl, By.ext HBW.out HB.out⟩
end Go.Proofs.Ythocmnfmialcaaa.Cn

/-! Configurations and lists of ints, as they come in: of few items. -/
namespace Go.Proofs.Ythocmnfmialcaaa.Cn
open Go.ChangeShapes Go.WideShapes Go.ChangeAt Go.RowKit Go.Deep By CoP Co Mo Kd
section
variable {H : Type} {enc : TypeId × Value → H} {W : World}
set_option maxRecDepth 100000 in
theorem comes_conf {base : Nat} {v : Value} {d : DataW H} {p : List MemPlace} (hv : Value.okWide Try.prog W .any base 24 v)
    (h : DataW.Trod enc Try.prog W 0 (fun _ => true) true 24 v d p) (hlt : ∀ x ∈ p, x.block < W.heap.size) (hb : Rows.uptoBulk d ≤ 1048576) : ∃ A n c A2 m c2 vs ls, v = cfV A n c A2 m c2 ∧ CfAt W (Old W) A n c A2 m c2 vs ls := by
  obtain ⟨xs, e, rfl, h1, h2⟩ := comesL Try.underlying24 opens_conf hv h hlt hb
  obtain ⟨A, n, c, A2, m, c2, vs, ls, rfl, rfl, hc⟩ := cf_open h1 h2
  exact ⟨A, n, c, A2, m, c2, vs, ls, rfl, hc⟩
set_option maxRecDepth 100000 in
theorem comes_ids {base : Nat} {v : Value} {d : DataW H} {p : List MemPlace} (hv : Value.okWide Try.prog W .any base 22 v)
    (h : DataW.Trod enc Try.prog W 0 (fun _ => true) true 22 v d p) (hlt : ∀ x ∈ p, x.block < W.heap.size) (hb : Rows.uptoBulk d ≤ 1048576) : ∃ A n c l, v = .slice A n c ∧ n = l.length ∧ n ≤ c ∧ n ≤ 9437184 ∧ LiesI W W.heap.size A l := by
  obtain ⟨a0, len, cap, rfl⟩ := okWide_slice Try.underlying22 hv
  obtain ⟨fuel, hf⟩ := h
  obtain ⟨e, h1, h2⟩ := opens_ids (W := W) fuel _ _ hf hlt hb
  obtain ⟨A, c, l, h3, rfl, h4, h5, h6⟩ := ids_open h1
  have h7 : [Value.slice a0 len cap] = [.slice A l.length c] := h3
  simp only [List.cons.injEq, Value.slice.injEq, and_true] at h7
  obtain ⟨rfl, rfl, rfl⟩ := h7
  rw [ids_put] at h2
  have h8 := putIds_le l
  exact ⟨_, _, _, l, rfl, rfl, h4, by dsimp only at h2; omega, h6⟩
end
end Go.Proofs.Ythocmnfmialcaaa.Cn
