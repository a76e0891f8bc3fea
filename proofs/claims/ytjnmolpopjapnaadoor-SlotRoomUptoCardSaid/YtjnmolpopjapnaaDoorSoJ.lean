/- Package slot's Save and Load, as contracts of calls. -/
import Derived.Test.YtjnmolpopjapnaaDoorSoI
namespace Go.Proofs.YtjnmolpopjapnaaDoor.So
open Go.RowKit Go.Maps By Mp Dk

/-- What a Save comes to. -/
def saveX (nm D : Bs) (s : DS) : Int × DS := if 65520 < D.length then (7, s) else replaceX nm D s
/-- What a Save gives, and what of memory it leaves. -/
def SavePost (g d : Nat) (nm : Bs) (x : Int × DS) (S : Nat → Prop) (w : World) (e : Ending) (w' : World) : Prop :=
  e = .returned (.int .i64 x.1) ∧ ∃ S', DiskAt w' d x.2 S' ∧ (∀ b, S' b → S b ∨ w.heap.size ≤ b) ∧ Kept (fun b => S b ∨ b = g) w w' ∧ SlotAt w' g d nm (decide (x.1 = 11)) ∧ ¬ S' g
set_option maxHeartbeats 2000000 in
theorem save_any (g d : Nat) (nm : Bs) (s : DS) (S : Nat → Prop) (D : Bs) (A : Option Addr) (n c : Nat) (w : World) (h : SlotAt w g d nm false) (hd : DiskAt w d s S) (hg : ¬ S g) (hnm : sname nm = true) (hdn : s.down = false) (hcnt : s.cnt ≤ 68719470000) (hn : n = D.length) (hA : LiesS w (fun b => ¬ S b ∧ b < w.heap.size) A D) :
    Calls Tryd.prog 13 #[.pointer (some ⟨g, 0, none⟩), .slice A n c] w (SavePost g d nm (saveX nm D s) S w) := by
  have HWK := Lib.hid (sworks_any g d nm w h)
  have HSL := Lib.hid h
  have HG := Lib.hid hg
  have HD := Lib.hid hd
  by_cases hl : 65520 < D.length
  · have hsx : saveX nm D s = (7, s) := by unfold saveX; rw [if_pos hl]
    rw [hsx]
    have hni : (65520 : Int) < (n : Int) := by omega
    clear h hd hg hA hsx hl hn
    go_enter Tryd.func13, Tryd.ntmps13
    go_wp2_with fail
    refine HWK.out.mono ?_
    rintro e w' ⟨rfl, rfl⟩
    go_wp2
    go_ret
    exact ⟨rfl, S, HD.out, fun b hb => .inl hb, Kept.refl _ _, HSL.out, HG.out⟩
  · have hsx : saveX nm D s = replaceX nm D s := by unfold saveX; rw [if_neg hl]
    rw [hsx]
    have hni : ¬ ((65520 : Int) < (n : Int)) := by omega
    have HRP := Lib.hid (replace_any g d nm s S D A n c w h hd hg hnm hdn hcnt hn (by omega) hA)
    obtain ⟨x, hx⟩ : ∃ x, x = replaceX nm D s := ⟨_, rfl⟩
    rw [← hx] at HRP ⊢
    clear h hd hg hA hsx hl hn hx
    obtain ⟨E, s'⟩ := x
    dsimp only at HRP
    go_enter Tryd.func13, Tryd.ntmps13
    go_wp2_with fail
    refine HWK.out.mono ?_
    rintro e w' ⟨rfl, rfl⟩
    go_wp2_with fail
    refine HRP.out.mono ?_
    rintro e w2 ⟨rfl, S2, hd2, hS2, hk2⟩
    have HSL2 := HSL.out.kept HG.out hk2
    have HHE := Lib.hid (shear_any g d nm E w2 HSL2)
    have HD2 := Lib.hid hd2
    have HS2 := Lib.hid hS2
    have HK2 := Lib.hid hk2
    have HG2 := Lib.hid (show ¬ S2 g from fun e => by
      rcases hS2 g e with h | h
      · exact HG.out h
      · have := HSL.out.lt; omega)
    clear hd2 hS2 hk2 HSL2
    go_wp2_with fail
    refine HHE.out.mono ?_
    rintro e w3 ⟨rfl, hs3, hk3⟩
    have HFIN := Lib.hid (show SavePost g d nm (E, s') S w (.returned (.int .i64 E)) w3 from
      ⟨rfl, S2, HD2.out.keep (fun b hb => hk3.block b ((dlt HD2.out).1 b hb) (fun e => HG2.out (e ▸ hb))) hk3.size, HS2.out,
        (HK2.out.mono (M' := fun b => S b ∨ b = g) (fun b _ e => .inl e)).step hk3 (fun b _ e => .inr e), hs3, HG2.out⟩)
    clear hs3 hk3
    go_wp2
    go_ret
    exact HFIN.out
theorem save_nil (A : Option Addr) (n c : Nat) (w : World) : Calls Tryd.prog 13 #[.pointer none, .slice A n c] w (Ret (.int .i64 1) w) := by
  have HWK := Lib.hid (sworks_nil w)
  go_enter Tryd.func13, Tryd.ntmps13
  go_wp2_with fail
  refine HWK.out.mono ?_
  rintro e w' ⟨rfl, rfl⟩
  go_wp2
  go_ret
  exact ⟨rfl, rfl⟩
theorem load_nil (w : World) : Calls Tryd.prog 18 #[.pointer none] w (Ret (.tuple #[.slice none 0 0, .int .i64 1]) w) := by
  have HWK := Lib.hid (sworks_nil w)
  go_enter Tryd.func18, Tryd.ntmps18
  go_wp2_with fail
  refine HWK.out.mono ?_
  rintro e w' ⟨rfl, rfl⟩
  go_wp2
  go_ret2
  exact ⟨rfl, rfl⟩
def loadE (f : Nat → Fl) : Int := if (valOf f).isSome then 0 else 8
def loadB (f : Nat → Fl) : Bs := (valOf f).getD []
theorem load_at {f : Nat → Fl} {t : Nat} (h : latest f = some t) : loadE f = 0 ∧ loadB f = ((f t).getD none).getD [] := by
  obtain ⟨v, hv⟩ := isW_some (latest_w h).1
  have := valOf_some h hv
  unfold loadE loadB
  rw [this, hv]
  exact ⟨rfl, rfl⟩
theorem load_none {f : Nat → Fl} (h : latest f = none) : loadE f = 8 ∧ loadB f = [] := by
  unfold loadE loadB
  rw [valOf_none h]
  exact ⟨rfl, rfl⟩
set_option maxRecDepth 100000 in
set_option maxHeartbeats 4000000 in
theorem load_any (g d : Nat) (nm : Bs) (s : DS) (S : Nat → Prop) (w : World) (h : SlotAt w g d nm false) (hd : DiskAt w d s S) (hnm : sname nm = true) (hdn : s.down = false) :
    Calls Tryd.prog 18 #[.pointer (some ⟨g, 0, none⟩)] w (Dk.GivesE (loadB (fileOf s.files nm)) (loadE (fileOf s.files nm)) w) := by
  have HWK := Lib.hid (sworks_any g d nm w h)
  have HFI := Lib.hid (files_any g d nm s S w h hd hdn hnm)
  obtain ⟨f, hf⟩ : ∃ f, f = fileOf s.files nm := ⟨_, rfl⟩
  rw [← hf] at HFI ⊢
  clear h hd hnm hdn hf
  go_enter Tryd.func18, Tryd.ntmps18
  go_wp2_with fail
  refine HWK.out.mono ?_
  rintro e w' ⟨rfl, rfl⟩
  go_wp2_with fail
  refine HFI.out.mono ?_
  rintro e w1 ⟨b0, c0, v0, b1, c1, v1, b2, c2, v2, rfl, q0, q1, q2, hb1⟩
  obtain ⟨X0, n0, m0, rfl⟩ := cel_form q0
  obtain ⟨X1, n1, m1, rfl⟩ := cel_form q1
  obtain ⟨X2, n2, m2, rfl⟩ := cel_form q2
  have HE2 := Lib.hid (show latest f = lat c0 c1 c2 by rw [q0.2.1, q1.2.1, q2.2.1]; rfl)
  have HQ0 := Lib.hid q0.2.2
  have HQ1 := Lib.hid q1.2.2
  have HQ2 := Lib.hid q2.2.2
  unfold filC
  clear q0 q1 q2 HFI
  have HW2 := Lib.hid (heap_alloc_new w1 (.cells #[.bool b0, .bool c0, .slice X0 n0 m0, .bool b1, .bool c1, .slice X1 n1 m1, .bool b2, .bool c2, .slice X2 n2 m2] tSFiles))
  have HB2 := Lib.hid (nAlloc hb1 (Nat.le_refl _) (.cells #[.bool b0, .bool c0, .slice X0 n0 m0, .bool b1, .bool c1, .slice X1 n1 m1, .bool b2, .bool c2, .slice X2 n2 m2] tSFiles))
  have HB12 := Lib.hid (nAlloc (Below.refl w1.heap.size w1) (Nat.le_refl _) (.cells #[.bool b0, .bool c0, .slice X0 n0 m0, .bool b1, .bool c1, .slice X1 n1 m1, .bool b2, .bool c2, .slice X2 n2 m2] tSFiles))
  obtain ⟨w2, hw2⟩ : ∃ w2, w2 = w1.alloc (.cells #[.bool b0, .bool c0, .slice X0 n0 m0, .bool b1, .bool c1, .slice X1 n1 m1, .bool b2, .bool c2, .slice X2 n2 m2] tSFiles) := ⟨_, rfl⟩
  have HQW := Lib.hid hw2
  rw [← hw2] at HW2 HB2 HB12
  obtain ⟨L, hL⟩ : ∃ L, L = w1.heap.size := ⟨_, rfl⟩
  rw [← hL] at HW2
  have HLQ := Lib.hid hL
  have HX := Lib.hid (fun (w' : World) (hb : Below w2.heap.size w2 w') => box9 HW2.out hb)
  have HLA := Lib.hid (fun w' => latest_any b0 c0 X0 n0 m0 b1 c1 X1 n1 m1 b2 c2 X2 n2 m2 w')
  rw [← HE2.out] at HLA
  obtain ⟨k0, k1, k2, k3, k4, k5, k6, k7, k8⟩ := HX.out w2 (Below.refl _ _)
  rw [hw2, hL] at k0 k1 k2 k3 k4 k5 k6 k7 k8
  clear hb1 hw2
  cases hel : latest f with
  | none =>
    have HL := Lib.hid (load_none hel)
    have HLA2 := Lib.hid (show ∀ w', Calls Tryd.prog 34 #[.agg (filC b0 c0 (.slice X0 n0 m0) b1 c1 (.slice X1 n1 m1) b2 c2 (.slice X2 n2 m2))] w' (RetB (.int .i64 (-1)) w') from fun w' => by have h := HLA.out w'; rw [hel] at h; exact h)
    clear HLA hel
    go_wp2_with fail
    rw [← HQW.out]
    clear k0 k1 k2 k3 k4 k5 k6 k7 k8
    refine (HLA2.out _).mono ?_
    rintro e w3 ⟨rfl, hb3⟩
    have HB3 := Lib.hid (By.ext HB2.out hb3)
    have HFIN := Lib.hid (show Dk.GivesE (loadB f) (loadE f) w (.returned (.tuple #[.slice none 0 0, .int .i64 8])) w3 from ⟨_, by rw [HL.out.1], by rw [HL.out.2]; exact By.Own.nil _ _, HB3.out⟩)
    clear hb3
    go_wp2
    go_ret2
    exact HFIN.out
  | some t =>
    have HL := Lib.hid (load_at hel)
    have ht3 := latest_lt hel
    rcases lt3 ht3 with rfl | rfl | rfl
    · have HLA2 := Lib.hid (show ∀ w', Calls Tryd.prog 34 #[.agg (filC b0 c0 (.slice X0 n0 m0) b1 c1 (.slice X1 n1 m1) b2 c2 (.slice X2 n2 m2))] w' (RetB (.int .i64 0) w') from fun w' => by have h := HLA.out w'; rw [hel] at h; exact h)
      clear HLA hel
      go_wp2_with fail
      rw [← HQW.out]
      clear k0 k1 k2 k3 k4 k5 k6 k7 k8
      refine (HLA2.out _).mono ?_
      rintro e w3 ⟨rfl, hb3⟩
      have HB3 := Lib.hid (By.ext HB2.out hb3)
      have HB13 := Lib.hid (HB12.out.trans (hb3.mono HB12.out.size))
      obtain ⟨k0, k1, k2, k3, k4, k5, k6, k7, k8⟩ := HX.out w3 hb3
      rw [HLQ.out] at k0 k1 k2 k3 k4 k5 k6 k7 k8
      clear hb3
      replace HQ0 := Lib.hid (show Own w.heap.size w3 (.slice X0 n0 m0) (loadB f) by rw [HL.out.2]; exact HQ0.out.kept HB13.out (Nat.le_refl _))
      have HFIN := Lib.hid (show Dk.GivesE (loadB f) (loadE f) w (.returned (.tuple #[.slice X0 n0 m0, .int .i64 0])) w3 from ⟨_, by rw [HL.out.1], HQ0.out, HB3.out⟩)
      clear ht3 HLA2
      go_wp2
      go_ret2
      exact HFIN.out
    · have HLA2 := Lib.hid (show ∀ w', Calls Tryd.prog 34 #[.agg (filC b0 c0 (.slice X0 n0 m0) b1 c1 (.slice X1 n1 m1) b2 c2 (.slice X2 n2 m2))] w' (RetB (.int .i64 1) w') from fun w' => by have h := HLA.out w'; rw [hel] at h; exact h)
      clear HLA hel
      go_wp2_with fail
      rw [← HQW.out]
      clear k0 k1 k2 k3 k4 k5 k6 k7 k8
      refine (HLA2.out _).mono ?_
      rintro e w3 ⟨rfl, hb3⟩
      have HB3 := Lib.hid (By.ext HB2.out hb3)
      have HB13 := Lib.hid (HB12.out.trans (hb3.mono HB12.out.size))
      obtain ⟨k0, k1, k2, k3, k4, k5, k6, k7, k8⟩ := HX.out w3 hb3
      rw [HLQ.out] at k0 k1 k2 k3 k4 k5 k6 k7 k8
      clear hb3
      replace HQ1 := Lib.hid (show Own w.heap.size w3 (.slice X1 n1 m1) (loadB f) by rw [HL.out.2]; exact HQ1.out.kept HB13.out (Nat.le_refl _))
      have HFIN := Lib.hid (show Dk.GivesE (loadB f) (loadE f) w (.returned (.tuple #[.slice X1 n1 m1, .int .i64 0])) w3 from ⟨_, by rw [HL.out.1], HQ1.out, HB3.out⟩)
      clear ht3 HLA2
      go_wp2
      go_ret2
      exact HFIN.out
    · have HLA2 := Lib.hid (show ∀ w', Calls Tryd.prog 34 #[.agg (filC b0 c0 (.slice X0 n0 m0) b1 c1 (.slice X1 n1 m1) b2 c2 (.slice X2 n2 m2))] w' (RetB (.int .i64 2) w') from fun w' => by have h := HLA.out w'; rw [hel] at h; exact h)
      clear HLA hel
      go_wp2_with fail
      rw [← HQW.out]
      clear k0 k1 k2 k3 k4 k5 k6 k7 k8
      refine (HLA2.out _).mono ?_
      rintro e w3 ⟨rfl, hb3⟩
      have HB3 := Lib.hid (By.ext HB2.out hb3)
      have HB13 := Lib.hid (HB12.out.trans (hb3.mono HB12.out.size))
      obtain ⟨k0, k1, k2, k3, k4, k5, k6, k7, k8⟩ := HX.out w3 hb3
      rw [HLQ.out] at k0 k1 k2 k3 k4 k5 k6 k7 k8
      clear hb3
      replace HQ2 := Lib.hid (show Own w.heap.size w3 (.slice X2 n2 m2) (loadB f) by rw [HL.out.2]; exact HQ2.out.kept HB13.out (Nat.le_refl _))
      have HFIN := Lib.hid (show Dk.GivesE (loadB f) (loadE f) w (.returned (.tuple #[.slice X2 n2 m2, .int .i64 0])) w3 from ⟨_, by rw [HL.out.1], HQ2.out, HB3.out⟩)
      clear ht3 HLA2
      go_wp2
      go_ret2
      exact HFIN.out
/-- What the law's has tells. -/
def hasB (f : Nat → Fl) (D : Bs) (some : Bool) : Bool := if some then decide (valOf f = .some D) else decide (valOf f = none)
theorem has_val (f : Nat → Fl) (D : Bs) : hasB f D true = (decide (loadE f = 0) && (loadB f == D)) := by
  unfold hasB loadE loadB
  cases h : valOf f with
  | none => simp
  | some v =>
    rw [Bool.eq_iff_iff]
    simp
theorem has_none (f : Nat → Fl) (D : Bs) : hasB f D false = (decide (loadE f = 8) && decide ((loadB f).length = 0)) := by
  unfold hasB loadE loadB
  cases h : valOf f with
  | none => simp
  | some v => simp
theorem strToList (l : Bs) : (str l).toList = l := by rw [ByteArray.toList_eq]; simp [str]
set_option maxRecDepth 100000 in
set_option maxHeartbeats 4000000 in
theorem has_any (g d : Nat) (nm : Bs) (s : DS) (S : Nat → Prop) (D : Bs) (A : Option Addr) (n c : Nat) (sm : Bool) (w : World) (h : SlotAt w g d nm false) (hd : DiskAt w d s S) (hnm : sname nm = true) (hdn : s.down = false) (hn : n = D.length) (hA : Lies w w.heap.size A D) :
    Calls Tryd.prog 17 #[.pointer (some ⟨g, 0, none⟩), .slice A n c, .bool sm] w (RetB (.bool (hasB (fileOf s.files nm) D sm)) w) := by
  have HLO := Lib.hid (load_any g d nm s S w h hd hnm hdn)
  obtain ⟨f, hf⟩ : ∃ f, f = fileOf s.files nm := ⟨_, rfl⟩
  rw [← hf] at HLO ⊢
  have HA := Lib.hid hA
  have HN := Lib.hid hn
  clear h hd hnm hdn hf hA hn
  have HHV := Lib.hid (has_val f D)
  have HHN := Lib.hid (has_none f D)
  go_enter Tryd.func17, Tryd.ntmps17
  go_wp2_with fail
  refine HLO.out.mono ?_
  rintro e w1 ⟨v, rfl, ho, hb⟩
  obtain ⟨Av, cv, rfl, _, _, _, hl, _⟩ := ho.form
  have HB := Lib.hid hb
  have htx := run_text w1 (n := (loadB f).length) cv rfl hl
  have htd := run_text w1 (n := n) c HN.out (HA.out.below HB.out)
  obtain ⟨E, hE⟩ : ∃ E, E = loadE f := ⟨_, rfl⟩
  obtain ⟨B, hB⟩ : ∃ B, B = loadB f := ⟨_, rfl⟩
  rw [← hE, ← hB] at HHV HHN
  rw [← hB] at htx
  rw [← hE, ← hB]
  clear ho hb hl hE hB HLO
  cases sm with
  | false =>
    by_cases h8 : E = 8
    · subst h8
      by_cases hz : B.length = 0
      · have hzi : (B.length : Int) = 0 := by omega
        have HFIN := Lib.hid (show (decide ((8 : Int) = 8) && decide (B.length = 0)) = true by simp [hz])
        rw [hz]
        go_wp2
        go_ret
        exact ⟨by rw [HHN.out, HFIN.out]; rfl, HB.out⟩
      · have hni : ¬ ((B.length : Int) = 0) := by omega
        have hni1 : ((B.length : Int) == 0) = false := beq_eq_false_iff_ne.2 hni
        have HFIN := Lib.hid (show (decide ((8 : Int) = 8) && decide (B.length = 0)) = false by rw [decide_eq_false hz]; rfl)
        clear hni
        go_wp2
        go_ret
        exact ⟨by rw [HHN.out, HFIN.out]; rfl, HB.out⟩
    · have hni1 : (E == 8) = false := beq_eq_false_iff_ne.2 h8
      have HFIN := Lib.hid (show (decide (E = 8) && decide (B.length = 0)) = false by rw [decide_eq_false h8]; rfl)
      clear h8
      go_wp2
      go_ret
      exact ⟨by rw [HHN.out, HFIN.out]; rfl, HB.out⟩
  | true =>
    by_cases h0 : E = 0
    · subst h0
      have htl : ((str B).toList == (str D).toList) = (B == D) := by rw [strToList, strToList]
      cases hR : (B == D) with
      | true =>
        rw [hR] at htl
        have HFIN := Lib.hid (show (decide ((0 : Int) = 0) && (B == D)) = true by rw [hR]; rfl)
        clear hR
        go_wp2
        go_ret
        exact ⟨by rw [HHV.out, HFIN.out]; rfl, HB.out⟩
      | false =>
        rw [hR] at htl
        have HFIN := Lib.hid (show (decide ((0 : Int) = 0) && (B == D)) = false by rw [hR]; rfl)
        clear hR
        go_wp2
        go_ret
        exact ⟨by rw [HHV.out, HFIN.out]; rfl, HB.out⟩
    · have hni1 : (E == 0) = false := beq_eq_false_iff_ne.2 h0
      have HFIN := Lib.hid (show (decide (E = 0) && (B == D)) = false by rw [decide_eq_false h0]; rfl)
      clear h0
      go_wp2
      go_ret
      exact ⟨by rw [HHV.out, HFIN.out]; rfl, HB.out⟩
end Go.Proofs.YtjnmolpopjapnaaDoor.So
