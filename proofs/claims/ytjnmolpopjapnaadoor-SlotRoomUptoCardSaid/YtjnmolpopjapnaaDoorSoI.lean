/- Package slot's replace, as a contract of a call. -/
import Derived.Test.YtjnmolpopjapnaaDoorSoH
namespace Go.Proofs.YtjnmolpopjapnaaDoor.So
open Go.RowKit Go.Maps By Mp Dk

theorem burnt_sure (s : DS) : (burnt s).sure = s.sure ∧ (burnt s).unsure = s.unsure := by
  unfold burnt
  split
  · exact ⟨rfl, rfl⟩
  · split <;> exact ⟨rfl, rfl⟩
theorem chg_sure (s : DS) (k : Nat) (nm : Bs) (off : Int) (d : Bs) : (chgS s k nm off d).sure = s.sure := by
  unfold chgS
  split
  · rfl
  · split
    · exact (burnt_sure s).1
    · exact (burnt_sure s).1
theorem cnt_syn {s : DS} (h : Up s.sure) : (synS s).cnt ≤ s.cnt ∧ Up (synS s).sure := by
  unfold synS
  split
  · exact ⟨Nat.le_refl _, h⟩
  · split
    · unfold DS.cnt
      rw [(burnt_sure s).1, (burnt_sure s).2]
      exact ⟨Nat.le_refl _, h⟩
    · refine ⟨?_, up_all h⟩
      show s.files.length + 0 ≤ s.sure.length + s.unsure.length
      exact len_all h
theorem cnt_rms (nm : Bs) : ∀ (l : List Nat) (s : DS), (rms nm l s).2.cnt ≤ s.cnt + l.length ∧ (rms nm l s).2.sure = s.sure
  | [], s => ⟨by simp [rms], rfl⟩
  | t :: l, s => by
    have h1 := cnt_chg s 3 (pth nm t) 0 []
    have h2 := chg_sure s 3 (pth nm t) 0 []
    unfold rms
    split
    · have h3 := cnt_rms nm l (chgS s 3 (pth nm t) 0 [])
      refine ⟨?_, h3.2.trans h2⟩
      rw [List.length_cons]
      omega
    · refine ⟨?_, h2⟩
      rw [List.length_cons]
      show (chgS s 3 (pth nm t) 0 []).cnt ≤ _
      omega
theorem cnt_remove (nm : Bs) (l : List Nat) {s : DS} (h : Up s.sure) : (removeX nm l s).2.cnt ≤ s.cnt + l.length ∧ Up (removeX nm l s).2.sure := by
  have h1 := cnt_rms nm l s
  have h2 := cnt_syn (s := (rms nm l s).2) (by rw [h1.2]; exact h)
  unfold removeX
  split
  · exact ⟨by show s.cnt ≤ _; omega, h⟩
  · unfold syn
    split
    · exact ⟨Nat.le_trans h2.1 h1.1, h2.2⟩
    · exact ⟨h1.1, by rw [h1.2]; exact h⟩
theorem cnt_put (nm : Bs) (t : Nat) (D : Bs) {s : DS} (h : Up s.sure) : (putX nm t D s).2.cnt ≤ s.cnt + 1 ∧ Up (putX nm t D s).2.sure := by
  have h1 := cnt_chg s 1 (pth nm t) 0 (CoP.frame D)
  have h3 := chg_sure s 1 (pth nm t) 0 (CoP.frame D)
  have h2 := cnt_syn (s := chgS s 1 (pth nm t) 0 (CoP.frame D)) (by rw [h3]; exact h)
  unfold putX syn
  split
  · exact ⟨Nat.le_trans h2.1 h1, h2.2⟩
  · exact ⟨h1, by show Up (chgS _ _ _ _ _).sure; rw [h3]; exact h⟩
set_option maxRecDepth 100000 in
theorem behindT (el : Option Nat) (hel : ∀ t, el = some t → t < 3) (w : World) : Calls Tryd.prog 38 #[.int .i64 (turnI el)] w (Ret (.int .i64 (next el : Nat)) w) := by
  cases el with
  | none => exact behind_any none hel w
  | some t => exact behind_any (some t) hel w
set_option maxRecDepth 100000 in
theorem box9 {L : Nat} {a0 a1 a2 a3 a4 a5 a6 a7 a8 : Value} {w1 w' : World} (h : w1.heap[L]? = some (.cells #[a0, a1, a2, a3, a4, a5, a6, a7, a8] tSFiles (0, 0))) (hb : Below w1.heap.size w1 w') :
    w'.cell? ⟨L, 0, none⟩ = some a0 ∧ w'.cell? ⟨L, 1, none⟩ = some a1 ∧ w'.cell? ⟨L, 2, none⟩ = some a2 ∧ w'.cell? ⟨L, 3, none⟩ = some a3 ∧ w'.cell? ⟨L, 4, none⟩ = some a4 ∧ w'.cell? ⟨L, 5, none⟩ = some a5 ∧ w'.cell? ⟨L, 6, none⟩ = some a6 ∧ w'.cell? ⟨L, 7, none⟩ = some a7 ∧ w'.cell? ⟨L, 8, none⟩ = some a8 := by
  have h' := (hb.block _ (row_lt h)).trans h
  exact ⟨by rw [cell_of_row w' L 0 _ _ _ h']; rfl, by rw [cell_of_row w' L 1 _ _ _ h']; rfl, by rw [cell_of_row w' L 2 _ _ _ h']; rfl, by rw [cell_of_row w' L 3 _ _ _ h']; rfl, by rw [cell_of_row w' L 4 _ _ _ h']; rfl, by rw [cell_of_row w' L 5 _ _ _ h']; rfl, by rw [cell_of_row w' L 6 _ _ _ h']; rfl, by rw [cell_of_row w' L 7 _ _ _ h']; rfl, by rw [cell_of_row w' L 8 _ _ _ h']; rfl⟩
theorem dlt {w : World} {d : Nat} {s : DS} {S : Nat → Prop} (h : DiskAt w d s S) : (∀ b, S b → b < w.heap.size) ∧ S d ∧ s.Ok := by
  obtain ⟨bm, sm, pb, ps, v, h⟩ := h
  exact ⟨h.lt, h.subg, h.ok⟩
theorem cel_form {base : Nat} {w : World} {f : Fl} {b c : Bool} {v : Value} (h : Cel base w f b c v) : ∃ A n c, v = .slice A n c := by
  obtain ⟨A', c', h, -⟩ := h.2.2.form
  exact ⟨_, _, _, h⟩
theorem elder_lt {nm : Bs} {s : DS} : ∀ t, elder nm s = some t → t < 3 := fun _ h => latest_lt h
set_option maxRecDepth 100000 in
set_option maxHeartbeats 4000000 in
theorem replace_any (g d : Nat) (nm : Bs) (s : DS) (S : Nat → Prop) (D : Bs) (A : Option Addr) (n c : Nat) (w : World) (h : SlotAt w g d nm false) (hd : DiskAt w d s S) (hg : ¬ S g) (hnm : sname nm = true) (hdn : s.down = false) (hcnt : s.cnt ≤ 68719470000) (hn : n = D.length) (hD : D.length ≤ 65520) (hA : LiesS w (fun b => ¬ S b ∧ b < w.heap.size) A D) :
    Calls Tryd.prog 26 #[.pointer (some ⟨g, 0, none⟩), .slice A n c] w (DStep (.int .i64 (replaceX nm D s).1) d (replaceX nm D s).2 S w) := by
  have HFI := Lib.hid (files_any g d nm s S w h hd hdn hnm)
  have HD := Lib.hid hd
  have HSL := Lib.hid h
  have HG := Lib.hid hg
  have HNM := Lib.hid hnm
  have HCNT := Lib.hid hcnt
  have HA := Lib.hid hA
  have HN := Lib.hid hn
  have HDL := Lib.hid hD
  have HLT := Lib.hid (dlt hd)
  have HRX := Lib.hid (show replaceX nm D s = thenX (removeX nm (aside (fileOf s.files nm) (elder nm s)) s) fun s1 => thenX (putX nm (next (elder nm s)) D s1) fun s2 => removeX nm (elder nm s).toList s2 from rfl)
  have HEL := Lib.hid (show ∀ t, elder nm s = some t → t < 3 from elder_lt)
  have HAL := Lib.hid (show ∀ t ∈ aside (fileOf s.files nm) (elder nm s), t < 3 from fun t ht => (aside_mem.1 ht).1)
  have HELF := Lib.hid (show elder nm s = latest (fileOf s.files nm) from rfl)
  obtain ⟨f, hf⟩ : ∃ f, f = fileOf s.files nm := ⟨_, rfl⟩
  rw [← hf] at HFI HRX HAL HELF
  obtain ⟨el, hel⟩ : ∃ el, el = elder nm s := ⟨_, rfl⟩
  rw [← hel] at HRX HEL HAL HELF
  obtain ⟨r, hr⟩ : ∃ r, r = replaceX nm D s := ⟨_, rfl⟩
  rw [← hr] at HRX ⊢
  clear h hd hg hnm hdn hcnt hn hD hA hf hel hr
  go_enter Tryd.func26, Tryd.ntmps26
  go_wp2_with fail
  refine HFI.out.mono ?_
  rintro e w1 ⟨b0, c0, v0, b1, c1, v1, b2, c2, v2, rfl, q0, q1, q2, hb1⟩
  obtain ⟨X0, n0, m0, rfl⟩ := cel_form q0
  obtain ⟨X1, n1, m1, rfl⟩ := cel_form q1
  obtain ⟨X2, n2, m2, rfl⟩ := cel_form q2
  have HE2 := Lib.hid (show el = lat c0 c1 c2 by rw [HELF.out, q0.2.1, q1.2.1, q2.2.1]; rfl)
  have HA2 := Lib.hid (show aside f el = asideB b0 b1 b2 el 3 by rw [aside_eq, q0.1, q1.1, q2.1])
  unfold filC
  clear q0 q1 q2 HFI HELF
  have HW2 := Lib.hid (heap_alloc_new w1 (.cells #[.bool b0, .bool c0, .slice X0 n0 m0, .bool b1, .bool c1, .slice X1 n1 m1, .bool b2, .bool c2, .slice X2 n2 m2] tSFiles))
  have HB2 := Lib.hid (nAlloc hb1 (Nat.le_refl _) (.cells #[.bool b0, .bool c0, .slice X0 n0 m0, .bool b1, .bool c1, .slice X1 n1 m1, .bool b2, .bool c2, .slice X2 n2 m2] tSFiles))
  obtain ⟨w2, hw2⟩ : ∃ w2, w2 = w1.alloc (.cells #[.bool b0, .bool c0, .slice X0 n0 m0, .bool b1, .bool c1, .slice X1 n1 m1, .bool b2, .bool c2, .slice X2 n2 m2] tSFiles) := ⟨_, rfl⟩
  have HQ2 := Lib.hid hw2
  rw [← hw2] at HW2 HB2
  obtain ⟨L, hL⟩ : ∃ L, L = w1.heap.size := ⟨_, rfl⟩
  rw [← hL] at HW2
  have HLQ := Lib.hid hL
  have HX := Lib.hid (fun (w' : World) (hb : Below w2.heap.size w2 w') => box9 HW2.out hb)
  have HLA := Lib.hid (fun w' => latest_any b0 c0 X0 n0 m0 b1 c1 X1 n1 m1 b2 c2 X2 n2 m2 w')
  rw [← HE2.out] at HLA
  have HAS := Lib.hid (fun w' => aside_any b0 c0 X0 n0 m0 b1 c1 X1 n1 m1 b2 c2 X2 n2 m2 el w')
  rw [← HA2.out] at HAS
  obtain ⟨al, hal⟩ : ∃ al, al = aside f el := ⟨_, rfl⟩
  rw [← hal] at HAS HAL HRX
  have HAL3 := Lib.hid (show al.length ≤ 3 by rw [hal, HA2.out]; exact aside_len _ _ _ _ _)
  obtain ⟨E, hE⟩ : ∃ E, E = turnI el := ⟨_, rfl⟩
  rw [← hE] at HLA HAS
  have HEE := Lib.hid hE
  obtain ⟨k0, k1, k2, k3, k4, k5, k6, k7, k8⟩ := HX.out w2 (Below.refl _ _)
  rw [hw2, hL] at k0 k1 k2 k3 k4 k5 k6 k7 k8
  clear hb1 hw2 hal hE
  go_wp2_with fail
  rw [← HQ2.out, ← HLQ.out]
  clear k0 k1 k2 k3 k4 k5 k6 k7 k8 hL
  refine (HLA.out _).mono ?_
  rintro e w3 ⟨rfl, hb3⟩
  have HB23 := Lib.hid hb3
  have HB3 := Lib.hid (By.ext HB2.out hb3)
  obtain ⟨k0, k1, k2, k3, k4, k5, k6, k7, k8⟩ := HX.out w3 hb3
  clear hb3
  go_wp2_with (first
    | (go_at_call 36
       refine (HAS.out _).mono ?_
       rintro e w4 ⟨v4, rfl, ho4, hb4⟩
       obtain ⟨Aa, ca, hva⟩ := ownT_form ho4
       subst hva
       have HO4 := Lib.hid ho4
       have HB34 := Lib.hid hb4
       have HB4 := Lib.hid (By.ext HB3.out hb4)
       clear ho4 hb4 k0 k1 k2 k3 k4 k5 k6 k7 k8)
    | fail)
  have HRM := Lib.hid (sremove_any g d nm s S al Aa ca w4 (HSL.out.below HB4.out) (HD.out.below HB4.out) HG.out HNM.out HAL.out HAL3.out (by have := HCNT.out; omega) (fun hn => by
    obtain ⟨b, o, h1, ⟨h2, h3⟩, h4⟩ := ownT_lies HO4.out hn
    exact ⟨b, o, h1, ⟨fun e => by have h5 := HLT.out.1 b e; have h6 := HB3.out.size; omega, h3⟩, h4⟩))
  have HCR := Lib.hid (cnt_remove nm al (s := s) HLT.out.2.2.up)
  obtain ⟨q, hq⟩ : ∃ q, q = removeX nm al s := ⟨_, rfl⟩
  rw [← hq] at HRM HCR HRX
  clear hq
  obtain ⟨E1, s1⟩ := q
  dsimp only at HRM HCR
  refine HRM.out.mono ?_
  intro e w5 hst
  have HST := Lib.hid (dstep_then (S := S) (Sk := S) (w := w) (w1 := w4) (fun b hb => .inl hb) (Kept.of_below HB4.out) hst)
  have hee := hst.1
  subst hee
  clear hst HRM HAS HLA
  by_cases he : E1 = 0
  · subst he
    have HR2 := Lib.hid (show r = thenX (putX nm (next el) D s1) fun s2 => removeX nm el.toList s2 by rw [HRX.out]; rfl)
    obtain ⟨-, S5, hd5, hS5, hk5⟩ := HST.out
    have HS5 := Lib.hid hS5
    have HK5 := Lib.hid hk5
    have HD5 := Lib.hid hd5
    have HG5 := Lib.hid (show ¬ S5 g from fun e => by
      rcases hS5 g e with h | h
      · exact HG.out h
      · have := HSL.out.lt; omega)
    have HSL5 := Lib.hid (HSL.out.kept HG.out hk5)
    have hbh := fun w' => behindT el HEL.out w'
    rw [← HEE.out] at hbh
    have HBH := Lib.hid hbh
    have HPT := Lib.hid (sput_any g d nm s1 S5 (next el) D A n c w5 HSL5.out HD5.out HG5.out HNM.out (next_lt el) (by have := HCR.out.1; have := HCNT.out; have := HAL3.out; omega) HN.out HDL.out
      ((HA.out.keep (S' := fun b => b < w5.heap.size) (fun b hb => hk5.block b hb.2 hb.1) (fun b hb => Nat.lt_of_lt_of_le hb.2 hk5.size)).lies (fun b hb => hb)))
    have HCP := Lib.hid (cnt_put nm (next el) D (s := s1) HCR.out.2)
    obtain ⟨q, hq⟩ : ∃ q, q = putX nm (next el) D s1 := ⟨_, rfl⟩
    rw [← hq] at HPT HCP HR2
    clear hq
    obtain ⟨E2, s2⟩ := q
    dsimp only at HPT HCP
    clear hd5 hS5 hk5 hbh HST HRX
    go_wp2_with (first
      | (go_at_call 38; refine (HBH.out _).mono ?_; rintro e w' ⟨rfl, rfl⟩)
      | fail)
    refine HPT.out.mono ?_
    intro e w6 hst
    have HST := Lib.hid (dstep_then HS5.out HK5.out hst)
    have hee := hst.1
    subst hee
    clear hst HPT HBH
    by_cases he : E2 = 0
    · subst he
      have HR3 := Lib.hid (show r = removeX nm el.toList s2 by rw [HR2.out]; rfl)
      cases el with
      | none =>
        have hE1 : E = -1 := HEE.out
        have HFIN := Lib.hid (show DStep (.int .i64 r.1) d r.2 S w (.returned (.int .i64 0)) w6 by rw [HR3.out]; exact HST.out)
        subst hE1
        go_wp2
        go_ret
        exact HFIN.out
      | some t =>
        have hE1 : E = (t : Int) := HEE.out
        have ht3 := HEL.out t rfl
        have hni : ¬ (E = -1) := by omega
        have hni1 : (E == -1) = false := beq_eq_false_iff_ne.2 hni
        obtain ⟨-, S6, hd6, hS6, hk6⟩ := HST.out
        have HS6 := Lib.hid hS6
        have HB7 := Lib.hid (nAlloc (Below.refl w6.heap.size w6) (Nat.le_refl _) (.cells #[.int .i64 E] 3))
        have HK7 := Lib.hid (hk6.step (M1 := fun b => w6.heap.size ≤ b) (Kept.of_below HB7.out) (fun b hb e => absurd hb (by have := hk6.size; omega)))
        have HL6 := Lib.hid (dlt hd6)
        have HG6 := Lib.hid (show ¬ S6 g from fun e => by
          rcases hS6 g e with h | h
          · exact HG.out h
          · have := HSL.out.lt; omega)
        have HRM := Lib.hid (sremove_any g d nm s2 S6 [t] (some ⟨w6.heap.size, 0, none⟩) 1 (w6.alloc (.cells #[.int .i64 E] 3)) (HSL.out.kept HG.out HK7.out) (hd6.below HB7.out) HG6.out HNM.out (fun u hu => by simp only [List.mem_cons, List.not_mem_nil, or_false] at hu; omega) (by simp) (by have := HCR.out.1; have := HCP.out.1; have := HCNT.out; have := HAL3.out; omega) (fun _ =>
          ⟨w6.heap.size, 0, rfl, ⟨fun e => by have := HL6.out.1 _ e; omega, by simp⟩, fun j u hu => by
            cases j with
            | zero =>
              injection hu with hu
              subst hu
              rw [cell_of_row _ _ _ _ _ _ (heap_alloc_new w6 _), hE1]
              rfl
            | succ j => simp at hu⟩))
        have HR4 := Lib.hid (show r = removeX nm [t] s2 from HR3.out)
        obtain ⟨q, hq⟩ : ∃ q, q = removeX nm [t] s2 := ⟨_, rfl⟩
        rw [← hq] at HRM HR4
        clear hq
        obtain ⟨E3, s3⟩ := q
        dsimp only at HRM
        clear hd6 hS6 hk6 hE1 hni HST
        go_wp2_with fail
        refine HRM.out.mono ?_
        intro e w8 hst
        have HST := Lib.hid (dstep_then HS6.out HK7.out hst)
        have hee := hst.1
        subst hee
        clear hst
        go_wp2
        go_ret
        rw [HR4.out]
        exact HST.out
    · have hei1 : (E2 == 0) = false := beq_eq_false_iff_ne.2 he
      have HE := Lib.hid (show r = (E2, s2) by rw [HR2.out]; unfold thenX; rw [if_neg he])
      go_wp2
      go_ret
      rw [HE.out]
      exact HST.out
  · have hei1 : (E1 == 0) = false := beq_eq_false_iff_ne.2 he
    have HE := Lib.hid (show r = (E1, s1) by rw [HRX.out]; unfold thenX; rw [if_neg he])
    go_wp2
    go_ret
    rw [HE.out]
    exact HST.out
end Go.Proofs.YtjnmolpopjapnaaDoor.So
