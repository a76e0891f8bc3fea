/- Package slot's remove and put, as contracts of calls. -/
import Derived.Test.YtjnmolpopjapnaaDoorSoG
import Derived.Test.YtjnmolpopjapnaaDoorDkM
import Derived.Test.YtjnmolpopjapnaaDoorEC
import Derived.Test.YtjnmolpopjapnaaDoorCoF
namespace Go.Proofs.YtjnmolpopjapnaaDoor.So
open Go.RowKit Go.Maps By Mp Dk

theorem dstep_then {val : Value} {g : Nat} {s' : DS} {S Sk : Nat → Prop} {w w1 w2 : World} {e : Ending} (hSk : ∀ b, Sk b → S b ∨ w.heap.size ≤ b) (hk : Kept S w w1) (h : DStep val g s' Sk w1 e w2) : DStep val g s' S w e w2 := by
  obtain ⟨he, S', hd, hS', hk'⟩ := h
  refine ⟨he, S', hd, fun b hb => ?_, hk.step hk' (fun b hb e => (hSk b e).resolve_right (by omega))⟩
  rcases hS' b hb with h | h
  · exact hSk b h
  · exact .inr (Nat.le_trans hk.size h)
/-- Turns in memory, in blocks of P. -/
def LiesT (w : World) (P : Nat → Prop) (A : Option Addr) (l : List Nat) : Prop := 0 < l.length → ∃ b o, A = some ⟨b, o, none⟩ ∧ P b ∧ ∀ (j t : Nat), l[j]? = some t → w.cell? ⟨b, o + j, none⟩ = some (.int .i64 (t : Int))
theorem ownT_lies {base : Nat} {w : World} {A : Option Addr} {c : Nat} {l : List Nat} (h : OwnT base w (.slice A l.length c) l) : LiesT w (fun b => base ≤ b ∧ b < w.heap.size) A l := fun hn => by
  obtain ⟨g, c', h1, h2, h3⟩ := World.ownsRow.form h hn
  injection h1 with h1
  refine ⟨g, 0, h1, ⟨h2, h3⟩, fun j t hj => ?_⟩
  subst h1
  have := World.ownsRow.cells h (g := g) rfl j (.int .i64 (t : Int)) (by unfold ints; rw [List.getElem?_map, hj]; rfl)
  rwa [plainAdd] at this
theorem rms_cons {nm : Bs} {l : List Nat} {k : Nat} (hk : k < l.length) (s : DS) : rms nm (l.drop k) s = if chgE s 3 (pth nm l[k]) 0 [] = 0 then rms nm (l.drop (k + 1)) (chgS s 3 (pth nm l[k]) 0 []) else (chgE s 3 (pth nm l[k]) 0 [], chgS s 3 (pth nm l[k]) 0 []) := by
  rw [List.drop_eq_getElem_cons hk]
  rfl
theorem cnt_chg (s : DS) (k : Nat) (nm : Bs) (off : Int) (d : Bs) : (chgS s k nm off d).cnt ≤ s.cnt + 1 := by
  have hb : (burnt s).sure = s.sure ∧ (burnt s).unsure = s.unsure := by
    unfold burnt
    split
    · exact ⟨rfl, rfl⟩
    · split <;> exact ⟨rfl, rfl⟩
  unfold chgS DS.cnt
  split
  · omega
  · split
    · rw [hb.1, hb.2]; omega
    · show (burnt s).sure.length + (s.unsure ++ _).length ≤ _
      rw [hb.1]; simp; omega
set_option maxRecDepth 100000 in
set_option maxHeartbeats 4000000 in
theorem sremove_any (g d : Nat) (nm : Bs) (s : DS) (S : Nat → Prop) (l : List Nat) (A : Option Addr) (c : Nat) (w : World) (h : SlotAt w g d nm false) (hd : DiskAt w d s S) (hg : ¬ S g) (hnm : sname nm = true) (hl : ∀ t ∈ l, t < 3) (hl3 : l.length ≤ 3) (hcnt : s.cnt ≤ 68719476000) (hA : LiesT w (fun b => ¬ S b ∧ b < w.heap.size) A l) :
    Calls Tryd.prog 35 #[.pointer (some ⟨g, 0, none⟩), .slice A l.length c] w (DStep (.int .i64 (removeX nm l s).1) d (removeX nm l s).2 S w) := by
  have hl8 := (sname_len hnm).2
  have HD := Lib.hid hd
  have HSL := Lib.hid h
  have HG := Lib.hid hg
  have HA := Lib.hid hA
  have HL := Lib.hid hl
  have HCNT := Lib.hid hcnt
  by_cases h0 : l.length = 0
  · have hle : l = [] := List.length_eq_zero_iff.1 h0
    subst hle
    have HFIN := Lib.hid (show DStep (.int .i64 (removeX nm [] s).1) d (removeX nm [] s).2 S w (.returned (.int .i64 0)) w from ⟨rfl, S, HD.out, fun _ hb => .inl hb, Kept.refl _ _⟩)
    clear h hd hg hA hl hcnt
    go_enter Tryd.func35, Tryd.ntmps35
    go_wp2
    go_ret
    exact HFIN.out
  · have HRX := Lib.hid (show removeX nm l s = syn (rms nm l s) by unfold removeX; rw [if_neg (fun e => h0 (by rw [e]; rfl))])
    obtain ⟨r, hr⟩ : ∃ r, r = removeX nm l s := ⟨_, rfl⟩
    rw [← hr] at HRX ⊢
    have hni : ¬ ((l.length : Int) = 0) := by omega
    have hni1 : ((l.length : Int) == 0) = false := beq_eq_false_iff_ne.2 hni
    have HL3 := Lib.hid hl3
    clear h hd hg hA hl hcnt hr hni
    go_enter Tryd.func35, Tryd.ntmps35
    go_wp2
    clear hni1 h0
    go_loopw [13] (fun i wr => ∃ k : Nat, k ≤ l.length ∧ i = .int .i64 (k : Int) ∧ ∃ sk Sk, rms nm (l.drop k) sk = rms nm l s ∧ sk.cnt ≤ s.cnt + k ∧ DiskAt wr d sk Sk ∧ (∀ b, Sk b → S b ∨ w.heap.size ≤ b) ∧ Kept S w wr) (fun i _ => l.length - (intOf i).toNat)
    case atStart => exact ⟨0, Nat.zero_le _, rfl, s, S, rfl, Nat.le_refl _, HD.out, fun b hb => .inl hb, Kept.refl _ _⟩
    case round =>
      obtain ⟨k, hk, rfl, sk, Sk, hrk, hck, hdk, hSk, hkk⟩ := hrel
      have HDK := Lib.hid hdk
      have HSK := Lib.hid hSk
      have HKK := Lib.hid hkk
      have HRK := Lib.hid hrk
      have HCK := Lib.hid hck
      have HSR := Lib.hid (HSL.out.kept HG.out hkk)
      have HC := Lib.hid (fun (w' : World) (hb : Below wr.heap.size wr w') => (HSR.out.below hb).cells.1)
      clear hdk hSk hkk hrk hck
      by_cases hlt : k < l.length
      · have ht3 := HL.out _ (List.getElem_mem hlt)
        obtain ⟨b, o, rfl, ⟨hb1, hb2⟩, hcells⟩ := HA.out (by omega)
        have hcl := hcells k _ (List.getElem?_eq_getElem hlt)
        have hcl' : wr.cell? ⟨b, o + k, none⟩ = some (.int .i64 (l[k] : Int)) := (World.cell?_of_block (w := w) (HKK.out.block b hb2 hb1)).trans hcl
        have HRC := Lib.hid (rms_cons hlt sk (nm := nm))
        have HCN := Lib.hid (cnt_chg sk 3 (pth nm l[k]) 0 [])
        obtain ⟨t, ht⟩ : ∃ t, t = l[k] := ⟨_, rfl⟩
        rw [← ht] at ht3 hcl' HRC HCN
        clear hcl hcells ht
        have HPK := Lib.hid (fun (w' : World) (hb' : Below wr.heap.size wr w') => path_any g d nm false t w' (HSR.out.below hb') ht3 hl8)
        have HRM := Lib.hid (fun (w' : World) (hb' : Below wr.heap.size wr w') => remove_any d sk Sk (pth nm t) w' (HDK.out.below hb') (by have := HCK.out; have := HCNT.out; have := HL3.out; omega) (by rw [pth_length]; omega))
        obtain ⟨P, hP⟩ : ∃ P, P = str (pth nm t) := ⟨_, rfl⟩
        rw [← hP] at HPK HRM
        obtain ⟨E, hE⟩ : ∃ E, E = chgE sk 3 (pth nm t) 0 [] := ⟨_, rfl⟩
        obtain ⟨s2, hs2⟩ : ∃ s2, s2 = chgS sk 3 (pth nm t) 0 [] := ⟨_, rfl⟩
        rw [← hE, ← hs2] at HRM HRC
        rw [← hs2] at HCN
        clear hP hE hs2 ht3
        go_upto_region 6 with fail
        go_region_held3 (fun w' => w'.cell? ⟨g, 0, none⟩ = some (.pointer (some ⟨d, 0, none⟩)))
          (first
            | with_reducible assumption
            | exact HC.out _ (Below.refl _ _)
            | exact HC.out _ (Below.refl _ _).drew
            | exact HX5.out
            | exact HC.out _ HB4.out)
          (first
            | (go_at_call 44; refine (HPK.out _ (Below.refl _ _).drew).mono ?_; rintro e w4 ⟨rfl, hb4⟩
               have HB4 := Lib.hid (show Below wr.heap.size wr w4 from By.ext (Below.refl _ _).drew hb4)
               clear hb4)
            | (go_at_call 46; refine (HRM.out _ HB4.out).mono ?_; intro e w5 hst
               have HST := Lib.hid (dstep_then HSK.out (HKK.out.step (M1 := fun b => wr.heap.size ≤ b) (Kept.of_below HB4.out) (fun b hb e => absurd hb (by have := HKK.out.size; omega))) hst)
               have HX5 := Lib.hid (show w5.cell? ⟨g, 0, none⟩ = some (.pointer (some ⟨d, 0, none⟩)) by obtain ⟨_, _, _, _, hk⟩ := HST.out; exact (HSL.out.kept HG.out hk).cells.1)
               have hee := hst.1
               subst hee
               clear hst))
        by_cases he : E = 0
        · subst he
          obtain ⟨-, S5, hd5, hS5, hk5⟩ := HST.out
          have HFIN := Lib.hid (show ∃ sk Sk, rms nm (l.drop (k + 1)) sk = rms nm l s ∧ sk.cnt ≤ s.cnt + (k + 1) ∧ DiskAt w5 d sk Sk ∧ (∀ b, Sk b → S b ∨ w.heap.size ≤ b) ∧ Kept S w w5 from
            ⟨s2, S5, by rw [← HRK.out, HRC.out, if_pos rfl], by have := HCN.out; have := HCK.out; omega, hd5, hS5, hk5⟩)
          clear hd5 hS5 hk5
          go_wp2
          go_roundw
          case rel => exact ⟨k + 1, by omega, by go_num, HFIN.out⟩
          case measure => simp [intOf]; omega
        · have hei1 : (E == 0) = false := beq_eq_false_iff_ne.2 he
          have HE := Lib.hid (show r = (E, s2) by rw [HRX.out, ← HRK.out, HRC.out, if_neg he]; unfold syn; rw [if_neg he])
          go_wp2
          go_ret
          rw [HE.out]
          exact HST.out
      · have hke : k = l.length := by omega
        have HRR := Lib.hid (show r = (synE sk, synS sk) by rw [HRX.out, ← HRK.out, hke, List.drop_length]; rfl)
        have HSY := Lib.hid (sync_any d sk Sk wr HDK.out (by have := HCK.out; have := HCNT.out; have := HL3.out; omega))
        have hc0 := HC.out wr (Below.refl _ _)
        obtain ⟨E, hE⟩ : ∃ E, E = synE sk := ⟨_, rfl⟩
        rw [← hE] at HSY HRR
        clear hE
        go_wp2_with fail
        refine HSY.out.mono ?_
        intro e w5 hst
        have HST := Lib.hid (dstep_then HSK.out HKK.out hst)
        have hee := hst.1
        subst hee
        clear hst
        go_wp2
        go_ret
        rw [HRR.out]
        exact HST.out
/-- What Frame gives, as a slice. -/
def putPre (S : Nat → Prop) (w : World) : Prop := ∀ b, S b → b < w.heap.size
set_option maxRecDepth 100000 in
set_option maxHeartbeats 4000000 in
theorem sput_any (g d : Nat) (nm : Bs) (s : DS) (S : Nat → Prop) (t : Nat) (D : Bs) (A : Option Addr) (n c : Nat) (w : World) (h : SlotAt w g d nm false) (hd : DiskAt w d s S) (hg : ¬ S g) (hnm : sname nm = true) (ht : t < 3) (hcnt : s.cnt ≤ 68719476000) (hn : n = D.length) (hD : D.length ≤ 65520) (hA : Lies w w.heap.size A D) :
    Calls Tryd.prog 37 #[.pointer (some ⟨g, 0, none⟩), .int .i64 (t : Int), .slice A n c] w (DStep (.int .i64 (putX nm t D s).1) d (putX nm t D s).2 S w) := by
  have hl8 := (sname_len hnm).2
  have HD := Lib.hid hd
  have HSL := Lib.hid h
  have HG := Lib.hid hg
  have HCNT := Lib.hid hcnt
  have HFR := Lib.hid (Co.frame_ok A n c w.heap.size D hn (by omega) w hA (Nat.le_refl _))
  have HLEN := Lib.hid (CoP.frame_length D)
  obtain ⟨fr, hfr⟩ : ∃ fr, fr = CoP.frame D := ⟨_, rfl⟩
  rw [← hfr] at HFR HLEN
  have HPX := Lib.hid (show putX nm t D s = syn (chgE s 1 (pth nm t) 0 fr, chgS s 1 (pth nm t) 0 fr) by rw [hfr]; rfl)
  obtain ⟨r, hr⟩ : ∃ r, r = putX nm t D s := ⟨_, rfl⟩
  rw [← hr] at HPX ⊢
  have HDL := Lib.hid hD
  clear h hd hg hcnt hn hA hfr hr hD
  go_enter Tryd.func37, Tryd.ntmps37
  go_wp2_with fail
  refine HFR.out.mono ?_
  rintro e w1 ⟨vf, rfl, hof, hb1⟩
  obtain ⟨Af, cf, hvf, hcf, -, -, hlf, -⟩ := hof.form
  subst hvf
  have HLS := Lib.hid (LiesS.own hof)
  have HB1 := Lib.hid hb1
  have HCF := Lib.hid hcf
  have HS1 := Lib.hid (HSL.out.below hb1)
  have HD1 := Lib.hid (HD.out.below hb1)
  have HC := Lib.hid (fun (w' : World) (hb : Below w1.heap.size w1 w') => (HS1.out.below hb).cells.1)
  have HLT := Lib.hid (show ∀ b, S b → b < w.heap.size by obtain ⟨bm, sm, pb, ps, v, h⟩ := HD.out; exact h.lt)
  have HSD := Lib.hid (show S d by obtain ⟨bm, sm, pb, ps, v, h⟩ := HD.out; exact h.subg)
  have HPK := Lib.hid (fun (w' : World) (hb' : Below w1.heap.size w1 w') => path_any g d nm false t w' (HS1.out.below hb') ht hl8)
  have HPU := Lib.hid (fun (w' : World) (hb' : Below w1.heap.size w1 w') => put_any d s S (pth nm t) 0 fr Af fr.length cf w' (HD1.out.below hb') (by have := HCNT.out; omega) (by have := HLEN.out; have := HDL.out; omega) (by rw [pth_length]; omega) rfl HCF.out (fun b => w.heap.size ≤ b ∧ b < w1.heap.size) (fun b hb => ⟨fun e => by have := HLT.out d HSD.out; omega, Nat.lt_of_lt_of_le hb.2 hb'.size⟩)
    (HLS.out.keep (fun b hb => hb'.block b hb.2) (fun b hb => hb)))
  have HCC := Lib.hid (cnt_chg s 1 (pth nm t) 0 fr)
  obtain ⟨P, hP⟩ : ∃ P, P = str (pth nm t) := ⟨_, rfl⟩
  rw [← hP] at HPK HPU
  obtain ⟨E, hE⟩ : ∃ E, E = chgE s 1 (pth nm t) 0 fr := ⟨_, rfl⟩
  obtain ⟨s2, hs2⟩ : ∃ s2, s2 = chgS s 1 (pth nm t) 0 fr := ⟨_, rfl⟩
  rw [← hE, ← hs2] at HPU HPX
  rw [← hs2] at HCC
  clear hof hb1 hcf hlf hP hE hs2 HFR ht
  obtain ⟨fl, hfl⟩ : ∃ fl, fl = fr.length := ⟨_, rfl⟩
  rw [← hfl] at HPU ⊢
  clear hfl
  go_upto_region 4 with fail
  go_region_held3 (fun w' => w'.cell? ⟨g, 0, none⟩ = some (.pointer (some ⟨d, 0, none⟩)))
    (first
      | with_reducible assumption
      | exact HC.out _ (Below.refl _ _)
      | exact HC.out _ (Below.refl _ _).drew
      | exact HX5.out
      | exact HC.out _ HB4.out)
    (first
      | (go_at_call 44; refine (HPK.out _ (Below.refl _ _).drew).mono ?_; rintro e w4 ⟨rfl, hb4⟩
         have HB4 := Lib.hid (show Below w1.heap.size w1 w4 from By.ext (Below.refl _ _).drew hb4)
         clear hb4)
      | (go_at_call 49; refine (HPU.out _ HB4.out).mono ?_; intro e w5 hst
         have HST := Lib.hid (dstep_then (fun b hb => .inl hb) (Kept.of_below (HB1.out.trans (HB4.out.mono HB1.out.size))) hst)
         have HX5 := Lib.hid (show w5.cell? ⟨g, 0, none⟩ = some (.pointer (some ⟨d, 0, none⟩)) by obtain ⟨_, _, _, _, hk⟩ := HST.out; exact (HSL.out.kept HG.out hk).cells.1)
         have hee := hst.1
         subst hee
         clear hst))
  by_cases he : E = 0
  · subst he
    obtain ⟨-, S5, hd5, hS5, hk5⟩ := HST.out
    have HRR := Lib.hid (show r = (synE s2, synS s2) by rw [HPX.out]; rfl)
    have HSY := Lib.hid (sync_any d s2 S5 w5 hd5 (by have := HCC.out; have := HCNT.out; omega))
    have HS5 := Lib.hid hS5
    have HK5 := Lib.hid hk5
    have hc0 := HX5.out
    obtain ⟨E, hE⟩ : ∃ E, E = synE s2 := ⟨_, rfl⟩
    rw [← hE] at HSY HRR
    clear hE hd5 hS5 hk5
    go_wp2_with fail
    refine HSY.out.mono ?_
    intro e w6 hst
    have HST := Lib.hid (dstep_then HS5.out HK5.out hst)
    have hee := hst.1
    subst hee
    clear hst
    go_wp2
    go_ret
    rw [HRR.out]
    exact HST.out
  · have hei1 : (E == 0) = false := beq_eq_false_iff_ne.2 he
    have HE := Lib.hid (show r = (E, s2) by rw [HPX.out]; unfold syn; rw [if_neg he])
    go_wp2
    go_ret
    rw [HE.out]
    exact HST.out
end Go.Proofs.YtjnmolpopjapnaaDoor.So
