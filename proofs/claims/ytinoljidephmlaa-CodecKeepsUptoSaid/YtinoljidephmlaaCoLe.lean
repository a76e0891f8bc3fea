/- The law CodecKeeps, walked: whatever comes in, not too much. -/
import Derived.Test.YtinoljidephmlaaCoLc
namespace Go.Proofs.Ytinoljidephmlaa.Co
open Go.RowKit By CoP

theorem grown_trans {w w1 w2 : World} {r : Option Nat} (h1 : w.grownBy w1 r) (h2 : w1.grownBy w2 r) : w.grownBy w2 r :=
  ⟨h2.os.trans h1.os, h2.tape.trans h1.tape, h2.output.trans h1.output, Nat.le_trans h1.size h2.size, fun k hk hr => (h2.block k (Nat.lt_of_lt_of_le hk h1.size) hr).trans (h1.block k hk hr)⟩
theorem grown_refl (w : World) (r : Option Nat) : w.grownBy w r := ⟨rfl, rfl, rfl, Nat.le_refl _, fun _ _ _ => rfl⟩
theorem own_head {base : Nat} {w : World} {A : Option Addr} {n c : Nat} {l : List UInt8} (h : Own base w (.slice A n c) l) (hn : 0 < n) : ∃ g, A = some ⟨g, 0, none⟩ ∧ base ≤ g ∧ g < w.heap.size ∧ n = l.length := by
  have hl : n = l.length := by
    rcases h.2 with ⟨h1, h2⟩ | ⟨_, _, _, h1, _⟩
    · injection h1 with _ h3; omega
    · injection h1
  obtain ⟨g, c', h1, h2, h3⟩ := World.ownsRow.form h (by omega)
  injection h1 with h1
  exact ⟨g, h1, h2, h3, hl⟩
theorem own_cell {base : Nat} {w : World} {g n c : Nat} {l : List UInt8} (h : Own base w (.slice (some ⟨g, 0, none⟩) n c) l) {j : Nat} (hj : j < l.length) : w.cell? ⟨g, j, none⟩ = some (.int .u8 (l[j].toNat : Int)) := by
  have := World.ownsRow.cells h (g := g) rfl j (bv l[j]) (by simp [bvs, hj])
  rwa [plainAdd, Nat.zero_add] at this
theorem own_free {base : Nat} {w : World} {g n c : Nat} {l : List UInt8} (h : Own base w (.slice (some ⟨g, 0, none⟩) n c) l) (hn : n = l.length) (j : Nat) : w.frozen? ⟨g, j, none⟩ = false := by
  subst hn
  exact World.ownsRow.frozenAt h j
theorem own_set {base : Nat} {w : World} {g n c : Nat} {l : List UInt8} (h : Own base w (.slice (some ⟨g, 0, none⟩) n c) l) (hn : n = l.length) (j : Nat) (x : UInt8) :
    Own base (w.setCell ⟨g, j, none⟩ (bv x)) (.slice (some ⟨g, 0, none⟩) n c) (l.set j x) ∧ w.grownBy (w.setCell ⟨g, j, none⟩ (bv x)) (some g) := by
  refine ⟨h.stored j x, ?_⟩
  subst hn
  exact (World.ownsRow.stored h j (bv x)).2
theorem frame_both (l : List UInt8) : ∃ (lf : List UInt8) (ef : Int) (zl : List UInt8) (zx ze : Int),
    (∀ (A : Option Addr) (n c : Nat) (w : World), n = l.length → Lies w w.heap.size A l → Calls Try.prog 22 #[.slice A n c] w (GivesE w.heap.size lf ef w)) ∧
    (∀ (A : Option Addr) (n c : Nat) (w : World), n = lf.length → n ≤ c → Lies w w.heap.size A lf → Calls Try.prog 20 #[.slice A n c, .int .i64 0] w (Gives3 w.heap.size zl zx ze w)) ∧
    zl.length ≤ 65536 ∧ (65536 < l.length ∨ (ef = 0 ∧ ze = 0 ∧ l = zl)) := by
  have hun : ∀ lf : List UInt8, lf.length ≤ 65544 → ∀ (A : Option Addr) (n c : Nat) (w : World), n = lf.length → n ≤ c → Lies w w.heap.size A lf →
      Calls Try.prog 20 #[.slice A n c, .int .i64 0] w (Gives3 w.heap.size (unR lf).1 (nextI 0 (unR lf).2.1 (unR lf).2.2) (unR lf).2.2 w) := fun lf hlf A n c w hn hc hr => by
    have h := un_in A n c 0 _ lf hn hc (Nat.zero_le _) (by omega) w hr (Nat.le_refl _)
    rw [List.drop_zero] at h
    exact h
  by_cases h : 65536 < l.length
  · have h0 : unR [] = ([], 0, 5) := unR_few (by simp)
    have hu := hun [] (by simp)
    rw [h0] at hu
    exact ⟨[], 7, [], _, _, fun A n c w hn _ => frame_large A n c (by omega) w, hu, by simp, .inl h⟩
  · have h0 := unR_frame l (by omega) []
    rw [List.append_nil] at h0
    have hu := hun (frame l) (by rw [frame_length]; omega)
    rw [h0] at hu
    exact ⟨frame l, 0, l, _, _, fun A n c w hn hr => frame_ok A n c _ l hn (by omega) w hr (Nat.le_refl _), hu, by omega, .inr ⟨rfl, rfl, rfl⟩⟩

set_option maxRecDepth 100000 in
set_option maxHeartbeats 3200000 in
theorem codecKeeps_walk (A : Option Addr) (n c : Nat) (l : List UInt8) (k : Int) (hn : n = l.length) (hm : n ≤ 1048576) (k0 : 0 ≤ k) (k1 : k ≤ 18446744073709551615) (w : World) (hr : Lies w w.heap.size A l) :
    Calls Try.prog 8 #[.slice A n c, .int .u64 k] w (True_ w) := by
  obtain ⟨q, rfl⟩ : ∃ q : Nat, k = q := ⟨k.toNat, by omega⟩
  have HQ := Lib.hid (show q < 18446744073709551616 by omega)
  have HN := Lib.hid hn
  have HR := Lib.hid hr
  obtain ⟨lf, ef, zl, zx, ze, hfr, hun, hzl, hfu⟩ := frame_both l
  have HUN := Lib.hid hun
  have HFR := Lib.hid hfr
  have HFU := Lib.hid hfu
  clear hn hr k0 k1 hfr hfu hun
  go_enter Try.func8, Try.ntmps8
  go_wp2_with fail
  refine (own_any A n c _ l HN.out w HR.out (Nat.le_refl _) (by have := HN.out; omega)).mono ?_
  rintro e wa ⟨va, rfl, ho, hb⟩
  have HBa := Lib.hid hb
  have hza := hb.size
  clear hb
  go_wp2_with (at_builtin; refine wpList_app rfl (.tmp 21) (.tmp 22) rfl rfl (ho.alloc _) rfl rfl (Lies.one _ _ 71 rfl) ?cs ?cb ?_)
  case cs => have := HN.out; rw [List.length_singleton]; omega
  case cb => rw [World.size_alloc]; omega
  intro v wb ho2 hb2 _
  have hbw : Below w.heap.size w wb := (HBa.out.alloc hza _).trans hb2
  obtain ⟨A1, c1, rfl, hc1, -, -, hr1, -⟩ := ho2.form
  have hl1 : (l ++ [71]).length = n + 1 := by rw [List.length_append, ← HN.out]; rfl
  rw [hl1] at ho2 hc1 ⊢
  obtain ⟨g0, rfl, -, hg02, -⟩ := own_head ho2 (by omega)
  have hcin : wb.cell? ⟨g0, n, none⟩ = some (.int .u8 71) := by
    have hj : n < (l ++ [71]).length := by omega
    have h := own_cell ho2 hj
    have e : (l ++ [71])[n] = 71 := by
      rw [List.getElem_append_right (by rw [HN.out]; exact Nat.le_refl _)]
      simp
    rw [e] at h
    exact h
  have hpart : Lies wb wb.heap.size (some ⟨g0, 0, none⟩) l := by
    have h := lies_take hr1 l.length
    rwa [List.take_left] at h
  have B2 := Lib.hid hbw
  have HRb := Lib.hid (lext HR.out hbw)
  have HCIN := Lib.hid hcin
  have HP := Lib.hid hpart
  have hqs := fun w => run_to w (some ⟨g0, 0, none⟩) (n + 1) c1 n (by omega)
  clear ho ho2 hb2 hbw hr1 hl1 hcin hpart HBa hza
  go_wp2_with fail
  refine (putNum_any (some ⟨g0, 0, none⟩) n c1 _ l q _ rfl HQ.out HN.out wb HP.out (Nat.le_refl _) (by have := HN.out; omega)).mono ?_
  rintro e wc ⟨_, rfl, ho, hb⟩
  obtain ⟨X, cx, rfl, -, -, -, -, -⟩ := ho.form
  obtain ⟨nx, hnx⟩ : ∃ nx, (l ++ putNum q).length = nx := ⟨_, rfl⟩
  rw [hnx] at ho ⊢
  have hnxp : 0 < nx := by rw [← hnx, List.length_append, putNum_length]; omega
  have hnxm : nx ≤ 1048600 := by rw [← hnx, List.length_append]; have := putNum_short q HQ.out; have := HN.out; omega
  obtain ⟨gx, rfl, hgx1, hgx2, -⟩ := own_head ho hnxp
  have HX := Lib.hid ho
  have HNX := Lib.hid hnx.symm
  have Bbc := Lib.hid hb
  have HPc := Lib.hid (lext HP.out hb)
  clear ho hb hnx
  go_wp2_with fail
  refine (putNum_any (some ⟨g0, 0, none⟩) n c1 _ l q _ rfl HQ.out HN.out wc HPc.out (Nat.le_refl _) (by have := HN.out; omega)).mono ?_
  rintro e wd ⟨_, rfl, ho, hb⟩
  obtain ⟨Y, cy, rfl, -, -, -, -, -⟩ := ho.form
  rw [← HNX.out] at ho ⊢
  have HY := Lib.hid ho
  have Bbd := Lib.hid (ext Bbc.out hb)
  have HPd := Lib.hid (lext HPc.out hb)
  have HXd := Lib.hid (HX.out.kept hb (Nat.le_refl _))
  have hzc := hb.size
  clear ho hb HPc HX
  have hpl2 : putLists [l] = putBytes l := by simp [putLists]
  have hpbl : (putBytes l).length ≤ n + 9 := by have h := putBytes_length l (by have := HN.out; omega); have := HN.out; omega
  have HPL2 := Lib.hid hpl2
  have HPBL := Lib.hid hpbl
  clear hpl2 hpbl
  have HL6 := Lib.hid (LiesL.one c1 HN.out HPd.out (Nat.le_refl _))
  go_wp2_with fail
  refine (putBytes_any (some ⟨g0, 0, none⟩) (some ⟨wd.heap.size, 0, none⟩) n c1 1 1 (wd.heap.size + 1) l [l] HN.out rfl (wd.alloc (.cells #[.slice (some ⟨g0, 0, none⟩) n c1] 22)) ((HPd.out.alloc (Nat.le_refl _) _).more (Nat.le_succ _)) HL6.out (by rw [World.size_alloc]; exact Nat.le_refl _)
    (by have h3 := HPBL.out; have := HN.out; rw [HPL2.out]; omega) (by omega)).mono ?_
  rintro e we ⟨_, rfl, ho, hb⟩
  rw [HPL2.out] at ho
  have hbx : Below wd.heap.size wd we := ((Below.refl wd.heap.size wd).alloc (Nat.le_refl _) _).trans (hb.mono (by first | exact Nat.le_succ _ | (rw [World.size_alloc]; exact Nat.le_succ _)))
  obtain ⟨Z, cz, rfl, -, -, -, -, -⟩ := ho.form
  obtain ⟨nz, hnz⟩ : ∃ nz, (l ++ putBytes l).length = nz := ⟨_, rfl⟩
  have hpl3 : (l ++ putLists [l]).length = nz := by rw [HPL2.out]; exact hnz
  rw [hnz] at ho ⊢
  have HZ := Lib.hid (ho.more (show wd.heap.size ≤ (wd.alloc (.cells #[.slice (some ⟨g0, 0, none⟩) n c1] 22)).heap.size by rw [World.size_alloc]; exact Nat.le_succ _))
  have HNZ := Lib.hid hnz.symm
  have Bbe := Lib.hid (ext Bbd.out hbx)
  have HPe := Lib.hid (lext HPd.out hbx)
  have HXe := Lib.hid (HXd.out.kept hbx (Nat.le_refl _))
  have HYe := Lib.hid (HY.out.kept hbx (Nat.le_refl _))
  have hzd := hbx.size
  clear ho hb hbx hnz HPd HXd HY HL6 hpl3
  go_wp2_with fail
  refine (HFR.out (some ⟨g0, 0, none⟩) n c1 we HN.out HPe.out).mono ?_
  rintro e wf ⟨_, rfl, ho, hb⟩
  obtain ⟨F, cf, rfl, -, -, -, -, -⟩ := ho.form
  have HF := Lib.hid ho
  have Bbf := Lib.hid (ext Bbe.out hb)
  have HPf := Lib.hid (lext HPe.out hb)
  have HXf := Lib.hid (HXe.out.kept hb (Nat.le_refl _))
  have HYf := Lib.hid (HYe.out.kept hb (Nat.le_refl _))
  have HZf := Lib.hid (HZ.out.kept hb (Nat.le_refl _))
  have hze := hb.size
  clear ho hb HPe HXe HYe HZ
  go_wp2
  go_loopw [12] (fun i wr => ∃ (j : Nat) (lj : List UInt8), j ≤ nx ∧ i = .int .i64 (j : Int) ∧ nx = lj.length ∧ Own wb.heap.size wr (.slice (some ⟨gx, 0, none⟩) nx cx) lj ∧ wf.grownBy wr (some gx)) (fun i _ => nx - (intOf i).toNat)
  case atStart => exact ⟨0, _, by omega, rfl, HNX.out, HXf.out, grown_refl _ _⟩
  case round =>
    obtain ⟨j, lj, hj, rfl, hlj, hoj, hgj⟩ := hrel
    have HLJ := Lib.hid hlj
    have HOJ := Lib.hid hoj
    have HGJ := Lib.hid hgj
    clear hlj hoj hgj
    by_cases hjn : j < nx
    · have hc := own_cell HOJ.out (show j < lj.length by have := HLJ.out; omega)
      have hf := own_free HOJ.out HLJ.out j
      obtain ⟨hs1, hs2⟩ := own_set HOJ.out HLJ.out j 99
      have hs3 : nx = (lj.set j 99).length := by rw [List.length_set]; exact HLJ.out
      have HS1 := Lib.hid hs1
      have HS2 := Lib.hid (grown_trans HGJ.out hs2)
      have HS3 := Lib.hid hs3
      clear hs1 hs2 hs3
      go_wp2
      go_roundw
      case rel => exact ⟨j + 1, _, by omega, by go_num, HS3.out, HS1.out, HS2.out⟩
      case measure => simp [intOf]; omega
    · obtain rfl : j = nx := by omega
      have hbr : Below wb.heap.size wf wr := ⟨HGJ.out.os, HGJ.out.tape, HGJ.out.output, HGJ.out.size, fun k hk => HGJ.out.block k (by have := Bbf.out.size; omega) (fun e => by injection e; omega)⟩
      have hbr2 : Below wb.heap.size wb wr := Bbf.out.trans hbr
      have hyr : Own wc.heap.size wr (.slice Y j cy) (l ++ putNum q) := World.ownsRow.kept HYf.out HGJ.out (.inr (fun e => by have := HYf.out.lt _ e; omega))
      have hzr : Own wd.heap.size wr (.slice Z nz cz) (l ++ putBytes l) := World.ownsRow.kept HZf.out HGJ.out (.inr (fun e => by have := HZf.out.lt _ e; omega))
      have hfr : Own we.heap.size wr (.slice F lf.length cf) lf := World.ownsRow.kept HF.out HGJ.out (.inr (fun e => by have := HF.out.lt _ e; omega))
      obtain ⟨_, _, e1, -, -, -, hly, -⟩ := hyr.form
      injection e1 with e11 e12 e13
      subst e11
      obtain ⟨_, _, e1, -, -, -, hlz, -⟩ := hzr.form
      injection e1 with e21 e22 e23
      subst e21
      have hlb : Lies wr wr.heap.size A l := lext HRb.out hbr2
      have hlp : Lies wr wr.heap.size (some ⟨g0, 0, none⟩) l := lext HP.out hbr2
      have hcin : wr.cell? ⟨g0, n, none⟩ = some (.int .u8 71) := (hbr2.cell (p := ⟨g0, n, none⟩) hg02).trans HCIN.out
      have t1 : ∀ w', Below wr.heap.size wr w' → (convert 22 9 (.slice A n c)).run Try.prog w' = .ok (.string (str l)) w' := fun w' h => run_text w' c HN.out (lext hlb h)
      have t2 : ∀ w', Below wr.heap.size wr w' → (convert 22 9 (.slice (some ⟨g0, 0, none⟩) n c1)).run Try.prog w' = .ok (.string (str l)) w' := fun w' h => run_text w' c1 HN.out (lext hlp h)
      have t3 : ∀ w', Below wr.heap.size wr w' → (convert 22 9 (.slice Y j cy)).run Try.prog w' = .ok (.string (str (l ++ putNum q))) w' := fun w' h => run_text w' cy HNX.out (lext hly h)
      have t4 : ∀ w', Below wr.heap.size wr w' → (convert 22 9 (.slice Z nz cz)).run Try.prog w' = .ok (.string (str (l ++ putBytes l))) w' := fun w' h => run_text w' cz HNZ.out (lext hlz h)
      have t5 : ∀ w', Below wr.heap.size wr w' → w'.cell? ⟨g0, n, none⟩ = some (.int .u8 71) := fun w' h => (h.cell (p := ⟨g0, n, none⟩) (show g0 < wr.heap.size by have := hbr2.size; omega)).trans hcin
      have he1 : ((str (l ++ putNum q)).toList == (str l ++ str (putNum q)).toList) = true := by rw [str_append]; exact beq_self_eq_true _
      have he2 : ((str (l ++ putBytes l)).toList == (str l ++ str (putBytes l)).toList) = true := by rw [str_append]; exact beq_self_eq_true _
      have hs1 : (str l).size + (str (putNum q)).size ≤ 9223372036854775807 := by
        have h1 := putNum_short q HQ.out
        have h2 := HN.out
        rw [str_size, str_size]; omega
      have hs2 : (str l).size + (str (putBytes l)).size ≤ 9223372036854775807 := by
        have h2 := HN.out
        have h1 := putBytes_length l (by omega)
        rw [str_size, str_size]; omega
      have HBR := Lib.hid hbr2
      have HLB := Lib.hid hlb
      have HFR2 := Lib.hid hfr
      have hn1 : (n : Int) < (n : Int) + 1 := by omega
      clear hbr hbr2 hyr hzr hfr hly hlz hlb hlp hcin e12 e13 e22 e23
      go_wp2_with fail
      go_region_held (fun w' => Below wr.heap.size wr w')
        (first
          | assumption
          | exact (Below.refl _ _).drew
          | exact ext (by assumption) hb)
        (first
          | (go_at_call 13; refine (answers_yes _).mono ?_; rintro e w' ⟨rfl, hb⟩)
          | (go_at_call 14; refine (rputNum_any q _ rfl HQ.out _).mono ?_; rintro e w' ⟨_, rfl, ho, hb⟩; obtain ⟨V, cv, rfl, _, _, _, hrz, _⟩ := ho.form; have htz := run_text w' cv rfl hrz; clear hrz ho)
          | (go_at_call 15; refine (rputBytes_any A n c _ l HN.out _ (lext HLB.out (by assumption)) (Nat.le_refl _) (by have := HN.out; omega)).mono ?_; rintro e w' ⟨_, rfl, ho, hb⟩; obtain ⟨V, cv, rfl, _, _, _, hrz, _⟩ := ho.form; have htz := run_text w' cv rfl hrz; clear hrz ho))
      have hwu : Below wr.heap.size wr w' := by assumption
      have hfk := HFR2.out.kept hwu (Nat.le_refl _)
      have HBU := Lib.hid (HBR.out.trans (hwu.mono HBR.out.size))
      have HLBu := Lib.hid (lext HLB.out hwu)
      obtain ⟨_, _, e1, hcf, -, -, hlf, -⟩ := hfk.form
      injection e1 with e11 _ e13
      subst e11 e13
      have HLF := Lib.hid hlf
      have HCF := Lib.hid hcf
      obtain ⟨wu, rfl⟩ : ∃ wu : World, wu = w' := ⟨_, rfl⟩
      obtain ⟨nf, hnf⟩ : ∃ nf, lf.length = nf := ⟨_, rfl⟩
      rw [hnf]
      have HNF := Lib.hid hnf.symm
      clear hwu hfk hcf hlf hnf HFR2 t1 t2 t3 t4 t5 he1 he2 hs1 hs2
      go_wp2_with fail
      refine (HUN.out F nf cf wu HNF.out (by have := HNF.out; have := HCF.out; omega) HLF.out).mono ?_
      rintro e wv ⟨_, rfl, ho, hb⟩
      obtain ⟨D, cd, rfl, -, -, -, -, -⟩ := ho.form
      obtain ⟨nd, hnd⟩ : ∃ nd, zl.length = nd := ⟨_, rfl⟩
      rw [hnd] at ho hzl ⊢
      have HND := Lib.hid hnd.symm
      have HO := Lib.hid ho
      have HB := Lib.hid hb
      clear hnd ho hb
      go_wp2
      go_loopw [16] (fun i w5 => ∃ (j : Nat) (lj : List UInt8), j ≤ nd ∧ i = .int .i64 (j : Int) ∧ nd = lj.length ∧ Own wu.heap.size w5 (.slice D nd cd) lj ∧ Below wu.heap.size wu w5) (fun i _ => nd - (intOf i).toNat)
      case atStart => exact ⟨0, _, by omega, rfl, HND.out, HO.out, HB.out⟩
      case round =>
        obtain ⟨j2, lj, hj2, rfl, hlj, hoj, hbj⟩ := hrel
        have HLJ2 := Lib.hid hlj
        have HOJ2 := Lib.hid hoj
        have HBJ2 := Lib.hid hbj
        clear hlj hoj hbj
        by_cases hjn2 : j2 < nd
        · obtain ⟨gd, rfl, hgd1, -, -⟩ := own_head HOJ2.out (by omega)
          have hc := own_cell HOJ2.out (show j2 < lj.length by have := HLJ2.out; omega)
          have hf := own_free HOJ2.out HLJ2.out j2
          obtain ⟨hs1, -⟩ := own_set HOJ2.out HLJ2.out j2 99
          have hs3 : nd = (lj.set j2 99).length := by rw [List.length_set]; exact HLJ2.out
          have HS1 := Lib.hid hs1
          have HS2 := Lib.hid (HBJ2.out.setCell (p := ⟨gd, j2, none⟩) hgd1 (bv 99))
          have HS3 := Lib.hid hs3
          clear hs1 hs3 hgd1
          go_wp2
          go_roundw
          case rel => exact ⟨j2 + 1, _, by omega, by go_num, HS3.out, HS1.out, HS2.out⟩
          case measure => simp [intOf]; omega
        · obtain rfl : j2 = nd := by omega
          have HLF2 := Lib.hid (lext HLF.out HBJ2.out)
          have HLB2 := Lib.hid (lext HLBu.out HBJ2.out)
          go_wp2_with fail
          refine (HUN.out F nf cf _ HNF.out (by have := HNF.out; have := HCF.out; omega) HLF2.out).mono ?_
          rintro e wy ⟨_, rfl, ho, hb⟩
          obtain ⟨D2, cd2, rfl, -, -, -, hld, -⟩ := ho.form
          rw [← HND.out]
          have t1 := run_text wy cd2 HND.out hld
          have t2 := run_text wy c HN.out (lext HLB2.out hb)
          have HBy := Lib.hid (ext B2.out (HBU.out.trans ((ext HBJ2.out hb).mono HBU.out.size)))
          clear ho hb hld
          rcases HFU.out with h | ⟨rfl, rfl, rfl⟩
          · have hgt : (65536 : Int) < (n : Int) := by have := HN.out; omega
            clear h
            go_wp2
            go_ret
            exact ⟨rfl, HBy.out⟩
          · have hgt : ¬ ((65536 : Int) < (n : Int)) := by have h1 := HN.out; have h2 := HND.out; omega
            go_wp2
            go_ret
            exact ⟨rfl, HBy.out⟩
end Go.Proofs.Ytinoljidephmlaa.Co
