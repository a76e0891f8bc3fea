/- The reference's Change, as a contract of a call. | The reference's Sync, Read, as contracts of calls; plain facts of Fall. -/
import Derived.Test.YtcfnfphnjkllcaaEF
/-! The reference's Change, as a contract of a call. -/
namespace Go.Proofs.Ytcfnfphnjkllcaa.Dk
open Go.RowKit Go.Maps By Mp

theorem chg_ok {s : DS} (h : s.Ok) {k : Nat} {nm d : Bs} {ofn : Nat} (hr : refusal s k nm (ofn : Int) d = 0) (hp : PreW ⟨k, nm, ofn, d⟩) : OkW ⟨k, nm, ofn, d⟩ := by
  refine ok_of_takes (F := s.files) (room := s.room) (up_all h.up) (fit_all h.fit h.un) h.room.2 hp ?_
  unfold refusal at hr
  unfold takesE
  rw [Int.toNat_natCast] at hr
  split at hr
  · cases hr
  · split at hr
    · cases hr
    · exact hr
theorem fsize_big {s : DS} (h : s.Ok) (hcnt : s.cnt ≤ 68719476736) : fsize s.files ≤ 288230376151711744 := by
  have h1 : fsize s.files ≤ s.files.length * 4194304 := fsize_le (fit_all h.fit h.un)
  have h2 := files_le h
  have h3 : s.files.length * 4194304 ≤ 68719476736 * 4194304 := Nat.mul_le_mul_right _ (Nat.le_trans h2 hcnt)
  omega
theorem fsize_doW {F : Fs} (hup : Up F) {x : W1} (hx : 1 ≤ x.kind ∧ x.kind ≤ 3) (ho : x.off ≤ 4194304) : fsize (doW F x) ≤ fsize F + x.data.length + 4194304 := by
  have h1 := size_doW hup hx
  have h2 : behind (flen F x.name) x ≤ flen F x.name + x.data.length + 4194304 := by
    unfold behind
    split
    · omega
    · split <;> omega
  omega
theorem rd_ne {w : World} {r : Nat} {s : DS} {T M : Nat → Prop} {v u : Value} (h : RDW w r s T M v u) : (∀ b, U8 w b → b ≠ r) ∧ (∀ b, v.ownBlock = some b → b ≠ r) ∧ (∀ b, u.ownBlock = some b → b ≠ r) := by
  refine ⟨?_, ?_, ?_⟩
  · rintro b ⟨cs, fr, hb⟩ e
    rw [e, h.row] at hb
    injection hb with hb
    injection hb with _ hb
    exact absurd hb (by decide)
  · intro b hb e
    obtain ⟨ac, _, h2, _⟩ := h.sure
    obtain ⟨cur, h3⟩ := ownsRow_type h2 hb
    rw [e, h.row] at h3
    injection h3 with h3
    injection h3 with _ h3
    exact absurd h3 (by decide)
  · intro b hb e
    obtain ⟨ac, _, h2, _⟩ := h.un
    obtain ⟨cur, h3⟩ := ownsRow_type h2 hb
    rw [e, h.row] at h3
    injection h3 with h3
    injection h3 with _ h3
    exact absurd h3 (by decide)
theorem rd_burnt {w w1 w2 : World} {r : Nat} {s : DS} {T M : Nat → Prop} {v u : Value} {val : Value} (h : RDW w r s T M v u) (hb1 : Below w.heap.size w w1) (hr2 : w2.heap[r]? = some (.cells (rdC v u s.room (burnt s).fuse (burnt s).down) tRD (0, 0))) (hk2 : Kept (fun b => b = r) w1 w2) : RDW w2 r (burnt s) T M v u ∧ RDStep val r (burnt s) T M w (.returned val) w2 := by
  obtain ⟨hne, hvne, hune⟩ := rd_ne h
  have hbk : ∀ b, b < w.heap.size → b ≠ r → w2.heap[b]? = w.heap[b]? := fun b h1 h2 => (hk2.block b (Nat.lt_of_lt_of_le h1 hb1.size) h2).trans (hb1.block b h1)
  obtain ⟨b1, b2, b3, b4⟩ := burnt_ok h.ok
  have hs : RfAt w2 0 (fun b => T b ∧ U8 w2 b) v (burnt s).sure := by
    rw [b1]
    exact h.sure.keep (fun b hb => hbk b (h.lt b (h.tv b hb)) (hvne b hb)) (fun b hb => hbk b (h.lt b hb.1) (hne b hb.2)) (fun b hb => ⟨hb.1, u8_keep hb.2 (hbk b (h.lt b hb.1) (hne b hb.2))⟩)
  have hu : WsAt w2 0 (fun b => T b ∧ U8 w2 b) u (burnt s).unsure := by
    rw [b2]
    exact h.un.keep (fun b hb => hbk b (h.lt b (h.mt b (h.mu b hb))) (hune b hb)) (fun b hb => hbk b (h.lt b hb.1) (hne b hb.2)) (fun b hb => ⟨hb.1, u8_keep hb.2 (hbk b (h.lt b hb.1) (hne b hb.2))⟩)
  have hz : w.heap.size ≤ w2.heap.size := Nat.le_trans hb1.size hk2.size
  have hrow : w2.heap[r]? = some (.cells (rdC v u (burnt s).room (burnt s).fuse (burnt s).down) tRD (0, 0)) := by rw [b3]; exact hr2
  have hw : RDW w2 r (burnt s) T M v u := ⟨hrow, hs, hu, h.mr, h.tv, h.mu, h.mt, fun b hb => Nat.lt_of_lt_of_le (h.lt b hb) hz, b4⟩
  exact ⟨hw, rfl, T, M, ⟨v, u, hw⟩, fun b hb => .inl hb, fun b hb => .inl hb, (Kept.of_below hb1).step hk2 (fun b _ e => e ▸ h.mr)⟩
set_option maxRecDepth 100000 in
set_option maxHeartbeats 4000000 in
theorem rchange_any (r : Nat) (s : DS) (T M : Nat → Prop) (k : Nat) (nm : Bs) (off : Int) (d : Bs) (A : Option Addr) (n c : Nat) (w : World) (h : RDAt w r s T M) (hcnt : s.cnt ≤ 68719476736) (hk : 1 ≤ k ∧ k ≤ 3) (hd0 : k ≠ 1 → d = []) (hdl : d.length ≤ 1099511627776) (hnl : nm.length ≤ 140737488355328) (hn : n = d.length) (hc : n ≤ c)
    (SD : Nat → Prop) (hSD : ∀ b, SD b → b ≠ r ∧ b < w.heap.size) (hd : LiesS w SD A d) :
    Calls Try.prog 35 #[.pointer (some ⟨r, 0, none⟩), wV k nm off A n c] w (RDStep (.int .i64 (chgE s k nm off d)) r (chgS s k nm off d) T M w) := by
  subst hn
  unfold wV
  obtain ⟨v, u, h⟩ := h
  have hlr := row_lt h.row
  obtain ⟨w0, hw0⟩ : ∃ w0, w0 = w.alloc (.cells #[.int .i64 (k : Nat), .string (str nm), .int .i64 off, .slice A d.length c] tWrite) := ⟨_, rfl⟩
  have hb0 : Below w.heap.size w w0 := by rw [hw0]; exact (Below.refl _ _).alloc (Nat.le_refl _) _
  have hz0 : w0.heap.size = w.heap.size + 1 := by rw [hw0]; simp
  have hxr : w0.heap[w.heap.size]? = some (.cells #[.int .i64 (k : Nat), .string (str nm), .int .i64 off, .slice A d.length c] tWrite (0, 0)) := by rw [hw0]; exact heap_alloc_new w _
  have HH := Lib.hid h
  have HB0 := Lib.hid hb0
  have HZ0 := Lib.hid hz0
  have HXR := Lib.hid hxr
  have HW0 := Lib.hid hw0
  have HC := Lib.hid hcnt
  have HS := Lib.hid hSD
  have HD := Lib.hid hd
  have HD0 := Lib.hid hd0
  have h4 : w0.cell? ⟨r, 4, none⟩ = some (.bool s.down) := by rw [cell_of_row w0 r 4 _ _ _ ((hb0.block r hlr).trans h.row)]; rfl
  have hx1 : w0.cell? ⟨w.heap.size, 1, none⟩ = some (.string (str nm)) := by rw [cell_of_row w0 _ 1 _ _ _ hxr]; rfl
  have hx2 : w0.cell? ⟨w.heap.size, 2, none⟩ = some (.int .i64 off) := by rw [cell_of_row w0 _ 2 _ _ _ hxr]; rfl
  have hx3 : w0.cell? ⟨w.heap.size, 3, none⟩ = some (.slice A d.length c) := by rw [cell_of_row w0 _ 3 _ _ _ hxr]; rfl
  have hx0 : w0.cell? ⟨w.heap.size, 0, none⟩ = some (.int .i64 (k : Nat)) := by rw [cell_of_row w0 _ 0 _ _ _ hxr]; rfl
  clear h hb0 hz0 hxr hcnt hSD hd hd0
  have HNM := Lib.hid (rnamed_any nm w0 (by omega))
  go_enter Try.func35, Try.ntmps35
  go_upto_region 1 with fail
  rw [← HW0.out]
  clear hw0 HW0
  cases hdown : s.down with
  | true =>
    rw [hdown] at h4
    have HR := Lib.hid (chg_refused (k := k) (nm := nm) (off := off) (d := d) (show refusal s k nm off d = 11 by unfold refusal; rw [if_pos hdown]) (by decide))
    clear hdown
    go_wp2
    go_ret
    rw [HR.out.1, HR.out.2]
    exact rdstep_same ⟨v, u, HH.out⟩ HB0.out
  | false =>
    rw [hdown] at h4
    have HDN := Lib.hid hdown
    clear hdown
    cases hnm : named nm with
    | false =>
      have HR := Lib.hid (chg_refused (k := k) (nm := nm) (off := off) (d := d) (show refusal s k nm off d = 1 by unfold refusal; rw [HDN.out, if_neg (by simp), if_pos (.inl hnm)]) (by decide))
      have HN := Lib.hid (hnm ▸ HNM.out)
      clear hnm HNM
      go_wp2_with (go_at_call 53; refine HN.out.mono ?_; rintro e w' ⟨rfl, rfl⟩)
      go_ret
      rw [HR.out.1, HR.out.2]
      exact rdstep_same ⟨v, u, HH.out⟩ HB0.out
    | true =>
      have HN := Lib.hid (hnm ▸ HNM.out)
      have HNT := Lib.hid hnm
      clear hnm HNM
      by_cases hlo : off < 0
      · have HR := Lib.hid (chg_refused (k := k) (nm := nm) (off := off) (d := d) (show refusal s k nm off d = 1 by unfold refusal; rw [HDN.out, if_neg (by simp), if_pos (.inr (.inl hlo))]) (by decide))
        have d1 : decide (off < 0) = true := decide_eq_true hlo
        go_wp2_with (go_at_call 53; refine HN.out.mono ?_; rintro e w' ⟨rfl, rfl⟩)
        go_ret
        rw [HR.out.1, HR.out.2]
        exact rdstep_same ⟨v, u, HH.out⟩ HB0.out
      · have d1 : decide (off < 0) = false := decide_eq_false hlo
        by_cases hhi : 4194304 < off
        · have HR := Lib.hid (chg_refused (k := k) (nm := nm) (off := off) (d := d) (show refusal s k nm off d = 1 by unfold refusal; rw [HDN.out, if_neg (by simp), if_pos (.inr (.inr hhi))]) (by decide))
          have d2 : decide (off > 4194304) = true := decide_eq_true hhi
          go_wp2_with (go_at_call 53; refine HN.out.mono ?_; rintro e w' ⟨rfl, rfl⟩)
          go_ret
          rw [HR.out.1, HR.out.2]
          exact rdstep_same ⟨v, u, HH.out⟩ HB0.out
        · have d2 : decide (off > 4194304) = false := decide_eq_false hhi
          obtain ⟨ofn, rfl⟩ : ∃ ofn : Nat, off = (ofn : Int) := ⟨off.toNat, by omega⟩
          have hofn : ofn ≤ 4194304 := by omega
          have hnm32 : nm.length ≤ 32 := by
            have := HNT.out
            rw [named_eq, Bool.and_eq_true, Bool.and_eq_true, decide_eq_true_eq, decide_eq_true_eq] at this
            exact this.1.2
          have HPRE := Lib.hid (show PreW ⟨k, nm, ofn, d⟩ from ⟨hk.1, hk.2, hofn, by show d.length ≤ _; omega, hnm32, HD0.out⟩)
          have hfl := rfiles_any r s v u T _ w0 ((HB0.out.block r hlr).trans HH.out.row) rfl rfl (HH.out.sure.keep (S' := T) (fun b hb => HB0.out.block b (HH.out.lt b (HH.out.tv b hb))) (fun b hb => HB0.out.block b (HH.out.lt b hb.1)) (fun _ h => h.1)) (HH.out.un.keep (S' := T) (fun b hb => HB0.out.block b (HH.out.lt b (HH.out.mt b (HH.out.mu b hb)))) (fun b hb => HB0.out.block b (HH.out.lt b hb.1)) (fun _ h => h.1)) (fun b hb => Nat.lt_of_lt_of_le (HH.out.lt b hb) HB0.out.size) HH.out.ok HC.out
          have HFL := Lib.hid hfl
          clear hfl
          go_wp2_with (first | (go_at_call 53; refine HN.out.mono ?_; rintro e w' ⟨rfl, rfl⟩) | fail)
          refine HFL.out.mono ?_
          rintro e w1 ⟨v1, rfl, ho1, hb1⟩
          have hxr1 := (hb1.block _ (row_lt HXR.out)).trans HXR.out
          have HO1 := Lib.hid ho1
          have HB1 := Lib.hid hb1
          have HX1 := Lib.hid hxr1
          have hy1 : w1.cell? ⟨w.heap.size, 1, none⟩ = some (.string (str nm)) := by rw [cell_of_row w1 _ 1 _ _ _ hxr1]; rfl
          have hy0 : w1.cell? ⟨w.heap.size, 0, none⟩ = some (.int .i64 (k : Nat)) := by rw [cell_of_row w1 _ 0 _ _ _ hxr1]; rfl
          have HUP := Lib.hid (show Up s.files from up_all HH.out.ok.up)
          obtain ⟨i, hi⟩ : ∃ i, fidx s.files nm = i := ⟨_, rfl⟩
          obtain ⟨th, ht⟩ : ∃ th, fthere s.files nm = th := ⟨_, rfl⟩
          have hfi := find_any v1 w0.heap.size _ s.files nm w1 HO1.out HUP.out
          rw [hi, ht] at hfi
          have HFI := Lib.hid hfi
          have HTH := Lib.hid ht
          clear hfi hi ht ho1 hb1 hxr1 HFL HN hx0 hx1 hx2 hx3 h4 hy0
          go_wp2_with fail
          refine HFI.out.mono ?_
          rintro e w2 ⟨rfl, hb2⟩
          have hx2r := (hb2.block _ (row_lt HX1.out)).trans HX1.out
          have HX2 := Lib.hid hx2r
          have HB02 := Lib.hid (By.ext HB1.out hb2)
          have HO2 := Lib.hid (HO1.out.keep (fun b hb => hb2.block b (rf_own_lt HO1.out hb).2) (fun b hb => hb2.block b hb.2.1) (fun b hb => hb))
          have HL2 := Lib.hid (fun b (hb : New8 w0 w1 b) => Nat.lt_of_lt_of_le hb.2.1 hb2.size)
          have HV2 := Lib.hid (fun b hb => Nat.lt_of_lt_of_le (rf_own_lt HO1.out hb (b := b)).2 hb2.size)
          have hy0 : w2.cell? ⟨w.heap.size, 0, none⟩ = some (.int .i64 (k : Nat)) := by rw [cell_of_row w2 _ 0 _ _ _ hx2r]; rfl
          have hy2 : w2.cell? ⟨w.heap.size, 2, none⟩ = some (.int .i64 (ofn : Int)) := by rw [cell_of_row w2 _ 2 _ _ _ hx2r]; rfl
          have hy3 : w2.cell? ⟨w.heap.size, 3, none⟩ = some (.slice A d.length c) := by rw [cell_of_row w2 _ 3 _ _ _ hx2r]; rfl
          have hy1 : w2.cell? ⟨w.heap.size, 1, none⟩ = some (.string (str nm)) := by rw [cell_of_row w2 _ 1 _ _ _ hx2r]; rfl
          obtain ⟨A1, c1, rfl, _⟩ := HO1.out.form
          have hFl : s.files.length ≤ 68719476736 := Nat.le_trans (files_le HH.out.ok) HC.out
          clear hb2 hx2r HFI
          obtain ⟨b1, hb1⟩ : ∃ b1, decide (th = false ∧ k ≠ 3 ∧ 4096 ≤ s.files.length) = b1 := ⟨_, rfl⟩
          have HBAD := Lib.hid hb1
          clear hb1
          go_upto_region 7 with fail
          go_cut [47] (fun cc wx => cc = .bool b1 ∧ wx = w2)
          case first =>
            cases th with
            | true =>
              go_wp2
              go_meet
              rw [← HBAD.out]
              exact ⟨rfl, rfl⟩
            | false =>
              by_cases h3 : k = 3
              · have h3' : ((k : Int) != 3) = false := by simpa using (show (k : Int) = 3 by omega)
                have H3 := Lib.hid h3
                clear h3
                go_wp2
                go_meet
                rw [← HBAD.out]
                exact ⟨congrArg Value.bool (decide_eq_false (fun e => e.2.1 H3.out)).symm, rfl⟩
              · have h3' : ((k : Int) != 3) = true := by simpa using (show ¬ (k : Int) = 3 by omega)
                by_cases hf : 4096 ≤ s.files.length
                · have d5 : decide ((s.files.length : Int) ≥ 4096) = true := decide_eq_true (by omega)
                  go_wp2
                  go_meet
                  rw [← HBAD.out]
                  exact ⟨congrArg Value.bool (by simp [h3, hf]), rfl⟩
                · have d5 : decide ((s.files.length : Int) ≥ 4096) = false := decide_eq_false (by omega)
                  go_wp2
                  go_meet
                  rw [← HBAD.out]
                  exact ⟨congrArg Value.bool (decide_eq_false (fun e => hf e.2.2)).symm, rfl⟩
          obtain ⟨rfl, rfl⟩ := hcut
          cases b1 with
          | true =>
            have hbad := of_decide_eq_true HBAD.out
            have HR := Lib.hid (chg_refused (k := k) (nm := nm) (off := (ofn : Int)) (d := d) (show refusal s k nm (ofn : Int) d = 7 by unfold refusal; rw [HDN.out, if_neg (by simp), if_neg (by rw [HNT.out]; simp; omega), if_pos (by rw [HTH.out]; exact hbad)]) (by decide))
            clear hbad
            go_wp2
            go_ret
            rw [HR.out.1, HR.out.2]
            exact rdstep_same ⟨v, u, HH.out⟩ (By.ext HB0.out HB02.out)
          | false =>
            have hbad := of_decide_eq_false HBAD.out
            have hli : Lies wc wc.heap.size A d := (HD.out.lies (fun b hb => (HS.out b hb).2)).below (By.ext HB0.out HB02.out) |>.more (Nat.le_trans HB0.out.size HB02.out.size)
            have hdo := do_any _ w0.heap.size (New8 w0 w1) s.files k nm ofn d A c wc.heap.size wc HO2.out HL2.out HV2.out hFl HUP.out (fun p hp => Nat.le_trans (fit_all HH.out.ok.fit HH.out.ok.un p hp).1 (by decide)) hk hofn hdl hli (Nat.le_refl _)
            unfold wV at hdo
            have HDO := Lib.hid hdo
            have HNB := Lib.hid hbad
            clear hdo hbad hli
            go_wp2_with fail
            refine HDO.out.mono ?_
            rintro e w3 ⟨v3, rfl, ho3, hb3⟩
            obtain ⟨A3, c3, rfl, _⟩ := ho3.form
            have HX3 := Lib.hid ((hb3.block _ (row_lt HX2.out)).trans HX2.out)
            have HB3 := Lib.hid (By.ext (By.ext HB0.out HB02.out) hb3)
            have hsz := fsize_big HH.out.ok HC.out
            have hsw := fsize_doW HUP.out (x := ⟨k, nm, ofn, d⟩) hk hofn
            obtain ⟨G, hG⟩ : ∃ G, doW s.files ⟨k, nm, ofn, d⟩ = G := ⟨_, rfl⟩
            rw [hG] at ho3 hsw ⊢
            have HG := Lib.hid hG
            clear hG
            have hsz2 : fsize G ≤ 9223372036854775807 := by
              have : (⟨k, nm, ofn, d⟩ : W1).data.length = d.length := rfl
              omega
            have HSG := Lib.hid (size_any _ wc.heap.size (New8 wc w3) G w3 ho3 hsz2)
            have HSF := Lib.hid (size_any _ w0.heap.size (New8 w0 w1) s.files w3 (HO2.out.keep (fun b hb => hb3.block b (HV2.out b hb)) (fun b hb => hb3.block b (HL2.out b hb)) (fun _ h => h)) (by omega))
            have hrow3 := (HB3.out.block r hlr).trans HH.out.row
            have hr3 : w3.cell? ⟨r, 2, none⟩ = some (.int .i64 s.room) := by rw [cell_of_row w3 r 2 _ _ _ hrow3]; rfl
            have HR3 := Lib.hid hrow3
            obtain ⟨fg, hfg⟩ : ∃ fg, fsize G = fg := ⟨_, rfl⟩
            obtain ⟨ff, hff⟩ : ∃ ff, fsize s.files = ff := ⟨_, rfl⟩
            rw [hfg] at HSG hsz2
            rw [hff] at HSF hsz
            obtain ⟨b2, hb2⟩ : ∃ b2, decide (ff < fg ∧ s.room < (fg : Int)) = b2 := ⟨_, rfl⟩
            have HB2 := Lib.hid hb2
            have HFG := Lib.hid hfg
            have HFF := Lib.hid hff
            clear hb2 hrow3 ho3 hb3 hsw HDO hy0 hy1 hy2 hy3 hfg hff
            go_upto_region 10 with (first | (go_at_call 30; refine HSG.out.mono ?_; rintro e w' ⟨rfl, rfl⟩) | fail)
            clear HSG
            go_cut [63] (fun cc wx => cc = .bool b2 ∧ wx = w3)
            case first =>
              by_cases h1 : ff < fg
              · have d1 : decide ((fg : Int) > (ff : Int)) = true := decide_eq_true (by omega)
                by_cases h2 : s.room < (fg : Int)
                · have d2 : decide ((fg : Int) > s.room) = true := decide_eq_true h2
                  have HE := Lib.hid (show decide (ff < fg ∧ s.room < (fg : Int)) = true from decide_eq_true ⟨h1, h2⟩)
                  have d1n : decide (ff < fg) = true := decide_eq_true h1
                  go_wp2_with (go_at_call 30; refine HSF.out.mono ?_; rintro e w' ⟨rfl, rfl⟩)
                  go_meet
                  rw [← HB2.out, HE.out]
                  exact ⟨rfl, rfl⟩
                · have d2 : decide ((fg : Int) > s.room) = false := decide_eq_false h2
                  have HE := Lib.hid (show decide (ff < fg ∧ s.room < (fg : Int)) = false from decide_eq_false (fun e => h2 e.2))
                  have d1n : decide (ff < fg) = true := decide_eq_true h1
                  go_wp2_with (go_at_call 30; refine HSF.out.mono ?_; rintro e w' ⟨rfl, rfl⟩)
                  go_meet
                  rw [← HB2.out, HE.out]
                  exact ⟨rfl, rfl⟩
              · have d1 : decide ((fg : Int) > (ff : Int)) = false := decide_eq_false (by omega)
                have HE := Lib.hid (show decide (ff < fg ∧ s.room < (fg : Int)) = false from decide_eq_false (fun e => h1 e.1))
                have d1n : decide (ff < fg) = false := decide_eq_false h1
                go_wp2_with (go_at_call 30; refine HSF.out.mono ?_; rintro e w' ⟨rfl, rfl⟩)
                go_meet
                rw [← HB2.out, HE.out]
                exact ⟨rfl, rfl⟩
            obtain ⟨rfl, hw3⟩ := hcut
            subst hw3
            clear HSF
            have hr0 : refusal s k nm (ofn : Int) d = if b2 = true then 10 else 0 := by
              unfold refusal
              rw [HDN.out, if_neg (by simp), if_neg (by rw [HNT.out]; simp; omega), if_neg (by rw [HTH.out]; exact HNB.out), Int.toNat_natCast, HG.out, HFG.out, HFF.out, ← HB2.out]
              simp
            have HR0 := Lib.hid hr0
            clear hr0
            cases b2 with
            | true =>
              have HR := Lib.hid (chg_refused (k := k) (nm := nm) (off := (ofn : Int)) (d := d) (HR0.out.trans (if_pos rfl)) (by decide))
              go_wp2
              go_ret
              rw [HR.out.1, HR.out.2]
              exact rdstep_same ⟨v, u, HH.out⟩ HB3.out
            | false =>
              have HRF := Lib.hid (HR0.out.trans (if_neg (by simp)) : refusal s k nm (ofn : Int) d = 0)
              have HBN := Lib.hid (rburns_any r v u s.room s.fuse s.down wc HR3.out HH.out.ok.fuse.1 HH.out.ok.fuse.2)
              by_cases hfu : s.fuse = 1
              · have HE := Lib.hid (chg_burnt (d := d) HRF.out hfu)
                have HFU := Lib.hid hfu
                clear hfu hr3
                go_wp2_with fail
                refine HBN.out.mono ?_
                rintro e w4 ⟨rfl, hr4, hk4, hz4⟩
                rw [(rburnt s).1, (rburnt s).2.1] at hr4
                rw [if_pos HFU.out]
                have HST := Lib.hid (rd_burnt (val := .int .i64 11) HH.out HB3.out hr4 hk4).2
                clear hr4 hk4 hz4 HBN
                go_wp2
                go_ret
                rw [HE.out.1, HE.out.2]
                exact HST.out
              · have HE := Lib.hid (chg_done (d := d) HRF.out hfu)
                have HFU := Lib.hid hfu
                clear hfu hr3
                go_wp2_with fail
                refine HBN.out.mono ?_
                rintro e w4 ⟨rfl, hr4, hk4, hz4⟩
                rw [(rburnt s).1, (rburnt s).2.1] at hr4
                rw [if_neg HFU.out, HDN.out]
                have HD4 := Lib.hid (rd_burnt (val := .int .i64 11) HH.out HB3.out hr4 hk4).1
                have HK4 := Lib.hid (show Kept M w w4 from (Kept.of_below HB3.out).step hk4 (fun b _ e => e ▸ HH.out.mr))
                have hx4 := (hk4.block _ (row_lt HX3.out) (by omega)).trans HX3.out
                have HX4 := Lib.hid hx4
                have HLI := Lib.hid (show Lies w4 w4.heap.size A d from (HD.out.keep (S' := SD) (fun b hb => (hk4.block b (Nat.lt_of_lt_of_le (HS.out b hb).2 HB3.out.size) (HS.out b hb).1).trans (HB3.out.block b (HS.out b hb).2)) (fun _ h => h)).lies (fun b hb => by have := (HS.out b hb).2; have := HK4.out.size; omega))
                have hx3 : (w4.alloc (.cells #[] 5)).cell? ⟨w.heap.size, 3, none⟩ = some (.slice A d.length c) := (World.cell?_alloc_lt w4 _ _ (row_lt hx4)).trans (by rw [cell_of_row w4 _ 3 _ _ _ hx4]; rfl)
                clear hr4 hk4 hz4 HBN hx4
                go_upto_region 15 with (at_builtin; refine wpList_app rfl (.tmp 66) (.tmp 68) rfl rfl (Own.made w4 w4.heap.size #[] 0 (Nat.le_refl _) (by decide) rfl) rfl rfl (HLI.out.alloc (Nat.le_refl _) _) (by simp; omega) (by simp) ?_; intro v5 w5 ho5 hb5 hg5
                                        simp only [List.nil_append] at ho5
                                        have hb45 : Below w4.heap.size w4 w5 := ((Below.refl _ _).alloc (Nat.le_refl _) _).trans hb5
                                        have hx5 := (hb45.block _ (row_lt HX4.out)).trans HX4.out
                                        have hy3 : w5.cell? ⟨w.heap.size, 3, none⟩ = some (.slice A d.length c) := by rw [cell_of_row w5 _ 3 _ _ _ hx5]; rfl
                                        have hyf : w5.frozen? ⟨w.heap.size, 3, none⟩ = false := frozen_of_row w5 _ 3 _ _ hx5
                                        obtain ⟨A5, c5, rfl, hc5, _, _, _, _⟩ := ho5.form
                                        have HGX5 := Lib.hid hx5
                                        have HB5 := Lib.hid hb45
                                        have HD5 := Lib.hid (lies8 ho5)
                                        have HC5 := Lib.hid hc5
                                        clear hx5 hb45 ho5 hb5 hg5 hc5)
                have HOX := Lib.hid (chg_ok HH.out.ok HRF.out HPRE.out)
                have hbx6 := heap_setCell_same w5 w.heap.size 3 _ _ (.slice A5 d.length c5) HGX5.out
                have HGX6 := Lib.hid (show (w5.setCell ⟨w.heap.size, 3, none⟩ (.slice A5 d.length c5)).heap[w.heap.size]? = some (.cells #[.int .i64 (k : Nat), .string (str nm), .int .i64 (ofn : Int), .slice A5 d.length c5] tWrite (0, 0)) from hbx6)
                have ho6 : ∀ b, b ≠ w.heap.size → (w5.setCell ⟨w.heap.size, 3, none⟩ (.slice A5 d.length c5)).heap[b]? = w5.heap[b]? := fun b hb => heap_setCell_other w5 ⟨w.heap.size, 3, none⟩ b _ hb
                have HD6 := Lib.hid (show RDW (w5.setCell ⟨w.heap.size, 3, none⟩ (.slice A5 d.length c5)) r (burnt s) T M v u from HD4.out.keep (fun b hb => (ho6 b (Nat.ne_of_lt (HH.out.lt b hb))).trans (HB5.out.block b (HD4.out.lt b hb))) (by rw [size_setCell']; exact HB5.out.size))
                have HK6 := Lib.hid (show Kept M w (w5.setCell ⟨w.heap.size, 3, none⟩ (.slice A5 d.length c5)) from (HK4.out.trans (Kept.of_below HB5.out)).setCell (p := ⟨w.heap.size, 3, none⟩) (fun h => absurd h (Nat.lt_irrefl _)) _)
                have HL6 := Lib.hid (show LiesS (w5.setCell ⟨w.heap.size, 3, none⟩ (.slice A5 d.length c5)) (fun b => w.heap.size ≤ b ∧ U8 (w5.setCell ⟨w.heap.size, 3, none⟩ (.slice A5 d.length c5)) b ∧ b < w5.heap.size) A5 d from HD5.out.keep (fun b hb => ho6 b (by have h1 := hb.1; have h2 := row_lt HX4.out; omega)) (fun b hb => by
                  have h1 := hb.1
                  have h2 := row_lt HX4.out
                  exact ⟨by omega, u8_keep hb.2.2 (ho6 b (by omega)), hb.2.1⟩))
                have hz6 : (w5.setCell ⟨w.heap.size, 3, none⟩ (.slice A5 d.length c5)).heap.size = w5.heap.size := size_setCell' _ _ _
                have HZ6 := Lib.hid hz6
                clear hbx6 ho6 hz6 hy3 hyf hx3
                generalize w5.setCell ⟨w.heap.size, 3, none⟩ (.slice A5 d.length c5) = w6 at *
                have hm0 : w6.cell? ⟨w.heap.size, 0, none⟩ = some (.int .i64 (k : Nat)) := by rw [cell_of_row w6 _ 0 _ _ _ HGX6.out]; rfl
                have hm1 : w6.cell? ⟨w.heap.size, 1, none⟩ = some (.string (str nm)) := by rw [cell_of_row w6 _ 1 _ _ _ HGX6.out]; rfl
                have hm2 : w6.cell? ⟨w.heap.size, 2, none⟩ = some (.int .i64 (ofn : Int)) := by rw [cell_of_row w6 _ 2 _ _ _ HGX6.out]; rfl
                have hm3 : w6.cell? ⟨w.heap.size, 3, none⟩ = some (.slice A5 d.length c5) := by rw [cell_of_row w6 _ 3 _ _ _ HGX6.out]; rfl
                have hm4 : w6.cell? ⟨r, 1, none⟩ = some u := by rw [cell_of_row w6 r 1 _ _ _ HD6.out.row]; rfl
                have hlx : w.heap.size < w6.heap.size := row_lt HGX6.out
                have hlg6 : r < w6.heap.size := row_lt HD6.out.row
                obtain ⟨hne8, hvne, hune⟩ := rd_ne HD6.out
                have HNE := Lib.hid hne8
                have HVNE := Lib.hid hvne
                have HUNE := Lib.hid hune
                obtain ⟨ac, hac, how, hda⟩ := HD6.out.un
                rw [(burnt_ok HH.out.ok).2.1] at hac how hda
                have HAC := Lib.hid hac
                have HOW := Lib.hid how
                have HDA := Lib.hid hda
                have HNN := Lib.hid (show s.unsure.length ≤ 68719476736 from Nat.le_trans (Nat.le_add_left _ _) HC.out)
                clear hac how hda hne8 hvne hune
                have HNC := Lib.hid (show ∀ j u, (wCells ⟨k, nm, ofn, d⟩ (A5, c5))[j]? = some u → (w6.alloc (.cells (wCells ⟨k, nm, ofn, d⟩ (A5, c5)).toArray tWrite)).drew.cell? ((⟨w6.heap.size, 0, none⟩ : Addr).add j) = some u by
                  intro j u hu
                  rw [plainAdd, Nat.zero_add]
                  refine Eq.trans (cell_of_row (w6.alloc (.cells (wCells ⟨k, nm, ofn, d⟩ (A5, c5)).toArray tWrite)) _ j _ _ _ (heap_alloc_new w6 _)) ?_
                  simpa using hu)
                have HN1 := Lib.hid (show ∀ u ∈ wCells ⟨k, nm, ofn, d⟩ (A5, c5), u.oneCell' = true by
                  intro u hu
                  simp only [wCells, List.mem_cons, List.not_mem_nil, or_false] at hu
                  rcases hu with rfl | rfl | rfl | rfl <;> rfl)
                have HOW6 := Lib.hid (show (w6.alloc (.cells (wCells ⟨k, nm, ofn, d⟩ (A5, c5)).toArray tWrite)).drew.ownsRow 0 tWrite 4 u s.unsure.length (wRow s.unsure ac) from HOW.out.alloc _)
                have HRA := Lib.hid (show (w6.alloc (.cells (wCells ⟨k, nm, ofn, d⟩ (A5, c5)).toArray tWrite)).drew.heap[r]? = _ from (heap_alloc_old w6 _ hlg6).trans HD6.out.row)
                have HOA := Lib.hid (show ∀ b, b < w6.heap.size → (w6.alloc (.cells (wCells ⟨k, nm, ofn, d⟩ (A5, c5)).toArray tWrite)).drew.heap[b]? = w6.heap[b]? from fun b hb => heap_alloc_old w6 _ hb)
                have HKA := Lib.hid (show Kept M w (w6.alloc (.cells (wCells ⟨k, nm, ofn, d⟩ (A5, c5)).toArray tWrite)).drew from (HK6.out.alloc _).drew)
                go_region_law (refine step_appW rfl (.tmp 75) (.tmp 77) rfl 0 u s.unsure.length (wRow s.unsure ac) rfl HOW6.out ⟨w6.heap.size, 0, none⟩ rfl (wCells ⟨k, nm, ofn, d⟩ (A5, c5)) rfl HNC.out HN1.out HNN.out (Nat.zero_le _) ?_; intro v7 w7 ho7 hg7 hv7
                               obtain ⟨A7, c7, rfl⟩ := ownsRow_form ho7
                               have hr7 := (hg7.block r (row_lt HRA.out) (fun e => HUNE.out r e.symm rfl)).trans HRA.out
                               have hc7 : w7.cell? ⟨r, 1, none⟩ = some u := by rw [cell_of_row w7 r 1 _ _ _ hr7]; rfl
                               have hf7 : w7.frozen? ⟨r, 1, none⟩ = false := frozen_of_row w7 r 1 _ _ hr7
                               have HO7 := Lib.hid ho7
                               have HG7 := Lib.hid (show (w6.alloc (.cells (wCells ⟨k, nm, ofn, d⟩ (A5, c5)).toArray tWrite)).drew.grownBy w7 u.ownBlock from hg7)
                               have HV7 := Lib.hid (show ∀ b, (Value.slice A7 (s.unsure.length + 1) c7).ownBlock = some b → u.ownBlock = some b ∨ (w6.alloc (.cells (wCells ⟨k, nm, ofn, d⟩ (A5, c5)).toArray tWrite)).drew.heap.size ≤ b from hv7)
                               have HR7 := Lib.hid hr7
                               clear ho7 hg7 hv7 hr7)
                all_goals
                  go_wp2
                  go_ret
                  rw [HE.out.1, HE.out.2, Int.toNat_natCast]
                  have hz7 := HG7.out.size
                  have hza : (w6.alloc (.cells (wCells ⟨k, nm, ofn, d⟩ (A5, c5)).toArray tWrite)).drew.heap.size = w6.heap.size + 1 := by show (w6.alloc _).heap.size = _; simp
                  rw [hza] at hz7
                  have h67 : ∀ b, b < w6.heap.size → b ≠ r → u.ownBlock ≠ some b → (w7.setCell ⟨r, 1, none⟩ (.slice A7 (s.unsure.length + 1) c7)).heap[b]? = w6.heap[b]? := fun b hb hbg hbv => (heap_setCell_other w7 ⟨r, 1, none⟩ b _ hbg).trans ((HG7.out.block b (by rw [hza]; omega) (fun e => hbv e.symm)).trans (HOA.out b hb))
                  have hv8 : ∀ b, U8 w6 b → u.ownBlock ≠ some b := fun b hb e => u8_ne HOW.out hb e.symm
                  have hvv : ∀ b, v.ownBlock = some b → u.ownBlock ≠ some b := fun b hb e => by
                    obtain ⟨ac2, _, h2, _⟩ := HD6.out.sure
                    obtain ⟨cur, h3⟩ := ownsRow_type h2 hb
                    obtain ⟨cur2, h4⟩ := ownsRow_type HOW.out e
                    rw [h3] at h4
                    injection h4 with h4
                    injection h4 with _ h4
                    exact tWrite_neF h4.symm
                  have hub : ∀ b, (Value.slice A7 (s.unsure.length + 1) c7).ownBlock = some b → u.ownBlock = some b ∨ w6.heap.size + 1 ≤ b := fun b hb => by have := HV7.out b hb; rwa [hza] at this
                  obtain ⟨b1, b2, b3, b4⟩ := burnt_ok HH.out.ok
                  refine rd_done HH.out ⟨b4.up, b4.fit, fun x hx => ?_, b4.room, b4.fuse⟩ (heap_setCell_same w7 r 1 _ _ _ HR7.out) ?_ (fun b hb => .inl (HH.out.tv b hb)) ?_ ?_ ?_
                  · rcases List.mem_append.1 hx with hx | hx
                    · exact HH.out.ok.un x hx
                    · rw [List.mem_singleton.1 hx]; exact HOX.out
                  · exact HD6.out.sure.keep (fun b hb => h67 b (HD6.out.lt b (HD6.out.tv b hb)) (HVNE.out b hb) (hvv b hb)) (fun b hb => h67 b (HD6.out.lt b hb.1) (HNE.out b hb.2) (hv8 b hb.2)) (fun b hb => ⟨.inl hb.1, u8_keep hb.2 (h67 b (HD6.out.lt b hb.1) (HNE.out b hb.2) (hv8 b hb.2))⟩)
                  · refine WsAt.snoc (S := fun b => T b ∧ U8 w6 b) ?_ ?_ HAC.out HDA.out (ownsRow_keep HO7.out (fun b hb => heap_setCell_other w7 ⟨r, 1, none⟩ b _ ?_)) HC5.out (HL6.out.keep (fun b hb => h67 b ?_ (HNE.out b hb.2.1) (hv8 b hb.2.1)) (fun b hb => ⟨.inr hb.1, u8_keep hb.2.1 (h67 b ?_ (HNE.out b hb.2.1) (hv8 b hb.2.1))⟩))
                    · intro b hb
                      exact h67 b (HD6.out.lt b hb.1) (HNE.out b hb.2) (hv8 b hb.2)
                    · intro b hb
                      exact ⟨.inl hb.1, u8_keep hb.2 (h67 b (HD6.out.lt b hb.1) (HNE.out b hb.2) (hv8 b hb.2))⟩
                    · show b ≠ r
                      rintro rfl
                      rcases hub b hb with h | h
                      · exact HUNE.out b h rfl
                      · omega
                    · have := HZ6.out
                      have := hb.2.2
                      omega
                    · have := HZ6.out
                      have := hb.2.2
                      omega
                  · intro b hb
                    rcases hub b hb with h | h
                    · exact .inl (HH.out.mu b h)
                    · exact .inr (by omega)
                  · exact ((HKA.out).step (Kept.of_grown (M := fun b => u.ownBlock = some b) HG7.out (fun b e _ => e)) (fun b _ e => HH.out.mu b e)).setCell (p := ⟨r, 1, none⟩) (fun _ => HH.out.mr) _
end Go.Proofs.Ytcfnfphnjkllcaa.Dk

/-! The reference's Sync, Read, as contracts of calls; plain facts of Fall. -/
namespace Go.Proofs.Ytcfnfphnjkllcaa.Dk
open Go.RowKit Go.Maps By Mp

theorem synced_ok {s : DS} (h : s.Ok) : ({ burnt s with sure := s.files, unsure := [] } : DS).Ok := by
  obtain ⟨_, _, _, hb⟩ := burnt_ok h
  exact ⟨up_all h.up, fit_all h.fit h.un, fun x hx => (by cases hx), hb.room, hb.fuse⟩
set_option maxRecDepth 100000 in
set_option maxHeartbeats 4000000 in
theorem rsync_any (r : Nat) (s : DS) (T M : Nat → Prop) (w : World) (h : RDAt w r s T M) (hcnt : s.cnt ≤ 68719476736) :
    Calls Try.prog 25 #[.pointer (some ⟨r, 0, none⟩)] w (RDStep (.int .i64 (synE s)) r (synS s) T M w) := by
  obtain ⟨v, u, h⟩ := h
  have h4 : w.cell? ⟨r, 4, none⟩ = some (.bool s.down) := by rw [cell_of_row w r 4 _ _ _ h.row]; rfl
  have HH := Lib.hid h
  have HC := Lib.hid hcnt
  have HBU := Lib.hid (rburns_any r v u s.room s.fuse s.down w h.row h.ok.fuse.1 h.ok.fuse.2)
  clear h hcnt
  go_enter Try.func25, Try.ntmps25
  cases hdown : s.down with
  | true =>
    rw [hdown] at h4
    have HR := Lib.hid (show synE s = 11 ∧ synS s = s by unfold synE synS; rw [hdown]; simp)
    clear hdown
    go_wp2
    go_ret
    rw [HR.out.1, HR.out.2]
    exact rdstep_same ⟨v, u, HH.out⟩ (Below.refl _ _)
  | false =>
    rw [hdown] at h4
    have HDN := Lib.hid hdown
    clear hdown
    by_cases hfu : s.fuse = 1
    · have HR := Lib.hid (show synE s = 11 ∧ synS s = burnt s by unfold synE synS burns; rw [HDN.out]; simp [hfu])
      have HFU := Lib.hid hfu
      clear hfu
      go_wp2_with fail
      refine HBU.out.mono ?_
      rintro e w2 ⟨rfl, hr2, hk2, hz2⟩
      rw [(rburnt s).1, (rburnt s).2.1] at hr2
      rw [if_pos HFU.out]
      have HR2 := Lib.hid hr2
      have HK2 := Lib.hid hk2
      clear hr2 hk2 hz2 HBU h4
      go_wp2
      go_ret
      rw [HR.out.1, HR.out.2]
      have hne : ∀ b, U8 w b → b ≠ r := by
        rintro b ⟨cs, fr, hb⟩ e
        rw [e, HH.out.row] at hb
        injection hb with hb
        injection hb with _ hb
        exact absurd hb (by decide)
      have hbk : ∀ b, b < w.heap.size → b ≠ r → w2.heap[b]? = w.heap[b]? := fun b h1 h2 => HK2.out.block b h1 h2
      have hvne : ∀ b, v.ownBlock = some b → b ≠ r := fun b hb e => by
        obtain ⟨ac, _, h2, _⟩ := HH.out.sure
        obtain ⟨cur, h3⟩ := ownsRow_type h2 hb
        rw [e, HH.out.row] at h3
        injection h3 with h3
        injection h3 with _ h3
        exact absurd h3 (by decide)
      have hune : ∀ b, u.ownBlock = some b → b ≠ r := fun b hb e => by
        obtain ⟨ac, _, h2, _⟩ := HH.out.un
        obtain ⟨cur, h3⟩ := ownsRow_type h2 hb
        rw [e, HH.out.row] at h3
        injection h3 with h3
        injection h3 with _ h3
        exact absurd h3 (by decide)
      obtain ⟨b1, b2, b3, b4⟩ := burnt_ok HH.out.ok
      refine rd_done HH.out b4 (by rw [b3]; exact HR2.out) ?_ (fun b hb => .inl (HH.out.tv b hb)) ?_ (fun b hb => .inl (HH.out.mu b hb)) (HK2.out.mono (fun b _ e => e ▸ HH.out.mr))
      · rw [b1]
        exact HH.out.sure.keep (fun b hb => hbk b (HH.out.lt b (HH.out.tv b hb)) (hvne b hb)) (fun b hb => hbk b (HH.out.lt b hb.1) (hne b hb.2)) (fun b hb => ⟨.inl hb.1, u8_keep hb.2 (hbk b (HH.out.lt b hb.1) (hne b hb.2))⟩)
      · rw [b2]
        exact HH.out.un.keep (fun b hb => hbk b (HH.out.lt b (HH.out.mt b (HH.out.mu b hb))) (hune b hb)) (fun b hb => hbk b (HH.out.lt b hb.1) (hne b hb.2)) (fun b hb => ⟨.inl hb.1, u8_keep hb.2 (hbk b (HH.out.lt b hb.1) (hne b hb.2))⟩)
    · have HR := Lib.hid (show synE s = 0 ∧ synS s = { burnt s with sure := s.files, unsure := [] } by unfold synE synS burns; rw [HDN.out]; simp [hfu])
      have HFU := Lib.hid hfu
      clear hfu
      go_wp2_with fail
      refine HBU.out.mono ?_
      rintro e w2 ⟨rfl, hr2, hk2, hz2⟩
      rw [(rburnt s).1, (rburnt s).2.1] at hr2
      rw [if_neg HFU.out, HDN.out]
      have hbk : ∀ b, b < w.heap.size → b ≠ r → w2.heap[b]? = w.heap[b]? := fun b h1 h2 => hk2.block b h1 h2
      have hne : ∀ b, U8 w b → b ≠ r := by
        rintro b ⟨cs, fr, hb⟩ e
        rw [e, HH.out.row] at hb
        injection hb with hb
        injection hb with _ hb
        exact absurd hb (by decide)
      have hvne : ∀ b, v.ownBlock = some b → b ≠ r := fun b hb e => by
        obtain ⟨ac, _, h2, _⟩ := HH.out.sure
        obtain ⟨cur, h3⟩ := ownsRow_type h2 hb
        rw [e, HH.out.row] at h3
        injection h3 with h3
        injection h3 with _ h3
        exact absurd h3 (by decide)
      have hune : ∀ b, u.ownBlock = some b → b ≠ r := fun b hb e => by
        obtain ⟨ac, _, h2, _⟩ := HH.out.un
        obtain ⟨cur, h3⟩ := ownsRow_type h2 hb
        rw [e, HH.out.row] at h3
        injection h3 with h3
        injection h3 with _ h3
        exact absurd h3 (by decide)
      have hfl := rfiles_any r s v u T _ w2 hr2 rfl rfl (HH.out.sure.keep (S' := T) (fun b hb => hbk b (HH.out.lt b (HH.out.tv b hb)) (hvne b hb)) (fun b hb => hbk b (HH.out.lt b hb.1) (hne b hb.2)) (fun _ h => h.1)) (HH.out.un.keep (S' := T) (fun b hb => hbk b (HH.out.lt b (HH.out.mt b (HH.out.mu b hb))) (hune b hb)) (fun b hb => hbk b (HH.out.lt b hb.1) (hne b hb.2)) (fun _ h => h.1)) (fun b hb => by rw [hz2]; exact HH.out.lt b hb) HH.out.ok HC.out
      have HFL := Lib.hid hfl
      have HR2 := Lib.hid hr2
      have HK2 := Lib.hid hk2
      have HZ2 := Lib.hid hz2
      clear hr2 hk2 hz2 HBU h4 hfl hbk hne hvne hune
      go_wp2_with fail
      refine HFL.out.mono ?_
      rintro e w3 ⟨v3, rfl, ho3, hb3⟩
      have hlr : r < w2.heap.size := row_lt HR2.out
      have hr3 := (hb3.block r hlr).trans HR2.out
      have hf0 : w3.frozen? ⟨r, 0, none⟩ = false := frozen_of_row w3 r 0 _ _ hr3
      have hc0 : w3.cell? ⟨r, 0, none⟩ = some v := by rw [cell_of_row w3 r 0 _ _ _ hr3]; rfl
      have hc1 : w3.cell? ⟨r, 1, none⟩ = some u := by rw [cell_of_row w3 r 1 _ _ _ hr3]; rfl
      have hf1 : w3.frozen? ⟨r, 1, none⟩ = false := frozen_of_row w3 r 1 _ _ hr3
      obtain ⟨A3, c3, rfl, _⟩ := ho3.form
      have HO3 := Lib.hid ho3
      have HB3 := Lib.hid hb3
      have HR3 := Lib.hid hr3
      clear ho3 hb3 hr3 HFL
      go_wp2
      go_ret
      rw [HR.out.1, HR.out.2]
      have hr6 := heap_setCell_same _ r 1 _ _ (.slice none 0 0) (heap_setCell_same w3 r 0 _ _ (.slice A3 s.files.length c3) HR3.out)
      have hold : ∀ b, b ≠ r → ((w3.setCell ⟨r, 0, none⟩ (.slice A3 s.files.length c3)).setCell ⟨r, 1, none⟩ (.slice none 0 0)).heap[b]? = w3.heap[b]? := fun b hb => (heap_setCell_other _ ⟨r, 1, none⟩ b _ hb).trans (heap_setCell_other w3 ⟨r, 0, none⟩ b _ hb)
      have hge : ∀ b, w2.heap.size ≤ b → b ≠ r := fun b hb e => by omega
      obtain ⟨b1, b2, b3, b4⟩ := burnt_ok HH.out.ok
      refine rd_done HH.out (synced_ok HH.out.ok) (by rw [show ({ burnt s with sure := s.files, unsure := [] } : DS).room = s.room from b3]; exact hr6) ?_ ?_ (WsAt.nil _ _ _) (fun b hb => by cases hb) ?_
      · refine (HO3.out.base (Nat.zero_le _)).keep (fun b hb => hold b (hge b (rf_own_lt HO3.out hb).1)) (fun b hb => hold b (hge b hb.1)) (fun b hb => ⟨.inr (by have := HZ2.out; have := hb.1; omega), u8_keep hb.2.2 (hold b (hge b hb.1))⟩)
      · intro b hb
        have := (rf_own_lt HO3.out hb).1
        have := HZ2.out
        exact .inr (by omega)
      · exact (((HK2.out.mono (M' := M) (fun b _ e => e ▸ HH.out.mr)).trans (Kept.of_below HB3.out)).setCell (p := ⟨r, 0, none⟩) (fun _ => HH.out.mr) _).setCell (p := ⟨r, 1, none⟩) (fun _ => HH.out.mr) _
/-- Gives bytes and an error. -/
def RGives (l : Bs) (n : Int) (w : World) (e : Ending) (w' : World) : Prop := ∃ A c, e = .returned (.tuple #[.slice A l.length c, .int .i64 n]) ∧ Lies w' w'.heap.size A l ∧ Below w.heap.size w w'
set_option maxRecDepth 100000 in
set_option maxHeartbeats 4000000 in
theorem rread_any (r : Nat) (s : DS) (T M : Nat → Prop) (nm : Bs) (w : World) (h : RDAt w r s T M) (hcnt : s.cnt ≤ 68719476736) (hnl : nm.length ≤ 140737488355328) :
    Calls Try.prog 36 #[.pointer (some ⟨r, 0, none⟩), .string (str nm)] w (RGives (readB s nm) (readE s nm) w) := by
  obtain ⟨v, u, h⟩ := h
  have h4 : w.cell? ⟨r, 4, none⟩ = some (.bool s.down) := by rw [cell_of_row w r 4 _ _ _ h.row]; rfl
  have HNM := Lib.hid (rnamed_any nm w (by omega))
  have HFL := Lib.hid (rfiles_any r s v u T _ w h.row rfl rfl (h.sure.keep (fun _ _ => rfl) (fun _ _ => rfl) (fun _ h => h.1)) (h.un.keep (fun _ _ => rfl) (fun _ _ => rfl) (fun _ h => h.1)) h.lt h.ok hcnt)
  have HUP := Lib.hid (show Up s.files from up_all h.ok.up)
  have HFN := Lib.hid (Nat.le_trans (files_le h.ok) hcnt)
  clear h hcnt
  go_enter Try.func36, Try.ntmps36
  cases hdown : s.down with
  | true =>
    rw [hdown] at h4
    have hE : readE s nm = 11 := by unfold readE; rw [if_pos hdown]
    have HR := Lib.hid (show readE s nm = 11 ∧ readB s nm = [] from ⟨hE, by unfold readB; rw [hE, if_neg (by decide)]⟩)
    clear hdown hE
    go_wp2
    go_ret2
    rw [HR.out.1, HR.out.2]
    exact ⟨none, 0, rfl, Lies.empty _ _ _, Below.refl _ _⟩
  | false =>
    rw [hdown] at h4
    have HDN := Lib.hid hdown
    clear hdown
    cases hnm : named nm with
    | false =>
      have hE : readE s nm = 1 := by unfold readE; rw [HDN.out, if_neg (by simp), if_pos hnm]
      have HR := Lib.hid (show readE s nm = 1 ∧ readB s nm = [] from ⟨hE, by unfold readB; rw [hE, if_neg (by decide)]⟩)
      have HN := Lib.hid (hnm ▸ HNM.out)
      clear hE hnm HNM
      go_wp2_with (go_at_call 53; refine HN.out.mono ?_; rintro e w' ⟨rfl, rfl⟩)
      go_ret2
      rw [HR.out.1, HR.out.2]
      exact ⟨none, 0, rfl, Lies.empty _ _ _, Below.refl _ _⟩
    | true =>
      have HN := Lib.hid (hnm ▸ HNM.out)
      have HNT := Lib.hid hnm
      clear hnm HNM
      go_wp2_with (first | (go_at_call 53; refine HN.out.mono ?_; rintro e w' ⟨rfl, rfl⟩) | fail)
      refine HFL.out.mono ?_
      rintro e w1 ⟨v1, rfl, ho1, hb1⟩
      have hfi := find_any v1 w.heap.size _ s.files nm w1 ho1 HUP.out
      have HO1 := Lib.hid ho1
      have HB1 := Lib.hid hb1
      obtain ⟨i, hi⟩ : ∃ i, fidx s.files nm = i := ⟨_, rfl⟩
      obtain ⟨th, ht⟩ : ∃ th, fthere s.files nm = th := ⟨_, rfl⟩
      rw [hi, ht] at hfi
      have HFI := Lib.hid hfi
      have HI := Lib.hid hi
      have HT := Lib.hid ht
      clear hfi hi ht ho1 hb1 HN HFL h4
      go_wp2_with fail
      refine HFI.out.mono ?_
      rintro e w2 ⟨rfl, hb2⟩
      have HB2 := Lib.hid hb2
      clear hb2 HFI
      cases th with
      | false =>
        have hE : readE s nm = 8 := by unfold readE; rw [HDN.out, if_neg (by simp), HNT.out, if_neg (by simp), if_pos HT.out]
        have HR := Lib.hid (show readE s nm = 8 ∧ readB s nm = [] from ⟨hE, by unfold readB; rw [hE, if_neg (by decide)]⟩)
        clear hE
        go_wp2
        go_ret2
        rw [HR.out.1, HR.out.2]
        exact ⟨none, 0, rfl, Lies.empty _ _ _, By.ext HB1.out HB2.out⟩
      | true =>
        have hE : readE s nm = 0 := by unfold readE; rw [HDN.out, if_neg (by simp), HNT.out, if_neg (by simp), HT.out, if_neg (by simp)]
        have HR := Lib.hid (show readE s nm = 0 ∧ readB s nm = bytesOf s.files nm from ⟨hE, by unfold readB; rw [hE, if_pos rfl]⟩)
        clear hE
        have hg := midF_get s.files nm
        rw [midF_there HUP.out HT.out, HI.out] at hg
        have hil : i < s.files.length := (List.getElem?_eq_some_iff.1 hg).1
        obtain ⟨ub, cap, A1, c1, e0, _, hub, hd1, hd2, hx0, hx1⟩ := HO1.out.at_ hil
        have hgi : s.files[i] = (nm, bytesOf s.files nm) := by
          rw [List.getElem?_eq_getElem hil] at hg
          injection hg
        rw [hgi] at hd1 hd2 hx0 hx1
        subst e0
        have hy1 : w2.cell? ⟨ub, i * 2 + 1, none⟩ = some (.slice A1 (bytesOf s.files nm).length c1) := (HB2.out.cell hub).trans hx1
        have HD2 := Lib.hid hd2
        clear hg hgi hd1 hd2 hx0 hx1
        have hcap : s.files.length ≤ 68719476736 := HFN.out
        go_wp2
        go_ret2
        rw [HR.out.1, HR.out.2]
        exact ⟨A1, c1, rfl, ((HD2.out.lies (B := w1.heap.size) (fun b hb => hb.2.1)).below HB2.out).more HB2.out.size, By.ext HB1.out HB2.out⟩
end Go.Proofs.Ytcfnfphnjkllcaa.Dk
