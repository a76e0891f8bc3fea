/- The walk of DiskRoom. -/
import Derived.Test.YtolomblbcljdfaaLaJ
import Derived.Deep.CutBlock
namespace Go.Proofs.Ytolomblbcljdfaa.Dk
open Go.RowKit Go.Maps By Mp

theorem chg_size {s : DS} {k : Nat} {nm d : Bs} {off : Int} (h : chgE s k nm off d = 0) : fsize (chgS s k nm off d).files ≤ fsize s.files ∨ (fsize (chgS s k nm off d).files : Int) ≤ s.room := by
  have hr : refusal s k nm off d = 0 := by
    cases Decidable.em (refusal s k nm off d = 0) with
    | inl h0 => exact h0
    | inr h0 =>
      unfold chgE at h
      rw [if_pos h0] at h
      exact absurd h h0
  have hb : burns s = false := by
    cases hb : burns s with
    | false => rfl
    | true =>
      unfold chgE at h
      rw [if_neg (fun e => e hr), if_pos hb] at h
      cases h
  have hs : chgS s k nm off d = { burnt s with unsure := s.unsure ++ [⟨k, nm, off.toNat, d⟩] } := by
    unfold chgS
    rw [if_neg (fun e => e hr), if_neg (by rw [hb]; simp)]
  have hf : (chgS s k nm off d).files = doW s.files ⟨k, nm, off.toNat, d⟩ := by
    rw [hs]
    have := files_snoc s ⟨k, nm, off.toNat, d⟩
    unfold DS.files at this ⊢
    rw [(burnt_parts s).1]
    exact this
  rw [hf]
  unfold refusal at hr
  split at hr
  · cases hr
  · split at hr
    · cases hr
    · split at hr
      · cases hr
      · split at hr
        · cases hr
        · rename_i h4
          by_cases h5 : fsize s.files < fsize (doW s.files ⟨k, nm, off.toNat, d⟩)
          · exact .inr (Int.not_lt.1 (fun h6 => h4 ⟨h5, h6⟩))
          · exact .inl (Nat.le_of_not_lt h5)
theorem refusal_11 {s : DS} {k : Nat} {nm d : Bs} {off : Int} (h0 : refusal s k nm off d ≠ 0) : (refusal s k nm off d == 11) = s.down := by
  unfold refusal at h0 ⊢
  cases hd : s.down with
  | true => rw [if_pos rfl]; rfl
  | false =>
    rw [if_neg (by simp)]
    split
    · rfl
    · split
      · rfl
      · split
        · rfl
        · rename_i h1 h2 h3
          rw [hd, if_neg (by simp), if_neg h1, if_neg h2, if_neg h3] at h0
          exact absurd rfl h0
theorem chg_fails {s : DS} {k : Nat} {nm d : Bs} {off : Int} (h : chgE s k nm off d ≠ 0) : (chgS s k nm off d).files = s.files ∧ (chgE s k nm off d == 11) = (chgS s k nm off d).down := by
  by_cases h0 : refusal s k nm off d = 0
  · cases hb : burns s with
    | false =>
      unfold chgE at h
      rw [if_neg (fun e => e h0), if_neg (by rw [hb]; simp)] at h
      exact absurd rfl h
    | true =>
      have he : chgE s k nm off d = 11 := by unfold chgE; rw [if_neg (fun e => e h0), if_pos hb]
      have hs : chgS s k nm off d = burnt s := by unfold chgS; rw [if_neg (fun e => e h0), if_pos hb]
      rw [he, hs]
      refine ⟨by unfold DS.files; rw [(burnt_parts s).1, (burnt_parts s).2], ?_⟩
      unfold burns at hb
      have hf : s.fuse = 1 := of_decide_eq_true hb
      unfold burnt
      rw [if_neg (by omega), if_pos hf]
      rfl
  · have he : chgE s k nm off d = refusal s k nm off d := by unfold chgE; rw [if_pos h0]
    have hs : chgS s k nm off d = s := by unfold chgS; rw [if_pos h0]
    rw [he, hs]
    exact ⟨rfl, refusal_11 h0⟩
set_option maxRecDepth 100000 in
set_option maxHeartbeats 4000000 in
theorem diskRoom_walk (room : Int) (A : Option Addr) (c : Nat) (l : List A1) (a : A1) (P : AC) (w : World) (h : LiesA w w.heap.size A l) (ha : ActsOk l) (hac : a.data.length ≤ P.2) (had : Lies w w.heap.size P.1 a.data) (hao : ActOk a) :
    Calls Try.prog 6 #[.int .i64 room, .slice A l.length c, aV a P] w (True_ w) := by
  obtain ⟨kd, nm, n, d, mk⟩ := a
  obtain ⟨Aa, ca⟩ := P
  have hac : d.length ≤ ca := hac
  have HAD := Lib.hid (show Lies w w.heap.size Aa d from had)
  have hnl : nm.length ≤ 140737488355328 := hao.name
  have hdl : d.length ≤ 1099511627776 := hao.data
  show Calls Try.prog 6 #[.int .i64 room, .slice A l.length c, .agg #[.int .i64 kd, .string (str nm), .int .i64 n, .slice Aa d.length ca, .int .u64 (mk : Int)]] w (True_ w)
  obtain ⟨w0, hw0⟩ : ∃ w0, w0 = w.alloc (.cells #[.int .i64 kd, .string (str nm), .int .i64 n, .slice Aa d.length ca, .int .u64 (mk : Int)] tAct) := ⟨_, rfl⟩
  have hb0 : Below w.heap.size w w0 := by rw [hw0]; exact (Below.refl _ _).alloc (Nat.le_refl _) _
  have hxr : w0.heap[w.heap.size]? = some (.cells #[.int .i64 kd, .string (str nm), .int .i64 n, .slice Aa d.length ca, .int .u64 (mk : Int)] tAct (0, 0)) := by rw [hw0]; exact heap_alloc_new w _
  have hla : LiesA w0 w0.heap.size A l := fun hn => by
    obtain ⟨ga, oa, e, hg, hc⟩ := h hn
    refine ⟨ga, oa, e, Nat.lt_of_lt_of_le hg hb0.size, fun k x hx => ?_⟩
    obtain ⟨p, h1, h2, h3⟩ := hc k x hx
    exact ⟨p, fun j u hu => (hb0.cell hg).trans (h1 j u hu), h2, (h3.below hb0).more hb0.size⟩
  have HGR := Lib.hid (grown_any room A c l w0 hla ha)
  have HXR := Lib.hid hxr
  have HB0 := Lib.hid hb0
  have HW0 := Lib.hid hw0
  have HALL := Lib.hid (fun (w' : World) (hb : Below w0.heap.size w0 w') => (show w'.cell? ⟨w.heap.size, 0, none⟩ = some (.int .i64 kd) ∧ w'.cell? ⟨w.heap.size, 1, none⟩ = some (.string (str nm)) ∧ w'.cell? ⟨w.heap.size, 2, none⟩ = some (.int .i64 n) ∧ w'.cell? ⟨w.heap.size, 3, none⟩ = some (.slice Aa d.length ca) ∧ w'.cell? ⟨w.heap.size, 4, none⟩ = some (.int .u64 (mk : Int)) from by
    have h := (hb.block _ (row_lt hxr)).trans hxr
    exact ⟨by rw [cell_of_row w' _ 0 _ _ _ h]; rfl, by rw [cell_of_row w' _ 1 _ _ _ h]; rfl, by rw [cell_of_row w' _ 2 _ _ _ h]; rfl, by rw [cell_of_row w' _ 3 _ _ _ h]; rfl, by rw [cell_of_row w' _ 4 _ _ _ h]; rfl⟩))
  have q1 := ptrEq
  have q2 := ptrNe
  clear h ha hb0 hxr hla had hao
  go_enter Try.func6, Try.ntmps6
  go_upto_region 1 with fail
  rw [← HW0.out]
  clear hw0 HW0
  go_wp2_with fail
  refine HGR.out.mono ?_
  rintro e w1 ⟨g, r, rfl, hp1, hc1⟩
  obtain ⟨s, hs⟩ : ∃ s, growS room l = s := ⟨_, rfl⟩
  have hn1 := nmd_grow room l
  rw [hs] at hp1 hc1 hn1
  have HP1 := Lib.hid hp1
  have HC := Lib.hid (Nat.le_trans hc1 (by decide : 200 ≤ 68719476536))
  have HNMD := Lib.hid hn1
  clear hs hp1 hc1 hn1 HGR
  go_wp2_with fail
  refine (answers_any w1).mono ?_
  rintro e w2 ⟨rfl, hb2⟩
  have HP2 := Lib.hid (HP1.out.below hb2)
  clear hb2 HP1
  obtain ⟨hq0, hq1, hq2, hq3, hq4⟩ := HALL.out w2 HP2.out.far
  have hsm := small_any ⟨kd, nm, n, d, mk⟩ (Aa, ca) w2
  unfold aV at hsm
  dsimp only at hsm
  have HSM := Lib.hid hsm
  clear hsm
  go_wp2_with fail
  refine HSM.out.mono ?_
  rintro e w5 ⟨rfl, hb5⟩
  have HP5 := Lib.hid (HP2.out.below hb5)
  have HB5 := Lib.hid (By.ext HB0.out (By.ext HP2.out.far hb5))
  clear hb5 HSM hq0 hq1 hq2 hq3 hq4
  obtain ⟨hq0, hq1, hq2, hq3, hq4⟩ := HALL.out w5 HP5.out.far
  generalize smallB ⟨kd, nm, n, d, mk⟩ = sb
  cases sb with
  | false =>
    go_wp2_with fail
    refine (answers_any w5).mono ?_
    rintro e w6 ⟨rfl, hb6⟩
    have HB6 := Lib.hid (By.ext HB5.out hb6)
    clear hb6
    go_wp2
    go_ret
    exact ⟨rfl, HB6.out⟩
  | true =>
    by_cases hk1 : kd < 1
    · have d1 : decide (kd < 1) = true := decide_eq_true hk1
      go_wp2_with fail
      refine (answers_any w5).mono ?_
      rintro e w6 ⟨rfl, hb6⟩
      have HB6 := Lib.hid (By.ext HB5.out hb6)
      clear hb6
      go_wp2
      go_ret
      exact ⟨rfl, HB6.out⟩
    · have d1 : decide (kd < 1) = false := decide_eq_false hk1
      by_cases hk3 : kd > 3
      · have d3 : decide (kd > 3) = true := decide_eq_true hk3
        go_wp2_with fail
        refine (answers_any w5).mono ?_
        rintro e w6 ⟨rfl, hb6⟩
        have HB6 := Lib.hid (By.ext HB5.out hb6)
        clear hb6
        go_wp2
        go_ret
        exact ⟨rfl, HB6.out⟩
      · have d3 : decide (kd > 3) = false := decide_eq_false hk3
        have HUS := Lib.hid (show Calls Try.prog 26 #[.pointer (some ⟨g, 0, none⟩)] w5 (Ret (.int .i64 (fsize s.files : Nat)) w5) by
          obtain ⟨S, T, M, h1, _, _⟩ := HP5.out
          exact used_any g s S w5 h1.d)
        have HUP := Lib.hid (show Up s.files from up_all HP5.out.ok.up)
        have HNM := Lib.hid (nmd_files HNMD.out)
        have HFL := Lib.hid (Nat.le_trans (files_le HP5.out.ok) (Nat.le_trans HC.out (by decide : 68719476536 ≤ 68719476736)))
        go_wp2_with (first
          | (go_at_call 26; refine HUS.out.mono ?_; rintro e w' ⟨rfl, rfl⟩)
          | fail)
        refine (files_own HP5.out (Nat.le_trans HC.out (by decide))).mono ?_
        rintro e w3 ⟨v13, rfl, ho3, hb3⟩
        obtain ⟨X, hX⟩ : ∃ X : Nat → Prop, X = fun b => w5.heap.size ≤ b ∧ b < w3.heap.size := ⟨_, rfl⟩
        have hox := HP5.out.x hb3
        have hhf := held_of ho3
        rw [← hX] at hox hhf
        obtain ⟨AF, cF, rfl, _⟩ := ho3.form
        have HB03 := Lib.hid (show Below w0.heap.size w0 w3 from hox.far)
        have HHF3 := Lib.hid hhf
        clear hX hhf ho3 hb3 hq0 hq1 hq2 hq3 hq4 HUS
        obtain ⟨hq0, hq1, hq2, hq3, hq4⟩ := HALL.out w3 HB03.out
        obtain ⟨S, T, M, hpa, hfr, hxl, hfa⟩ := hox
        have HPA := Lib.hid hpa
        have HDX3 := Lib.hid (show DX X w0 w3 g s S from ⟨hpa.d, fun b hb => hfr b (.inl hb), hxl, hfa⟩)
        have HTM := Lib.hid (show ∀ b, T b → ¬ S b from fun b ht hs => hpa.sep b hs ht)
        have hcnt : s.cnt ≤ 68719476736 := Nat.le_trans HC.out (by decide)
        have HLW := Lib.hid (show w.heap.size < w0.heap.size from row_lt HXR.out)
        have HXS := Lib.hid (show ∀ b, S b → w0.heap.size ≤ b from fun b hb => (hfr b (.inl hb)).1)
        obtain ⟨F, hF⟩ : ∃ F, s.files = F := ⟨_, rfl⟩
        have HF := Lib.hid hF
        rw [hF] at HUP HNM HFL HHF3 ⊢
        clear hF hpa hfr hxl hfa
        have HSB := Lib.hid (fun (w' : World) (h : w'.heap[w.heap.size]? = some (.cells #[.int .i64 kd, .string (str nm), .int .i64 n, .slice Aa d.length ca, .int .u64 (mk : Int)] tAct (0, 0))) => (show w'.cell? ⟨w.heap.size, 1, none⟩ = some (.string (str nm)) ∧ w'.cell? ⟨w.heap.size, 2, none⟩ = some (.int .i64 n) ∧ w'.cell? ⟨w.heap.size, 3, none⟩ = some (.slice Aa d.length ca) from ⟨by rw [cell_of_row w' _ 1 _ _ _ h]; rfl, by rw [cell_of_row w' _ 2 _ _ _ h]; rfl, by rw [cell_of_row w' _ 3 _ _ _ h]; rfl⟩))
        have HSS := Lib.hid (fun (w' : World) (hb : Below w0.heap.size w0 w') => HSB.out w' ((hb.block _ (row_lt HXR.out)).trans HXR.out))
        go_upto_block 0 with fail
        go_cut [11] (fun x11 wx => ∃ (kk : Nat) (off : Int) (dd : Bs) (S' : Nat → Prop), x11 = .int .i64 (chgE s kk nm off dd) ∧ DX X w0 wx g (chgS s kk nm off dd) S' ∧ (∀ b, X b → wx.heap[b]? = w3.heap[b]?) ∧ Kept S w3 wx)
        case first =>
          have hcases : kd = 1 ∨ kd = 2 ∨ kd = 3 := by omega
          rcases hcases with rfl | rfl | rfl
          · have HOWN := Lib.hid (show Own w3.heap.size (w3.alloc (.cells #[] 5)).drew (.slice (some ⟨w3.heap.size, 0, none⟩) 0 0) [] from Own.made w3 w3.heap.size #[] 0 (Nat.le_refl _) (by decide) rfl)
            have HLA := Lib.hid (show Lies (w3.alloc (.cells #[] 5)).drew w3.heap.size Aa d from ((HAD.out.below (HB0.out.trans (HB03.out.mono HB0.out.size))).more (Nat.le_trans HB0.out.size HB03.out.size)).alloc (Nat.le_refl _) _)
            have HZA := Lib.hid (show w3.heap.size ≤ (w3.alloc (.cells #[] 5)).drew.heap.size by show _ ≤ (w3.alloc _).heap.size; simp)
            have HBA := Lib.hid (show Below w3.heap.size w3 (w3.alloc (.cells #[] 5)).drew from ((Below.refl _ _).alloc (Nat.le_refl _) _).drew)
            have HG := Lib.hid (HDX3.out.1.lt.1 g HDX3.out.1.lt.2.1)
            have HLX := Lib.hid (fun b (hb : b < w0.heap.size) => (show ¬ S b from fun h => Nat.not_lt_of_le (HXS.out b h) hb))
            go_upto_region 9 with fail
            go_region_held3 (fun w' => w'.cell? ⟨w.heap.size, 1, none⟩ = some (.string (str nm)) ∧ w'.cell? ⟨w.heap.size, 2, none⟩ = some (.int .i64 n) ∧ w'.cell? ⟨w.heap.size, 3, none⟩ = some (.slice Aa d.length ca))
              (first
                | assumption
                | exact HSS.out _ HB03.out.drew
                | exact HSS.out _ HB03.out
                | exact HSS.out _ HBS5.out
                | exact HSS6.out
                | exact HSS.out _ (By.ext HB03.out HBA.out))
              (first
                | (refine step_appB rfl (.tmp 60) (.tmp 62) rfl (v := .slice (some ⟨w3.heap.size, 0, none⟩) 0 0) (by simp [Act.eval]) HOWN.out (A := Aa) (m := d.length) (c := ca) (by simp [Act.eval]) rfl HLA.out (by simp; omega) HZA.out ?_
                   intro v5 w5 ho5 hg5 hv5
                   rw [List.nil_append] at ho5
                   obtain ⟨A5, c5, rfl, hc5, _, _, _, _⟩ := ho5.form
                   have hb5 : Below w3.heap.size w3 w5 := HBA.out.grown hg5 HZA.out (fun q e => by injection e with e; exact Nat.le_of_eq e)
                   have HBS5 := Lib.hid (By.ext HB03.out hb5)
                   have HB35 := Lib.hid hb5
                   have HCA := Lib.hid (put_any g s S nm n d A5 d.length c5 w5 (HDX3.out.below hb5).1 hcnt (by omega) hnl rfl hc5 (fun b => w3.heap.size ≤ b ∧ b < w5.heap.size ∧ U8 w5 b) (fun b hb => ⟨fun e => by have := HG.out; omega, hb.2.1⟩) (lies8 ho5))
                   clear ho5 hg5 hv5 hc5 hb5)
                | (go_at_call 27; refine HCA.out.mono ?_; intro e w6 hst
                   have hk6 := hst.2.choose_spec.2.2
                   obtain ⟨rfl, S6, hd6, hx6⟩ := (HDX3.out.below HB35.out).step hst
                   have HSS6 := Lib.hid (HSB.out w6 ((hk6.block _ (Nat.lt_of_lt_of_le (row_lt HXR.out) HBS5.out.size) (HLX.out _ (row_lt HXR.out))).trans ((HBS5.out.block _ (row_lt HXR.out)).trans HXR.out)))
                   have HD6 := Lib.hid hd6
                   have HX6 := Lib.hid (fun b (hx : X b) => (hx6 b hx).trans (HB35.out.block b (HDX3.out.2.2.1 b hx)))
                   have HK6 := Lib.hid (show Kept S w3 w6 from (Kept.of_below HB35.out).trans hk6)
                   clear hst hk6 hd6 hx6))
            go_wp2
            go_meet
            exact ⟨1, n, d, S6, rfl, HD6.out, HX6.out, HK6.out⟩
          · have HCA := Lib.hid (cut_any g s S nm n w3 HDX3.out.1 hcnt hnl)
            go_wp2_with fail
            refine HCA.out.mono ?_
            intro e w6 hst
            have hk6 := hst.2.choose_spec.2.2
            obtain ⟨rfl, S6, hd6, hx6⟩ := HDX3.out.step hst
            have HD6 := Lib.hid hd6
            have HX6 := Lib.hid hx6
            have HK6 := Lib.hid hk6
            clear hst hk6 hd6 hx6 HCA
            go_wp2
            go_meet
            exact ⟨2, n, [], S6, rfl, HD6.out, HX6.out, HK6.out⟩
          · have HCA := Lib.hid (remove_any g s S nm w3 HDX3.out.1 hcnt hnl)
            go_wp2_with fail
            refine HCA.out.mono ?_
            intro e w6 hst
            have hk6 := hst.2.choose_spec.2.2
            obtain ⟨rfl, S6, hd6, hx6⟩ := HDX3.out.step hst
            have HD6 := Lib.hid hd6
            have HX6 := Lib.hid hx6
            have HK6 := Lib.hid hk6
            clear hst hk6 hd6 hx6 HCA
            go_wp2
            go_meet
            exact ⟨3, 0, [], S6, rfl, HD6.out, HX6.out, HK6.out⟩
        obtain ⟨kk, off, dd, S5, rfl, hdx, hkx, hkS⟩ := hcut
        have HSZ := Lib.hid (chg_size (s := s) (k := kk) (nm := nm) (d := dd) (off := off))
        have HFE := Lib.hid (chg_fails (s := s) (k := kk) (nm := nm) (d := dd) (off := off))
        have HCN := Lib.hid (Nat.le_trans (chg_cnt s kk nm off dd) (show s.cnt + 1 ≤ 68719476736 by have := HC.out; omega))
        obtain ⟨er, her⟩ : ∃ er, chgE s kk nm off dd = er := ⟨_, rfl⟩
        obtain ⟨s3, hs3⟩ : ∃ s3, chgS s kk nm off dd = s3 := ⟨_, rfl⟩
        rw [her, hs3] at HSZ HFE
        rw [hs3] at hdx HCN
        rw [her]
        have HDX := Lib.hid hdx
        have HHF := Lib.hid (HHF3.out.keep hkx)
        have hc2 : wc.cell? ⟨r, 2, none⟩ = some (.int .i64 s.room) := by
          have h1 := (rd_cells HPA.out.r).1
          have h2 : wc.heap[r]? = w3.heap[r]? := hkS.block r (HPA.out.r.lt.1 r (HPA.out.r.lt.2.1 r HPA.out.r.lt.2.2)) (HTM.out r (HPA.out.r.lt.2.1 r HPA.out.r.lt.2.2))
          exact (World.cell?_of_block (w := w3) h2).trans h1
        have HBW := Lib.hid (show Below w.heap.size w wc from By.ext HB0.out hdx.2.2.2)
        clear her hs3 hdx hkx hkS hq0 hq1 hq2 hq3 hq4
        rw [HF.out] at HSZ HFE
        obtain ⟨ff, hff⟩ : ∃ ff, fsize F = ff := ⟨_, rfl⟩
        rw [hff] at HSZ ⊢
        have HFF := Lib.hid hff
        clear hff
        by_cases he : er = 0
        · have he' : (er == 0) = true := by simpa using he
          have hsz := HSZ.out he
          obtain ⟨f3, hf3⟩ : ∃ f3, fsize s3.files = f3 := ⟨_, rfl⟩
          have HUD := Lib.hid (fun q => ret_flip (hf3 ▸ used_any g s3 S5 (wc.drewN q) (HDX.out.below (belowDrewN (Below.refl _ _) q)).1))
          rw [hf3] at hsz
          have HE := Lib.hid he
          clear he HSZ hf3
          by_cases h1 : f3 ≤ ff
          · have d5 : decide ((f3 : Int) ≤ (ff : Int)) = true := decide_eq_true (by omega)
            have d5n : decide (f3 ≤ ff) = true := decide_eq_true h1
            go_wp2
            go_quiet ((go_at_call 26; exact Calls.quiet_of_same (HUD.out _)))
            go_wp2
            go_ret
            exact ⟨rfl, belowDrewN HBW.out _⟩
          · have d5 : decide ((f3 : Int) ≤ (ff : Int)) = false := decide_eq_false (by omega)
            have d5n : decide (f3 ≤ ff) = false := decide_eq_false h1
            have d6 : decide ((f3 : Int) ≤ s.room) = true := decide_eq_true (hsz.resolve_left h1)
            go_wp2
            go_quiet ((go_at_call 26; exact Calls.quiet_of_same (HUD.out _)))
            go_wp2
            go_ret
            exact ⟨rfl, belowDrewN HBW.out _⟩
        · have he' : (er == 0) = false := by simpa using he
          obtain ⟨hfs, hdn⟩ := HFE.out he
          have hus := used_any g s3 S5 wc HDX.out.1
          rw [hfs, HFF.out] at hus
          have HUS := Lib.hid hus
          have HDO := Lib.hid (down_any g s3 S5 wc HDX.out.1)
          clear he HSZ hus hc2
          cases hdw : s3.down with
          | true =>
            rw [hdw] at hdn HDO
            go_wp2_with (first
              | (go_at_call 26; refine HUS.out.mono ?_; rintro e w' ⟨rfl, rfl⟩)
              | (go_at_call 22; refine HDO.out.mono ?_; rintro e w' ⟨rfl, rfl⟩))
            go_loopw [12] (fun i wr => i = .int .i64 0 ∧ wr = wc) (fun _ _ => 0)
            case atStart => exact ⟨rfl, rfl⟩
            case round =>
              obtain ⟨rfl, rfl⟩ := hrel
              by_cases hz : 0 < F.length
              · have z1 : decide ((0 : Int) < (F.length : Int)) = true := decide_eq_true (by omega)
                have z2 : decide (0 < F.length) = true := decide_eq_true hz
                go_wp2_with (go_at_call 22; refine HDO.out.mono ?_; rintro e w' ⟨rfl, rfl⟩)
                go_ret
                exact ⟨rfl, HBW.out⟩
              · have z1 : decide ((0 : Int) < (F.length : Int)) = false := decide_eq_false (by omega)
                have z2 : decide (0 < F.length) = false := decide_eq_false hz
                go_wp2
                go_ret
                exact ⟨rfl, HBW.out⟩
          | false =>
            rw [hdw] at hdn HDO
            have HFS := Lib.hid (And.intro hfs hdw)
            clear hfs
            go_wp2_with (first
              | (go_at_call 26; refine HUS.out.mono ?_; rintro e w' ⟨rfl, rfl⟩)
              | (go_at_call 22; refine HDO.out.mono ?_; rintro e w' ⟨rfl, rfl⟩))
            obtain ⟨w7, hw7⟩ : ∃ w7, w7 = wc := ⟨_, rfl⟩
            subst hw7
            have HST0 := Lib.hid (Below.refl w7.heap.size w7)
            clear HUS HDO
            go_loopw [12] (fun i wr => ∃ k : Nat, k ≤ F.length ∧ i = .int .i64 (k : Int) ∧ Below w7.heap.size w7 wr) (fun i _ => F.length - (intOf i).toNat)
            case atStart => exact ⟨0, Nat.zero_le _, rfl, HST0.out⟩
            case round =>
              obtain ⟨k2, hk2, rfl, hb⟩ := hrel
              have HBK := Lib.hid hb
              clear hb
              have hfll := HFL.out
              by_cases hlt2 : k2 < F.length
              · obtain ⟨uf, capf, A1, c1, e0, _, huf, hd1, hd2, hx0, hx1⟩ := HHF.out.1.at_ hlt2
                obtain ⟨p, hp⟩ : ∃ p, p = F[k2] := ⟨_, rfl⟩
                have hpm : p ∈ F := hp ▸ List.getElem_mem hlt2
                rw [← hp] at hd1 hd2 hx0 hx1
                simp only [Value.slice.injEq, true_and] at e0
                obtain ⟨rfl, rfl⟩ := e0
                have hq0 : wr.cell? ⟨uf, k2 * 2, none⟩ = some (.string (str p.1)) := (HBK.out.cell huf).trans hx0
                have hq1 : wr.cell? ⟨uf, k2 * 2 + 1, none⟩ = some (.slice A1 p.2.length c1) := (HBK.out.cell huf).trans hx1
                have HL1 := Lib.hid (show Lies wr wr.heap.size A1 p.2 from ((hd2.lies (B := w7.heap.size) (fun b hb => HDX.out.2.2.1 b hb)).below HBK.out).more HBK.out.size)
                have hnp : named p.1 = true := HNM.out p hpm
                have hgp : fget s3.files p.1 = some p.2 := by rw [HFS.out.1]; exact fget_mem HUP.out hpm
                have hre : readE s3 p.1 = 0 := by unfold readE fthere; rw [HFS.out.2, hnp, hgp]; simp
                have hrb : readB s3 p.1 = p.2 := by unfold readB bytesOf; rw [hre, if_pos rfl, hgp]; rfl
                have hnl : p.1.length ≤ 140737488355328 := by
                  rw [named_eq, Bool.and_eq_true, Bool.and_eq_true, decide_eq_true_eq, decide_eq_true_eq] at hnp
                  omega
                have hrd := read_any g s3 S5 p.1 wr (HDX.out.1.below HBK.out) hnl
                rw [hre, hrb] at hrd
                have HRR := Lib.hid hrd
                have hdn := down_any g s3 S5 wr (HDX.out.1.below HBK.out)
                rw [HFS.out.2] at hdn
                have HDNR := Lib.hid hdn
                clear hpm hp hd1 hd2 hx0 hx1 hnp hgp hre hrb hrd hdn
                go_wp2_with (first | (go_at_call 22; refine HDNR.out.mono ?_; rintro e w' ⟨rfl, rfl⟩) | fail)
                refine HRR.out.mono ?_
                rintro e wx ⟨vx, rfl, hox, hbx⟩
                obtain ⟨Ax, cx, rfl, _, _, _, hlx, _⟩ := hox.form
                have hqx0 : wx.cell? ⟨uf, k2 * 2, none⟩ = some (.string (str p.1)) := (hbx.cell (show uf < wr.heap.size by have := HBK.out.size; omega)).trans hq0
                have hqx1 : wx.cell? ⟨uf, k2 * 2 + 1, none⟩ = some (.slice A1 p.2.length c1) := (hbx.cell (show uf < wr.heap.size by have := HBK.out.size; omega)).trans hq1
                have htx := fun q => run_text (wx.drewN q) (n := p.2.length) cx rfl (hlx.drewN q)
                have hty := fun q => run_text (wx.drewN q) (n := p.2.length) c1 rfl ((HL1.out.below hbx).drewN q)
                have hsd : ((str p.2).toList != (str p.2).toList) = false := bne_self_eq_false _
                have HBX := Lib.hid (By.ext HBK.out hbx)
                clear hox hbx hlx hq0 hq1 HRR
                go_wp2
                go_quiet (fail)
                go_wp2
                go_roundw
                case rel => exact ⟨k2 + 1, by omega, by go_num, belowDrewN HBX.out _⟩
                case measure => simp [intOf]; omega
              · clear hfll
                go_wp2
                go_ret
                exact ⟨rfl, By.ext HBW.out HBK.out⟩
end Go.Proofs.Ytolomblbcljdfaa.Dk
