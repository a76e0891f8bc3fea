/- Package disk's change, as a contract of a call. -/
import Derived.Test.YtnjifhbooikdbaaGreatDoorDkL
namespace Go.Proofs.YtnjifhbooikdbaaGreatDoor.Dk
open Go.RowKit Go.Maps By Mp

theorem ownsRow_form {w : World} {base : Nat} {e : TypeId} {size n : Nat} {v : Value} {xs : List Value} (h : w.ownsRow base e size v n xs) : ∃ A c, v = .slice A n c := by
  rcases h.2 with ⟨rfl, rfl⟩ | ⟨g, cap, cur, rfl, _⟩
  · exact ⟨_, _, rfl⟩
  · exact ⟨_, _, rfl⟩
theorem run_appW (w : World) (ty : TypeId) (base : Nat) (v : Value) (n : Nat) (xs : List Value) (hown : w.ownsRow base tWrite 4 v n xs) (ad : Addr) (news : List Value) (hl : news.length = 4) (hnews : ∀ j u, news[j]? = some u → w.cell? (ad.add j) = some u) (h1 : ∀ u ∈ news, u.oneCell' = true)
    (hn : n ≤ 68719476736) (hbase : base ≤ w.heap.size) : ∃ v' w', (Builtin.append_ #[tWrites, tWrites] ty #[v, .slice (some ad) 1 1]).run Tryz.prog w = .ok v' w' ∧ w'.ownsRow base tWrite 4 v' (n + 1) (xs ++ news) ∧ w.grownBy w' v.ownBlock ∧ ∀ b, v'.ownBlock = some b → v.ownBlock = some b ∨ w.heap.size ≤ b := by
  obtain ⟨i0, hi, hz0, hz1, hz2⟩ := info_parts wInfo
  rcases hown.2 with ⟨rfl, rfl⟩ | ⟨g, cap, cur, rfl, hbg, hg, hnc, hcm, hcs, htake⟩
  · have hxs : xs = [] := List.eq_nil_of_length_eq_zero (by simpa using hown.1)
    subst hxs
    obtain ⟨v', w', hrun, h2, h3, _⟩ := run_append_own (P := Tryz.prog) w w.heap.size tWrites ty tWrite i0 _ 4 56 Tryz.underlying44 hi hz0 hz1 hz2 rfl (by decide) (.slice none 0 0) 0 [] (World.ownsRow_nil w _ _ 4) ad 1 1 news (by omega) hnews h1 (by unfold maxLen; omega) (by omega) (Nat.le_refl _)
    exact ⟨v', w', hrun, ownsRow_base h2 hbase, h3, fun b hb => .inr (ownsRow_lt h2 hb).1⟩
  · by_cases hroom : n + 1 ≤ cap
    · obtain ⟨w', hrun, h2, h3⟩ := run_append_fits (P := Tryz.prog) w base tWrites ty tWrite i0 4 Tryz.underlying44 hi hz1 g n cap xs hown ad 1 1 news (by omega) hnews h1 hroom
      exact ⟨_, w', hrun, h2, h3, fun b hb => .inl hb⟩
    · obtain ⟨v', w', hrun, h2, h3⟩ := run_append_arg_grows (P := Tryz.prog) w tWrites ty tWrite i0 _ 4 56 Tryz.underlying44 hi hz0 hz1 hz2 rfl (by decide) ⟨g, 0, none⟩ n cap xs hown.1
        (fun j u hj => by
          rw [plainAdd, Nat.zero_add, cell_of_row w g j _ _ _ hg]
          rw [← htake, List.getElem?_take] at hj
          split at hj
          · simpa using hj
          · cases hj) ad 1 1 news (by omega) hnews (by omega) (by unfold maxLen; omega) (by omega)
      exact ⟨v', w', hrun, ownsRow_base h2 hbase, h3.but _, fun b hb => .inr (ownsRow_lt h2 hb).1⟩
theorem step_appW {ops : Array Oper} {o : Oper} {a : Act} {w : World} {K : Act → World → Prop} {Q : Exit → Act → World → Prop} {E : Prop} (hgd : o.guard = none) (s x : Operand) (hop : o.op = .call { callee := .builtin .append, args := #[s, x], argTypes := #[tWrites, tWrites] })
    (base : Nat) (v : Value) (n : Nat) (xs : List Value) (hs : a.eval s = v) (hown : w.ownsRow base tWrite 4 v n xs) (ad : Addr) (hx : a.eval x = .slice (some ad) 1 1) (news : List Value) (hl : news.length = 4) (hnews : ∀ j u, news[j]? = some u → w.cell? (ad.add j) = some u) (h1 : ∀ u ∈ news, u.oneCell' = true)
    (hn : n ≤ 68719476736) (hbase : base ≤ w.heap.size)
    (hK : ∀ v' w', w'.ownsRow base tWrite 4 v' (n + 1) (xs ++ news) → w.grownBy w' v.ownBlock → (∀ b, v'.ownBlock = some b → v.ownBlock = some b ∨ w.heap.size ≤ b) → K (a.put o.dst v') w') : if Region.wanted o (yielded ops a.tmps) = true then Oper.wp Tryz.prog o a w K Q else E := by
  have hw : Region.wanted o (yielded ops a.tmps) = true := by simp [Region.wanted, hgd]
  rw [if_pos hw]
  obtain ⟨v', w', hrun, h2, h3, h4⟩ := run_appW w o.type base v n xs hown ad news hl hnews h1 hn hbase
  exact wp_app_run s x _ hop hs hx hrun (hK v' w' h2 h3 h4)
theorem DiskW.down_ {w : World} {g : Nat} {s : DS} {S : Nat → Prop} {bm sm : Option Nat} {pb ps : Bs → Option Nat} {v : Value} (h : DiskW w g s S bm sm pb ps v) : w.cell? ⟨g, 7, none⟩ = some (.bool s.down) := h.cells.2.2.2.2.2.1
theorem dstep_same {g : Nat} {s : DS} {S : Nat → Prop} {w w' : World} {val : Value} (h : DiskAt w g s S) (hb : Below w.heap.size w w') : DStep val g s S w (.returned val) w' := ⟨rfl, S, h.below hb, fun _ hb => .inl hb, Kept.of_below hb⟩
theorem files_le {s : DS} (h : s.Ok) : s.files.length ≤ s.cnt := len_all h.up
theorem burnt_ok {s : DS} (h : s.Ok) : (burnt s).sure = s.sure ∧ (burnt s).unsure = s.unsure ∧ (burnt s).room = s.room ∧ (burnt s).Ok := by
  have h0 := h.fuse
  unfold burnt
  split
  · exact ⟨rfl, rfl, rfl, h⟩
  · split
    · exact ⟨rfl, rfl, rfl, ⟨h.up, h.fit, h.un, h.room, ⟨show (0 : Int) ≤ 0 by omega, show (0 : Int) ≤ 9223372036854775807 by omega⟩⟩⟩
    · exact ⟨rfl, rfl, rfl, ⟨h.up, h.fit, h.un, h.room, ⟨show (0 : Int) ≤ s.fuse - 1 by omega, show s.fuse - 1 ≤ 9223372036854775807 by omega⟩⟩⟩
theorem burnt_row (s : DS) (bm : Option Nat) (u : Nat) (sm : Option Nat) (us : Nat) (v : Value) : ((diskC bm u sm us v s.room s.fuse s.down).setIfInBounds 6 (.int .i64 (if s.fuse = 0 then 0 else s.fuse - 1))).setIfInBounds 7 (.bool (if s.fuse = 1 then true else s.down)) = diskC bm u sm us v (burnt s).room (burnt s).fuse (burnt s).down := by
  unfold burnt
  by_cases h0 : s.fuse = 0
  · rw [if_pos h0, if_pos h0, if_neg (by omega), h0]; rfl
  · rw [if_neg h0, if_neg h0]
    by_cases h1 : s.fuse = 1
    · rw [if_pos h1, if_pos h1, h1]; rfl
    · rw [if_neg h1, if_neg h1]; rfl
/-- What is let in may be. -/
theorem ok_of_takes {F : Fs} {room : Int} {x : W1} (hup : Up F) (hfit : Fit F) (hroom : room ≤ 4194304) (hx : PreW x) (h : takesE F room x = 0) : OkW x := by
  obtain ⟨h1, h2, h3, h4, h5, h6⟩ := hx
  refine ⟨h1, h2, ?_, h5⟩
  by_cases hk : x.kind = 1
  · have hsz := size_doW hup (And.intro h1 h2)
    have hfl : flen F x.name ≤ 4194304 := bytesOf_le hfit x.name
    have hfs := flen_le F x.name
    have hb : behind (flen F x.name) x = max (flen F x.name) (x.off + x.data.length) := by unfold behind; rw [if_pos hk]
    rw [hb] at hsz
    unfold takesE at h
    split at h
    · cases h
    · split at h
      · cases h
      · rename_i hn
        by_cases hg : x.off + x.data.length ≤ flen F x.name
        · omega
        · have : ¬ (fsize F < fsize (doW F x)) ∨ ¬ (room < (fsize (doW F x) : Int)) := by
            by_cases h7 : fsize F < fsize (doW F x)
            · exact .inr (fun h8 => hn ⟨h7, h8⟩)
            · exact .inl h7
          omega
  · rw [h6 hk]
    simp
    omega
/-- A change that is refused. -/
theorem chg_refused {s : DS} {k : Nat} {nm d : Bs} {off : Int} {e : Int} (h : refusal s k nm off d = e) (he : e ≠ 0) : chgE s k nm off d = e ∧ chgS s k nm off d = s := by
  unfold chgE chgS
  rw [h, if_pos he, if_pos he]
  exact ⟨rfl, rfl⟩
theorem chg_burnt {s : DS} {k : Nat} {nm d : Bs} {off : Int} (h : refusal s k nm off d = 0) (hf : s.fuse = 1) : chgE s k nm off d = 11 ∧ chgS s k nm off d = burnt s := by
  unfold chgE chgS burns
  simp [h, hf]
theorem chg_done {s : DS} {k : Nat} {nm d : Bs} {off : Int} (h : refusal s k nm off d = 0) (hf : s.fuse ≠ 1) : chgE s k nm off d = 0 ∧ chgS s k nm off d = { burnt s with unsure := s.unsure ++ [⟨k, nm, off.toNat, d⟩] } := by
  unfold chgE chgS burns
  simp [h, hf]
/-- The change is among the unsure ones, and is not done yet. -/
def ChgMid (g : Nat) (bm : Option Nat) (U : Nat) (sm : Option Nat) (US : Nat) (room fuse : Int) (down : Bool) (S : Nat → Prop) (v : Value) (l : List W1) (w w4 wx : World) : Prop :=
  ∃ v5, wx.heap[g]? = some (.cells (diskC bm U sm US v5 room fuse down) tDisk (0, 0)) ∧ WsAt wx 0 (fun b => (S b ∨ w.heap.size ≤ b) ∧ U8 wx b) v5 l ∧ (∀ b, v5.ownBlock = some b → S b ∨ w.heap.size ≤ b) ∧ (∀ b, b < w4.heap.size → b ≠ g → v.ownBlock ≠ some b → wx.heap[b]? = w4.heap[b]?) ∧ w4.heap.size ≤ wx.heap.size ∧ Kept S w wx
set_option maxRecDepth 100000 in
set_option maxHeartbeats 4000000 in
theorem change_any (g : Nat) (s : DS) (S : Nat → Prop) (k : Nat) (nm : Bs) (off : Int) (d : Bs) (A : Option Addr) (n c : Nat) (w : World) (h : DiskAt w g s S) (hcnt : s.cnt ≤ 68719476736) (hk : 1 ≤ k ∧ k ≤ 3) (hd0 : k ≠ 1 → d = []) (hdl : d.length ≤ 140737488355328) (hnl : nm.length ≤ 140737488355328) (hn : n = d.length) (hc : n ≤ c)
    (SD : Nat → Prop) (hSD : ∀ b, SD b → b ≠ g ∧ b < w.heap.size) (hd : LiesS w SD A d) :
    Calls Tryz.prog 45 #[.pointer (some ⟨g, 0, none⟩), wV k nm off A n c] w (DStep (.int .i64 (chgE s k nm off d)) g (chgS s k nm off d) S w) := by
  subst hn
  have HA := Lib.hid h
  obtain ⟨bm, sm, pb, ps, v, h⟩ := h
  have hlg := row_lt h.row
  have hdn := h.down_
  have hok := h.ok
  have HOK := Lib.hid hok
  have HW := Lib.hid h
  have HS := Lib.hid hSD
  have HD := Lib.hid hd
  have HD0 := Lib.hid hd0
  have HCNT := Lib.hid hcnt
  clear h hSD hd hd0 hok
  unfold wV
  obtain ⟨w0, hw0⟩ : ∃ w0, w0 = w.alloc (.cells #[.int .i64 (k : Nat), .string (str nm), .int .i64 off, .slice A d.length c] tWrite) := ⟨_, rfl⟩
  have hb0 : Below w.heap.size w w0 := by rw [hw0]; exact (Below.refl _ _).alloc (Nat.le_refl _) _
  have hxr : w0.heap[w.heap.size]? = some (.cells #[.int .i64 (k : Nat), .string (str nm), .int .i64 off, .slice A d.length c] tWrite (0, 0)) := by rw [hw0]; exact heap_alloc_new w _
  have hdn0 : w0.cell? ⟨g, 7, none⟩ = some (.bool s.down) := (hb0.cell hlg).trans hdn
  have hx0 : w0.cell? ⟨w.heap.size, 0, none⟩ = some (.int .i64 (k : Nat)) := by rw [cell_of_row w0 _ 0 _ _ _ hxr]; rfl
  have hx1 : w0.cell? ⟨w.heap.size, 1, none⟩ = some (.string (str nm)) := by rw [cell_of_row w0 _ 1 _ _ _ hxr]; rfl
  have hx2 : w0.cell? ⟨w.heap.size, 2, none⟩ = some (.int .i64 off) := by rw [cell_of_row w0 _ 2 _ _ _ hxr]; rfl
  have hx3 : w0.cell? ⟨w.heap.size, 3, none⟩ = some (.slice A d.length c) := by rw [cell_of_row w0 _ 3 _ _ _ hxr]; rfl
  have HWK := Lib.hid (works_any g s.down w0 hdn0)
  have HB0 := Lib.hid hb0
  have HXR := Lib.hid hxr
  have HW0 := Lib.hid hw0
  clear hb0 hxr hdn hdn0
  go_enter Tryz.func45, Tryz.ntmps45
  go_wp2_with fail
  rw [← HW0.out]
  clear hw0 HW0
  refine HWK.out.mono ?_
  rintro e w' ⟨rfl, rfl⟩
  clear HWK
  cases hdown : s.down with
  | true =>
    have HR := Lib.hid (chg_refused (k := k) (nm := nm) (off := off) (d := d) (show refusal s k nm off d = 11 by unfold refusal; rw [if_pos hdown]) (by decide))
    clear hdown
    go_wp2
    go_ret
    rw [HR.out.1, HR.out.2]
    exact dstep_same HA.out HB0.out
  | false =>
    have HDN := Lib.hid hdown
    clear hdown
    cases hnm : named nm with
    | false =>
      have HR := Lib.hid (chg_refused (k := k) (nm := nm) (off := off) (d := d) (show refusal s k nm off d = 1 by unfold refusal; rw [HDN.out, if_neg (by simp), if_pos (.inl hnm)]) (by decide))
      have HNM := Lib.hid hnm
      clear hnm
      have HIN := Lib.hid (fun w' => HNM.out ▸ isName_any nm w' (by omega))
      go_wp2_with (go_at_call 54; refine (HIN.out _).mono ?_; rintro e w' ⟨rfl, rfl⟩)
      go_ret
      rw [HR.out.1, HR.out.2]
      exact dstep_same HA.out HB0.out
    | true =>
      have HNM := Lib.hid hnm
      clear hnm
      have HIN := Lib.hid (fun w' => HNM.out ▸ isName_any nm w' (by omega))
      cases hpl : placeB off with
      | false =>
        have hpl' : off < 0 ∨ 4194304 < off := by
          simp [placeB] at hpl
          omega
        have HR := Lib.hid (chg_refused (k := k) (nm := nm) (off := off) (d := d) (show refusal s k nm off d = 1 by unfold refusal; rw [HDN.out, if_neg (by simp), if_pos (.inr hpl')]) (by decide))
        have HPL := Lib.hid hpl
        clear hpl hpl'
        have HIP := Lib.hid (fun w' => HPL.out ▸ isPlace_any off w')
        go_wp2_with (first
          | (go_at_call 54; refine (HIN.out _).mono ?_; rintro e w' ⟨rfl, rfl⟩)
          | (go_at_call 13; refine (HIP.out _).mono ?_; rintro e w' ⟨rfl, rfl⟩))
        go_ret
        rw [HR.out.1, HR.out.2]
        exact dstep_same HA.out HB0.out
      | true =>
        have hpl' : 0 ≤ off ∧ off ≤ 4194304 := by simpa [placeB] using hpl
        have HPL := Lib.hid hpl
        clear hpl
        have HIP := Lib.hid (fun w' => HPL.out ▸ isPlace_any off w')
        obtain ⟨ofn, rfl⟩ : ∃ ofn : Nat, off = (ofn : Int) := ⟨off.toNat, by omega⟩
        have hnm32 : nm.length ≤ 32 := by
          have := HNM.out
          rw [named_eq, Bool.and_eq_true, Bool.and_eq_true, decide_eq_true_eq, decide_eq_true_eq] at this
          exact this.1.2
        have hpre : PreW ⟨k, nm, ofn, d⟩ := ⟨hk.1, hk.2, by show ofn ≤ 4194304; omega, hdl, hnm32, HD0.out⟩
        have HT := Lib.hid (takes_any g s S ⟨k, nm, ofn, d⟩ A c w0 (HA.out.below HB0.out) hpre (Nat.le_trans (files_le HOK.out) HCNT.out))
        have hrf : refusal s k nm (ofn : Int) d = takesE s.files s.room ⟨k, nm, ofn, d⟩ := by
          unfold refusal takesE
          rw [HDN.out, if_neg (by simp), if_neg (by rw [HNM.out]; simp; omega), Int.toNat_natCast]
        have HRF := Lib.hid hrf
        clear hrf
        go_wp2_with (first
          | (go_at_call 54; refine (HIN.out _).mono ?_; rintro e w' ⟨rfl, rfl⟩)
          | (go_at_call 13; refine (HIP.out _).mono ?_; rintro e w' ⟨rfl, rfl⟩)
          | fail)
        refine HT.out.mono ?_
        rintro e w1 ⟨rfl, hb1⟩
        have hb01 : Below w.heap.size w w1 := By.ext HB0.out hb1
        have HB1 := Lib.hid hb01
        have HBX := Lib.hid hb1
        clear hb1 hb01 HT hx0 hx1 hx2 hx3
        by_cases htk : takesE s.files s.room ⟨k, nm, ofn, d⟩ = 0
        · have HTK := Lib.hid htk
          rw [htk]
          clear htk
          have hrow1 := (HB1.out.block g hlg).trans HW.out.row
          have HBN := Lib.hid (burn_any g s.fuse s.down _ w1 hrow1 rfl rfl HOK.out.fuse.1 HOK.out.fuse.2)
          have HROW1 := Lib.hid hrow1
          clear hrow1
          go_wp2_with fail
          refine HBN.out.mono ?_
          rintro e w2 ⟨rfl, hrow2, hk2, hz2⟩
          have HROW2 := Lib.hid hrow2
          have HK2 := Lib.hid hk2
          have HZ2 := Lib.hid hz2
          clear hrow2 hk2 hz2 HBN
          have HS1 := Lib.hid (show (burnt s).sure = s.sure ∧ (burnt s).unsure = s.unsure ∧ (burnt s).room = s.room ∧ (burnt s).Ok from burnt_ok HOK.out)
          have HD2 := Lib.hid (show DiskW w2 g (burnt s) S bm sm pb ps v from HW.out.setRow (fun b hb hs => (HK2.out.block b (Nat.lt_of_lt_of_le (HW.out.lt b hs) HB1.out.size) hb).trans (HB1.out.block b (HW.out.lt b hs))) (Nat.le_trans HB1.out.size HK2.out.size) HS1.out.1 HS1.out.2.1 HS1.out.2.2.2 (by rw [← burnt_row]; exact HROW2.out))
          have HK := Lib.hid (show Kept S w w2 from (Kept.of_below HB1.out).step HK2.out (fun b _ e => e ▸ HW.out.subg))
          by_cases hfu : s.fuse = 1
          · have HE := Lib.hid (chg_burnt (HRF.out.trans HTK.out) hfu)
            rw [if_pos hfu]
            clear hfu
            go_wp2
            go_ret
            rw [HE.out.1, HE.out.2]
            exact ⟨rfl, S, ⟨_, _, _, _, _, HD2.out⟩, fun b hb => .inl hb, HK.out⟩
          · have HE := Lib.hid (chg_done (HRF.out.trans HTK.out) hfu)
            rw [if_neg hfu]
            clear hfu
            have hgx2 : w2.heap[w.heap.size]? = some (.cells #[.int .i64 (k : Nat), .string (str nm), .int .i64 (ofn : Int), .slice A d.length c] tWrite (0, 0)) := by
              have hx := HXR.out
              have hl1 := row_lt hx
              have h1 := (HBX.out.block _ hl1).trans hx
              exact (HK2.out.block _ (row_lt h1) (by omega)).trans h1
            have hx0 : w2.cell? ⟨w.heap.size, 0, none⟩ = some (.int .i64 (k : Nat)) := by rw [cell_of_row w2 _ 0 _ _ _ hgx2]; rfl
            have hx1 : w2.cell? ⟨w.heap.size, 1, none⟩ = some (.string (str nm)) := by rw [cell_of_row w2 _ 1 _ _ _ hgx2]; rfl
            have hx2 : w2.cell? ⟨w.heap.size, 2, none⟩ = some (.int .i64 (ofn : Int)) := by rw [cell_of_row w2 _ 2 _ _ _ hgx2]; rfl
            have hx3 : w2.cell? ⟨w.heap.size, 3, none⟩ = some (.slice A d.length c) := by rw [cell_of_row w2 _ 3 _ _ _ hgx2]; rfl
            have hli : Lies w2 w2.heap.size A d := (HD.out.keep (S' := SD) (fun b hb => (HK2.out.block b (Nat.lt_of_lt_of_le (HS.out b hb).2 HB1.out.size) (HS.out b hb).1).trans (HB1.out.block b (HS.out b hb).2)) (fun _ h => h)).lies (fun b hb => by have := (HS.out b hb).2; have := HB1.out.size; have := HK2.out.size; omega)
            have HLI := Lib.hid hli
            have HGX2 := Lib.hid hgx2
            clear hli hgx2
            go_wp2_with fail
            refine (bclone_any A d.length c w2.heap.size d rfl w2 HLI.out (Nat.le_refl _) hdl).mono ?_
            rintro e w3 ⟨v3, rfl, ho3, hb3⟩
            obtain ⟨A3, c3, rfl, hc3, _, _, _, _⟩ := ho3.form
            have hd3 := lies8 ho3
            have hgx3 := (hb3.block _ (row_lt HGX2.out)).trans HGX2.out
            have HGX3 := Lib.hid hgx3
            have HB3 := Lib.hid hb3
            have HD3 := Lib.hid hd3
            have HC3 := Lib.hid hc3
            have hy0 : w3.cell? ⟨w.heap.size, 0, none⟩ = some (.int .i64 (k : Nat)) := by rw [cell_of_row w3 _ 0 _ _ _ hgx3]; rfl
            have hy3 : w3.cell? ⟨w.heap.size, 3, none⟩ = some (.slice A d.length c) := by rw [cell_of_row w3 _ 3 _ _ _ hgx3]; rfl
            have hyf : w3.frozen? ⟨w.heap.size, 3, none⟩ = false := frozen_of_row w3 _ 3 _ _ hgx3
            clear hgx3 hb3 hd3 hc3 ho3 hx0 hx1 hx2 hx3
            go_upto_region 13 with fail
            have HOX := Lib.hid (ok_of_takes (up_all HOK.out.up) (fit_all HOK.out.fit HOK.out.un) HOK.out.room.2 hpre HTK.out)
            have hbx4 := heap_setCell_same w3 w.heap.size 3 _ _ (.slice A3 d.length c3) HGX3.out
            have HGX4 := Lib.hid (show (w3.setCell ⟨w.heap.size, 3, none⟩ (.slice A3 d.length c3)).heap[w.heap.size]? = some (.cells #[.int .i64 (k : Nat), .string (str nm), .int .i64 (ofn : Int), .slice A3 d.length c3] tWrite (0, 0)) from hbx4)
            have ho4 : ∀ b, b ≠ w.heap.size → (w3.setCell ⟨w.heap.size, 3, none⟩ (.slice A3 d.length c3)).heap[b]? = w3.heap[b]? := fun b hb => heap_setCell_other w3 ⟨w.heap.size, 3, none⟩ b _ hb
            have HD4 := Lib.hid (show DiskW (w3.setCell ⟨w.heap.size, 3, none⟩ (.slice A3 d.length c3)) g (burnt s) S bm sm pb ps v from HD2.out.keep (fun b hb => (ho4 b (Nat.ne_of_lt (HW.out.lt b hb))).trans (HB3.out.block b (HD2.out.lt b hb))) (by rw [size_setCell']; exact HB3.out.size))
            have HK4 := Lib.hid (show Kept S w (w3.setCell ⟨w.heap.size, 3, none⟩ (.slice A3 d.length c3)) from (HK.out.trans (Kept.of_below HB3.out)).setCell (p := ⟨w.heap.size, 3, none⟩) (fun h => absurd h (Nat.lt_irrefl _)) _)
            have HL4 := Lib.hid (show LiesS (w3.setCell ⟨w.heap.size, 3, none⟩ (.slice A3 d.length c3)) (fun b => w.heap.size ≤ b ∧ U8 (w3.setCell ⟨w.heap.size, 3, none⟩ (.slice A3 d.length c3)) b ∧ b < w3.heap.size) A3 d from HD3.out.keep (fun b hb => ho4 b (by have h1 := hb.1; have h2 := row_lt HGX2.out; omega)) (fun b hb => by
              have h1 := hb.1
              have h2 := row_lt HGX2.out
              exact ⟨by omega, u8_keep hb.2.2 (ho4 b (by omega)), hb.2.1⟩))
            have hz4 : (w3.setCell ⟨w.heap.size, 3, none⟩ (.slice A3 d.length c3)).heap.size = w3.heap.size := size_setCell' _ _ _
            have HZ4 := Lib.hid hz4
            clear hbx4 ho4 hz4 hy0 hy3 hyf
            generalize w3.setCell ⟨w.heap.size, 3, none⟩ (.slice A3 d.length c3) = w4 at *
            have hm0 : w4.cell? ⟨w.heap.size, 0, none⟩ = some (.int .i64 (k : Nat)) := by rw [cell_of_row w4 _ 0 _ _ _ HGX4.out]; rfl
            have hm1 : w4.cell? ⟨w.heap.size, 1, none⟩ = some (.string (str nm)) := by rw [cell_of_row w4 _ 1 _ _ _ HGX4.out]; rfl
            have hm2 : w4.cell? ⟨w.heap.size, 2, none⟩ = some (.int .i64 (ofn : Int)) := by rw [cell_of_row w4 _ 2 _ _ _ HGX4.out]; rfl
            have hm3 : w4.cell? ⟨w.heap.size, 3, none⟩ = some (.slice A3 d.length c3) := by rw [cell_of_row w4 _ 3 _ _ _ HGX4.out]; rfl
            have hm4 : w4.cell? ⟨g, 4, none⟩ = some v := HD4.out.cells.2.2.1
            have hlx : w.heap.size < w4.heap.size := row_lt HGX4.out
            have hlg4 : g < w4.heap.size := row_lt HD4.out.row
            obtain ⟨ac, hac, how, hda⟩ := HD4.out.un
            rw [HS1.out.2.1] at hac how hda
            have HAC := Lib.hid hac
            have HOW := Lib.hid how
            have HDA := Lib.hid hda
            have HNN := Lib.hid (show s.unsure.length ≤ 68719476736 from Nat.le_trans (Nat.le_add_left _ _) HCNT.out)
            have HVG := Lib.hid (show v.ownBlock ≠ some g from fun e => by
              obtain ⟨cur, h3⟩ := ownsRow_type how e
              rw [HD4.out.row] at h3
              injection h3 with h3
              injection h3 with _ h3
              exact tDisk_neW h3)
            clear hac how hda
            have HNC := Lib.hid (show ∀ j u, (wCells ⟨k, nm, ofn, d⟩ (A3, c3))[j]? = some u → (w4.alloc (.cells (wCells ⟨k, nm, ofn, d⟩ (A3, c3)).toArray tWrite)).drew.cell? ((⟨w4.heap.size, 0, none⟩ : Addr).add j) = some u by
              intro j u hu
              rw [plainAdd, Nat.zero_add]
              refine Eq.trans (cell_of_row (w4.alloc (.cells (wCells ⟨k, nm, ofn, d⟩ (A3, c3)).toArray tWrite)) _ j _ _ _ (heap_alloc_new w4 _)) ?_
              simpa using hu)
            have HN1 := Lib.hid (show ∀ u ∈ wCells ⟨k, nm, ofn, d⟩ (A3, c3), u.oneCell' = true by
              intro u hu
              simp only [wCells, List.mem_cons, List.not_mem_nil, or_false] at hu
              rcases hu with rfl | rfl | rfl | rfl <;> rfl)
            have HOW4 := Lib.hid (show (w4.alloc (.cells (wCells ⟨k, nm, ofn, d⟩ (A3, c3)).toArray tWrite)).drew.ownsRow 0 tWrite 4 v s.unsure.length (wRow s.unsure ac) from HOW.out.alloc _)
            have HRA := Lib.hid (show (w4.alloc (.cells (wCells ⟨k, nm, ofn, d⟩ (A3, c3)).toArray tWrite)).drew.heap[g]? = _ from (heap_alloc_old w4 _ hlg4).trans HD4.out.row)
            have HOA := Lib.hid (show ∀ b, b < w4.heap.size → (w4.alloc (.cells (wCells ⟨k, nm, ofn, d⟩ (A3, c3)).toArray tWrite)).drew.heap[b]? = w4.heap[b]? from fun b hb => heap_alloc_old w4 _ hb)
            have HKA := Lib.hid (show Kept S w (w4.alloc (.cells (wCells ⟨k, nm, ofn, d⟩ (A3, c3)).toArray tWrite)).drew from (HK4.out.alloc _).drew)
            go_cut [3] (fun s3 wx => s3 = .pointer (some ⟨w.heap.size, 0, none⟩) ∧ ChgMid g bm (fsize (burnt s).files) sm (fsize (burnt s).sure) (burnt s).room (burnt s).fuse (burnt s).down S v (s.unsure ++ [⟨k, nm, ofn, d⟩]) w w4 wx)
            case first =>
              go_region_law (refine step_appW rfl (.tmp 42) (.tmp 44) rfl 0 v s.unsure.length (wRow s.unsure ac) rfl HOW4.out ⟨w4.heap.size, 0, none⟩ rfl (wCells ⟨k, nm, ofn, d⟩ (A3, c3)) rfl HNC.out HN1.out HNN.out (Nat.zero_le _) ?_; intro v5 w5 ho5 hg5 hv5
                             obtain ⟨A5, c5, rfl⟩ := ownsRow_form ho5
                             have hr5 := (hg5.block g (row_lt HRA.out) (fun e => HVG.out e.symm)).trans HRA.out
                             have hc5 : w5.cell? ⟨g, 4, none⟩ = some v := by rw [cell_of_row w5 g 4 _ _ _ hr5]; rfl
                             have hf5 : w5.frozen? ⟨g, 4, none⟩ = false := frozen_of_row w5 g 4 _ _ hr5
                             have HO5 := Lib.hid ho5
                             have HG5 := Lib.hid (show (w4.alloc (.cells (wCells ⟨k, nm, ofn, d⟩ (A3, c3)).toArray tWrite)).drew.grownBy w5 v.ownBlock from hg5)
                             have HV5 := Lib.hid (show ∀ b, (Value.slice A5 (s.unsure.length + 1) c5).ownBlock = some b → v.ownBlock = some b ∨ (w4.alloc (.cells (wCells ⟨k, nm, ofn, d⟩ (A3, c3)).toArray tWrite)).drew.heap.size ≤ b from hv5)
                             have HR5 := Lib.hid hr5
                             clear ho5 hg5 hv5 hr5)
              all_goals
                go_wp2
                go_meet
                have hz5 := HG5.out.size
                have hza : (w4.alloc (.cells (wCells ⟨k, nm, ofn, d⟩ (A3, c3)).toArray tWrite)).drew.heap.size = w4.heap.size + 1 := by show (w4.alloc _).heap.size = _; simp
                rw [hza] at hz5
                have h56 : ∀ b, b < w4.heap.size → b ≠ g → v.ownBlock ≠ some b → (w5.setCell ⟨g, 4, none⟩ (.slice A5 (s.unsure.length + 1) c5)).heap[b]? = w4.heap[b]? := fun b hb hbg hbv => (heap_setCell_other w5 ⟨g, 4, none⟩ b _ hbg).trans ((HG5.out.block b (by rw [hza]; omega) (fun e => hbv e.symm)).trans (HOA.out b hb))
                have hg8 : ∀ b, U8 w4 b → b ≠ g := by
                  rintro b ⟨cs, fr, hb⟩ e
                  rw [e, HD4.out.row] at hb
                  injection hb with hb
                  injection hb with _ hb
                  exact tDisk_ne8 hb
                have hv8 : ∀ b, U8 w4 b → v.ownBlock ≠ some b := fun b hb e => u8_ne HOW.out hb e.symm
                have hvb : ∀ b, (Value.slice A5 (s.unsure.length + 1) c5).ownBlock = some b → v.ownBlock = some b ∨ w4.heap.size + 1 ≤ b := fun b hb => by have := HV5.out b hb; rwa [hza] at this
                refine ⟨rfl, .slice A5 (s.unsure.length + 1) c5, heap_setCell_same w5 g 4 _ _ _ HR5.out, ?_, ?_, h56, ?_, ?_⟩
                · refine WsAt.snoc (S := fun b => S b ∧ U8 w4 b) ?_ ?_ HAC.out HDA.out (ownsRow_keep HO5.out (fun b hb => heap_setCell_other w5 ⟨g, 4, none⟩ b _ ?_)) HC3.out (HL4.out.keep (fun b hb => h56 b ?_ (hg8 b hb.2.1) (hv8 b hb.2.1)) (fun b hb => ⟨.inr hb.1, u8_keep hb.2.1 (h56 b ?_ (hg8 b hb.2.1) (hv8 b hb.2.1))⟩))
                  · intro b hb
                    exact h56 b (HD4.out.lt b hb.1) (hg8 b hb.2) (hv8 b hb.2)
                  · intro b hb
                    exact ⟨.inl hb.1, u8_keep hb.2 (h56 b (HD4.out.lt b hb.1) (hg8 b hb.2) (hv8 b hb.2))⟩
                  · show b ≠ g
                    rintro rfl
                    rcases hvb b hb with h | h
                    · exact HVG.out h
                    · omega
                  · have := HZ4.out
                    have := hb.2.2
                    omega
                  · have := HZ4.out
                    have := hb.2.2
                    omega
                · intro b hb
                  rcases hvb b hb with h | h
                  · exact .inl (HD4.out.subv b h)
                  · exact .inr (by omega)
                · rw [size_setCell']
                  omega
                · refine ((HKA.out).step (Kept.of_grown (M := fun b => v.ownBlock = some b) HG5.out (fun b e _ => e)) (fun b _ e => HD4.out.subv b e)).setCell (p := ⟨g, 4, none⟩) (fun _ => HD4.out.subg) _
            obtain ⟨rfl, hmid⟩ := hcut
            obtain ⟨w5, rfl⟩ : ∃ w5, w5 = wc := ⟨_, rfl⟩
            obtain ⟨v5, hr5, hu5, hv5, ho5, hz5, hk5⟩ := hmid
            have hgw : g < w.heap.size := hlg
            have hvlt : ∀ b, v.ownBlock = some b → b < w.heap.size := fun b hb => HW.out.lt b (HW.out.subv b hb)
            have hbx5 : w5.heap[w.heap.size]? = some (.cells #[.int .i64 (k : Nat), .string (str nm), .int .i64 (ofn : Int), .slice A3 d.length c3] tWrite (0, 0)) := (ho5 _ hlx (Nat.ne_of_gt hgw) (fun e => Nat.lt_irrefl _ (hvlt _ e))).trans HGX4.out
            have hfg : ∀ q, foot bm (burnt s).files pb q → q ≠ g := fun q hq e => foot_map HD4.out.cur hq (e ▸ HD4.out.row)
            have hsg : ∀ q, foot sm (burnt s).sure ps q → q ≠ g := fun q hq e => foot_map HD4.out.sure hq (e ▸ HD4.out.row)
            have hvm : ∀ q, v.ownBlock = some q → ∃ cur, w4.heap[q]? = some (.cells cur tWrite (0, 0)) := fun q hq => ownsRow_type HOW.out hq
            have hfv : ∀ q, foot bm (burnt s).files pb q → v.ownBlock ≠ some q := fun q hq e => by
              obtain ⟨cur, h⟩ := hvm q e
              exact foot_map HD4.out.cur hq h
            have hsv : ∀ q, foot sm (burnt s).sure ps q → v.ownBlock ≠ some q := fun q hq e => by
              obtain ⟨cur, h⟩ := hvm q e
              exact foot_map HD4.out.sure hq h
            have hf5 : FilesAt w5 bm (burnt s).files pb := HD4.out.cur.keep (fun q hq => ho5 q (HD4.out.cur.lt hq) (hfg q hq) (hfv q hq))
            have hs5 : FilesAt w5 sm (burnt s).sure ps := HD4.out.sure.keep (fun q hq => ho5 q (HD4.out.sure.lt hq) (hsg q hq) (hsv q hq))
            have hg8 : ∀ b, U8 w4 b → b ≠ g := by
              rintro b ⟨cs, fr, hb⟩ e
              rw [e, HD4.out.row] at hb
              injection hb with hb
              injection hb with _ hb
              exact tDisk_ne8 hb
            have hv8 : ∀ b, U8 w4 b → v.ownBlock ≠ some b := fun b hb e => u8_ne HOW.out hb e.symm
            have hl5 : LiesS w5 (fun b => b ≠ g ∧ b < w5.heap.size) A3 d := HL4.out.keep (fun b hb => ho5 b (by have h1 := HZ4.out; have h2 := hb.2.2; omega) (hg8 b hb.2.1) (hv8 b hb.2.1)) (fun b hb => ⟨hg8 b hb.2.1, by have h1 := HZ4.out; have h2 := hb.2.2; omega⟩)
            have hfe : (burnt s).files = s.files := by unfold DS.files; rw [HS1.out.1, HS1.out.2.1]
            have hlen : (burnt s).files.length ≤ 68719476736 := by rw [hfe]; exact Nat.le_trans (files_le HOK.out) HCNT.out
            have hupf : Up (burnt s).files := by rw [hfe]; exact up_all HOK.out.up
            have hfitf : Fit (burnt s).files := by rw [hfe]; exact fit_all HOK.out.fit HOK.out.un
            have hdo := fdo_any g 0 (diskC bm (fsize (burnt s).files) sm (fsize (burnt s).sure) v5 (burnt s).room (burnt s).fuse (burnt s).down) tDisk bm (burnt s).files pb ⟨k, nm, ofn, d⟩ A3 c3 w5.drew hr5 ⟨rfl, rfl⟩ (hf5.keep (fun _ _ => rfl)) hupf hfitf hlen HOX.out HC3.out (fun b => b ≠ g ∧ b < w5.heap.size) (fun b hb => hb) hl5
            unfold wV at hdo
            have HDO := Lib.hid hdo
            have HR5 := Lib.hid hr5
            have HU5 := Lib.hid hu5
            have HV5 := Lib.hid hv5
            have HK5 := Lib.hid hk5
            have HSR5 := Lib.hid hs5
            have HF5 := Lib.hid hf5
            have HFE := Lib.hid hfe
            have hn0 : w5.cell? ⟨w.heap.size, 0, none⟩ = some (.int .i64 (k : Nat)) := by rw [cell_of_row w5 _ 0 _ _ _ hbx5]; rfl
            have hn1 : w5.cell? ⟨w.heap.size, 1, none⟩ = some (.string (str nm)) := by rw [cell_of_row w5 _ 1 _ _ _ hbx5]; rfl
            have hn2 : w5.cell? ⟨w.heap.size, 2, none⟩ = some (.int .i64 (ofn : Int)) := by rw [cell_of_row w5 _ 2 _ _ _ hbx5]; rfl
            have hn3 : w5.cell? ⟨w.heap.size, 3, none⟩ = some (.slice A3 d.length c3) := by rw [cell_of_row w5 _ 3 _ _ _ hbx5]; rfl
            clear hr5 hu5 hv5 hk5 hs5 hf5 hfe ho5 hbx5 hfg hsg hvm hfv hsv hg8 hv8 hl5 hlen hupf hfitf hdo hm0 hm1 hm2 hm3 hm4
            go_wp2
            go_still_tail 4, (by kernel_rfl)
            change wpList _ _ _ _ _ w5.drew
            go_wp2_with fail
            refine HDO.out.mono ?_
            rintro e w6 ⟨rfl, hdid⟩
            have HDI := Lib.hid hdid
            clear hdid HDO
            go_wp2
            go_ret
            rw [HE.out.1, HE.out.2, Int.toNat_natCast]
            rw [← HS1.out.2.1]
            exact change_end HOX.out HS1.out.2.2.2 HW.out.lt HD4.out.subg HD4.out.subc HD4.out.subs HD4.out.sep HR5.out (HS1.out.2.1.symm ▸ HU5.out) HV5.out HF5.out HSR5.out HK5.out HDI.out
        · have HR := Lib.hid (chg_refused (k := k) (nm := nm) (off := (ofn : Int)) (d := d) HRF.out htk)
          have dn : (takesE s.files s.room ⟨k, nm, ofn, d⟩ != 0) = true := by simpa using htk
          clear htk
          go_wp2
          go_ret
          rw [HR.out.1, HR.out.2]
          exact dstep_same HA.out HB1.out
end Go.Proofs.YtnjifhbooikdbaaGreatDoor.Dk
