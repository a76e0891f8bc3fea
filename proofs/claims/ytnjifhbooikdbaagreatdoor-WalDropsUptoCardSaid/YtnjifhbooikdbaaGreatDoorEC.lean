/- Package disk's Sync, as a contract of a call. | Package disk's Fall, as a contract of a call. -/
import Derived.Test.YtnjifhbooikdbaaGreatDoorDkM
import Derived.Test.YtnjifhbooikdbaaGreatDoorDkR
/-! Package disk's Sync, as a contract of a call. -/
namespace Go.Proofs.YtnjifhbooikdbaaGreatDoor.Dk
open Go.RowKit Go.Maps By Mp

/-- What is so behind settle: the files that are sure are others, what is seen is as it was. -/
structure Settled (w w6 : World) (g : Nat) (s : DS) (S : Nat → Prop) (bm sm : Option Nat) (pb ps : Bs → Option Nat) (G : Fs) : Prop where
  row : w6.heap[g]? = some (.cells (diskC bm (fsize s.files) sm (fsize G) (.slice none 0 0) s.room s.fuse s.down) tDisk (0, 0))
  cur : FilesAt w6 bm s.files pb
  sure : FilesAt w6 sm G ps
  sep : ∀ q, foot bm s.files pb q → foot sm G ps q → False
  sub : ∀ q, foot sm G ps q → S q ∨ w.heap.size ≤ q
  kept : Kept S w w6
theorem settled {w w5 w6 : World} {g : Nat} {s : DS} {S : Nat → Prop} {bm sm : Option Nat} {pb ps : Bs → Option Nat} {v : Value} {l : List W1} (h5 : DiskW w5 g s S bm sm pb ps v) (hk5 : Kept S w w5) (hm : SetMid g bm (fsize s.files) sm s.sure ps (.slice none 0 0) s.room s.fuse s.down l w5 w6) :
    ∃ sm' ps', Settled w w6 g s S bm sm' pb ps' (l.foldl doW s.sure) := by
  obtain ⟨sm', ps', hr, hf, hft, hk⟩ := hm
  refine ⟨sm', ps', hr, ?_, hf, ?_, ?_, ?_⟩
  · refine h5.cur.keep (fun q hq => hk.block q (h5.cur.lt hq) ?_)
    rintro (e | e)
    · exact foot_map h5.cur hq (e ▸ h5.row)
    · exact h5.sep q hq e
  · intro q hq h
    rcases hft q h with h | h
    · exact h5.sep q hq h
    · exact Nat.not_lt_of_le h (h5.cur.lt hq)
  · intro q h
    rcases hft q h with h | h
    · exact .inl (h5.subs q h)
    · exact .inr (Nat.le_trans hk5.size h)
  · refine hk5.step hk ?_
    rintro b _ (e | e)
    · exact e ▸ h5.subg
    · exact h5.subs b e
theorem synced {w w6 : World} {g : Nat} {s : DS} {S : Nat → Prop} {bm sm : Option Nat} {pb ps : Bs → Option Nat} (hok : s.Ok) (hsg : S g) (hlt : ∀ b, S b → b < w.heap.size) (hsc : ∀ q, foot bm s.files pb q → S q) (h : Settled w w6 g s S bm sm pb ps s.files) :
    DStep (.int .i64 0) g { s with sure := s.files, unsure := [] } S w (.returned (.int .i64 0)) w6 := by
  have hz := h.kept.size
  refine ⟨rfl, fun b => S b ∨ (w.heap.size ≤ b ∧ b < w6.heap.size), ⟨bm, sm, pb, ps, .slice none 0 0, ⟨h.row, h.cur, h.sure, WsAt.nil _ _ _, h.sep, .inl hsg, fun q hq => .inl (hsc q hq), fun q hq => ?_, (fun b hb => by cases hb), ?_, ?_⟩⟩, ?_, h.kept⟩
  · rcases h.sub q hq with e | e
    · exact .inl e
    · exact .inr ⟨e, h.sure.lt hq⟩
  · rintro b (e | e)
    · exact Nat.lt_of_lt_of_le (hlt b e) hz
    · exact e.2
  · exact ⟨up_all hok.up, fit_all hok.fit hok.un, (fun x hx => by cases hx), hok.room, hok.fuse⟩
  · rintro b (e | e)
    · exact .inl e
    · exact .inr e.1
set_option maxRecDepth 100000 in
set_option maxHeartbeats 2000000 in
theorem sync_any (g : Nat) (s : DS) (S : Nat → Prop) (w : World) (h : DiskAt w g s S) (hcnt : s.cnt ≤ 68719476736) :
    Calls Tryz.prog 43 #[.pointer (some ⟨g, 0, none⟩)] w (DStep (.int .i64 (synE s)) g (synS s) S w) := by
  have HA := Lib.hid h
  obtain ⟨bm, sm, pb, ps, v, h⟩ := h
  have hdn := h.down_
  have HOK := Lib.hid h.ok
  have HW := Lib.hid h
  have HCNT := Lib.hid hcnt
  have HWK := Lib.hid (works_any g s.down w hdn)
  clear h hdn hcnt
  go_enter Tryz.func43, Tryz.ntmps43
  go_wp2_with fail
  refine HWK.out.mono ?_
  rintro e w' ⟨rfl, rfl⟩
  clear HWK
  cases hdown : s.down with
  | true =>
    have HR := Lib.hid (show synE s = 11 ∧ synS s = s by unfold synE synS; rw [if_pos (.inl hdown), if_pos hdown]; exact ⟨rfl, rfl⟩)
    clear hdown
    go_wp2
    go_ret
    rw [HR.out.1, HR.out.2]
    exact dstep_same HA.out (Below.refl _ _)
  | false =>
    have HDN := Lib.hid hdown
    clear hdown
    have HBN := Lib.hid (burn_any g s.fuse s.down _ w HW.out.row rfl rfl HOK.out.fuse.1 HOK.out.fuse.2)
    go_wp2_with fail
    refine HBN.out.mono ?_
    rintro e w2 ⟨rfl, hrow2, hk2, hz2⟩
    have HROW2 := Lib.hid hrow2
    have HK2 := Lib.hid hk2
    have HZ2 := Lib.hid hz2
    clear hrow2 hk2 hz2 HBN
    have HS1 := Lib.hid (show (burnt s).sure = s.sure ∧ (burnt s).unsure = s.unsure ∧ (burnt s).room = s.room ∧ (burnt s).Ok from burnt_ok HOK.out)
    have hd2 : DiskW w2 g (burnt s) S bm sm pb ps v := HW.out.setRow (fun b hb hs => HK2.out.block b (HW.out.lt b hs) hb) HK2.out.size HS1.out.1 HS1.out.2.1 HS1.out.2.2.2 (by rw [← burnt_row]; exact HROW2.out)
    have HD2 := Lib.hid hd2
    have HK := Lib.hid (show Kept S w w2 from HK2.out.mono (fun b _ e => e ▸ HW.out.subg))
    clear hd2
    by_cases hfu : s.fuse = 1
    · have HE := Lib.hid (show synE s = 11 ∧ synS s = burnt s by unfold synE synS burns; simp [HDN.out, hfu])
      rw [if_pos hfu]
      clear hfu
      go_wp2
      go_ret
      rw [HE.out.1, HE.out.2]
      exact ⟨rfl, S, ⟨_, _, _, _, _, HD2.out⟩, fun b hb => .inl hb, HK.out⟩
    · have HE := Lib.hid (show synE s = 0 ∧ synS s = { burnt s with sure := s.files, unsure := [] } by unfold synE synS burns; simp [HDN.out, hfu])
      rw [if_neg hfu]
      clear hfu
      have hfe : (burnt s).files = s.files := by unfold DS.files; rw [HS1.out.1, HS1.out.2.1]
      have hc4 : w2.cell? ⟨g, 4, none⟩ = some v := HD2.out.cells.2.2.1
      obtain ⟨A, c, hv, _⟩ := HD2.out.un.form
      have HST := Lib.hid (settle_any g bm (fsize (burnt s).files) sm (burnt s).sure ps v (burnt s).room (burnt s).fuse (burnt s).down v (burnt s).unsure w2 HD2.out.row HD2.out.sure HS1.out.2.2.2.up HS1.out.2.2.2.fit
        (HD2.out.un.keep (fun _ _ => rfl) (fun _ _ => rfl) (fun b hb => hb.2)) HS1.out.2.2.2.un (by rw [HS1.out.1, HS1.out.2.1]; exact HCNT.out))
      have HFE := Lib.hid hfe
      clear hfe
      have HV := Lib.hid hv
      subst hv
      go_wp2_with fail
      refine HST.out.mono ?_
      rintro e w6 ⟨rfl, hmid⟩
      have HM := Lib.hid hmid
      clear hmid HST
      go_wp2
      go_ret
      rw [HE.out.1, HE.out.2]
      obtain ⟨sm', ps', hset⟩ := settled HD2.out HK.out HM.out
      rw [← HFE.out]
      exact synced HS1.out.2.2.2 HD2.out.subg HW.out.lt HD2.out.subc hset
end Go.Proofs.YtnjifhbooikdbaaGreatDoor.Dk

/-! Package disk's Fall, as a contract of a call. -/
namespace Go.Proofs.YtnjifhbooikdbaaGreatDoor.Dk
open Go.RowKit Go.Maps By Mp

theorem staying_mem {mask : Nat} : ∀ {l : List W1} {k : Nat} {x : W1}, x ∈ staying mask k l → x ∈ l
  | [], _, _, h => h
  | y :: l, k, x, h => by
    unfold staying at h
    split at h
    · rcases List.mem_cons.1 h with h | h
      · rw [h]; exact .head _
      · exact .tail _ (staying_mem h)
    · exact .tail _ (staying_mem h)
theorem tornR_ok {t : Int} : ∀ {l : List W1}, (∀ x ∈ l, OkW x) → ∀ x ∈ tornR t l, OkW x
  | [], _, _, h => by cases h
  | y :: l, hok, x, h => by
    unfold tornR at h
    split at h
    · rcases List.mem_cons.1 h with h | h
      · have hy := hok y (by simp)
        rw [h]
        split
        · exact ⟨hy.1, hy.2.1, by have := hy.2.2.1; simp only [List.length_take]; omega, hy.2.2.2⟩
        · exact hy
      · exact hok x (by simp [h])
    · rcases List.mem_cons.1 h with h | h
      · rw [h]; exact hok y (by simp)
      · exact tornR_ok (fun z hz => hok z (by simp [hz])) x h
theorem torn_ok {t : Int} {l : List W1} (h : ∀ x ∈ l, OkW x) : ∀ x ∈ torn t l, OkW x := by
  intro x hx
  unfold torn at hx
  exact tornR_ok (l := l.reverse) (fun y hy => h y (by simpa using hy)) x (by simpa using hx)
theorem falS_ok {s : DS} (h : s.Ok) (mask : Nat) (t : Int) : (falS s mask t).Ok :=
  ⟨up_all h.up, fit_all h.fit (torn_ok (fun x hx => h.un x (staying_mem hx))), (fun x hx => by cases hx), h.room, ⟨Int.le_refl _, show (0 : Int) ≤ 9223372036854775807 by omega⟩⟩
theorem fallen {w w6 w8 : World} {g : Nat} {s : DS} {S : Nat → Prop} {bm sm bn : Option Nat} {pb ps pn : Bs → Option Nat} {G : Fs} (hsg : S g) (hlt : ∀ b, S b → b < w.heap.size) (h : Settled w w6 g s S bm sm pb ps G) (hok : ({ sure := G, unsure := [], room := s.room, fuse := 0, down := false } : DS).Ok)
    (hf : FilesAt w8 bn G pn) (hft : ∀ q, foot bn G pn q → w6.heap.size ≤ q) (hrow : w8.heap[g]? = some (.cells (diskC bn (fsize G) sm (fsize G) (.slice none 0 0) s.room 0 false) tDisk (0, 0))) (hk : Kept (fun b => b = g) w6 w8) :
    DStep (.int .i64 0) g { sure := G, unsure := [], room := s.room, fuse := 0, down := false } S w (.returned (.int .i64 0)) w8 := by
  have hz := h.kept.size
  have hz2 := hk.size
  refine ⟨rfl, fun b => S b ∨ (w.heap.size ≤ b ∧ b < w8.heap.size), ⟨bn, sm, pn, ps, .slice none 0 0, ⟨hrow, hf, ?_, WsAt.nil _ _ _, ?_, .inl hsg, ?_, ?_, (fun b hb => by cases hb), ?_, hok⟩⟩, ?_, ?_⟩
  · exact h.sure.keep (fun q hq => hk.block q (h.sure.lt hq) (fun e => foot_map h.sure hq (e ▸ h.row)))
  · intro q hq hq2
    exact Nat.not_lt_of_le (hft q hq) (h.sure.lt hq2)
  · intro q hq
    exact .inr ⟨Nat.le_trans hz (hft q hq), hf.lt hq⟩
  · intro q hq
    rcases h.sub q hq with e | e
    · exact .inl e
    · exact .inr ⟨e, Nat.lt_of_lt_of_le (h.sure.lt hq) hz2⟩
  · rintro b (e | e)
    · exact Nat.lt_of_lt_of_le (hlt b e) (Nat.le_trans hz hz2)
    · exact e.2
  · rintro b (e | e)
    · exact .inl e
    · exact .inr e.1
  · exact h.kept.step hk (fun b _ e => e ▸ hsg)
end Go.Proofs.YtnjifhbooikdbaaGreatDoor.Dk
