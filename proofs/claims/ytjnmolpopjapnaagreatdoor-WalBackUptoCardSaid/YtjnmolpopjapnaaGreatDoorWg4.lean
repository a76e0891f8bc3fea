/- scupperlaw05.whole, as a contract of a call. | Package wal: Sync on a disk that is well; Read of what is not there; as contracts of calls. | scupperlaw05: the model's next and alike, as contracts of calls, over whatever answers First, Next and Read. | A log whose files hold pieces of a list of records: what Read finds there; the law's alike of it. -/
import Derived.Test.YtjnmolpopjapnaaGreatDoorWaG
import Derived.Test.YtjnmolpopjapnaaGreatDoorSl
import Derived.Deep.CutRange
import Derived.Test.YtjnmolpopjapnaaGreatDoorWaJ
/-! scupperlaw05.whole, as a contract of a call. -/
namespace Go.Proofs.YtjnmolpopjapnaaGreatDoor.Wa
open Go.RowKit Go.Maps By Mp Dk

/-- Copies of the first k lists, in a row of the call's own. -/
def Copied (base : Nat) (w : World) (v : Value) (ls : List Bs) (k : Nat) : Prop := ∃ vs : List Value, Sl.OwnL base w v vs ∧ vs.length = k ∧ ∀ i l, i < k → ls[i]? = some l → ∃ A c, vs[i]? = some (.slice A l.length c) ∧ Own base w (.slice A l.length c) l
theorem Copied.keep {base : Nat} {w w' : World} {v : Value} {ls : List Bs} {k : Nat} (h : Copied base w v ls k) (hk : ∀ b, b < w.heap.size → w'.heap[b]? = w.heap[b]?) : Copied base w' v ls k := by
  obtain ⟨vs, h1, h2, h3⟩ := h
  refine ⟨vs, ownsRow_keep h1 (fun b hb => hk b (ownsRow_lt h1 hb).2), h2, fun i l hi hl => ?_⟩
  obtain ⟨A, c, h4, h5⟩ := h3 i l hi hl
  exact ⟨A, c, h4, ownsRow_keep h5 (fun b hb => hk b (ownsRow_lt h5 hb).2)⟩
theorem Copied.lies {base : Nat} {w : World} {A : Option Addr} {n c : Nat} {ls : List Bs} (h : Copied base w (.slice A n c) ls ls.length) : n = ls.length ∧ LiesL w w.heap.size A ls := by
  obtain ⟨vs, h1, h2, h3⟩ := h
  have hn : n = vs.length := by
    obtain ⟨A', c', e⟩ := ownsRow_form h1
    injection e
  refine ⟨by rw [hn, h2], fun hp => ?_⟩
  rcases h1.2 with ⟨hv, h0⟩ | ⟨g, cap, cur, hv, hb, hg, hnc, hm, hs, ht⟩
  · omega
  · injection hv with e1 e2 e3
    refine ⟨g, 0, e1, row_lt hg, fun j l hl => ?_⟩
    obtain ⟨Aj, cj, h4, h5⟩ := h3 j l (List.getElem?_eq_some_iff.1 hl).1 hl
    obtain ⟨A', c', e, -, -, -, hli, -⟩ := h5.form
    injection e with e4 e5 e6
    subst e4
    refine ⟨Aj, cj, ?_, hli⟩
    rw [Nat.zero_add, cell_of_row w g j _ _ _ hg]
    rw [← ht, List.getElem?_take] at h4
    split at h4
    · simpa using h4
    · cases h4
theorem Copied.far {base : Nat} {w w' : World} {v : Value} {ls : List Bs} {k : Nat} (h : Copied base w v ls k) (hk : ∀ b, base ≤ b → b < w.heap.size → w'.heap[b]? = w.heap[b]?) : Copied base w' v ls k := by
  obtain ⟨vs, h1, h2, h3⟩ := h
  refine ⟨vs, ownsRow_keep h1 (fun b hb => hk b (ownsRow_lt h1 hb).1 (ownsRow_lt h1 hb).2), h2, fun i l hi hl => ?_⟩
  obtain ⟨A, c, h4, h5⟩ := h3 i l hi hl
  exact ⟨A, c, h4, ownsRow_keep h5 (fun b hb => hk b (ownsRow_lt h5 hb).1 (ownsRow_lt h5 hb).2)⟩
def okAll (ls : List Bs) : Bool := ls.all fun l => decide (l.length ≤ 65520)
theorem okAll_take {ls : List Bs} {k : Nat} (hk : k < ls.length) : okAll (ls.take (k + 1)) = (okAll (ls.take k) && decide (ls[k].length ≤ 65520)) := by
  unfold okAll
  rw [List.take_succ_eq_append_getElem hk, List.all_append]
  simp
def WholePost (ls : List Bs) (w : World) (e : Ending) (w' : World) : Prop := ∃ A c, e = .returned (.tuple #[.slice A ls.length c, .bool (okAll ls)]) ∧ Copied w.heap.size w' (.slice A ls.length c) ls ls.length ∧ Below w.heap.size w w'
set_option maxRecDepth 100000 in
set_option maxHeartbeats 4000000 in
theorem whole_any (A : Option Addr) (c : Nat) (ls : List Bs) (w : World) (hr : LiesL w w.heap.size A ls) (hn : ls.length ≤ 1048576) (hm : ∀ l ∈ ls, l.length ≤ 140737488355328) :
    Calls Tryz.prog 8 #[.slice A ls.length c] w (WholePost ls w) := by
  have HR := Lib.hid hr
  have HM := Lib.hid hm
  clear hr hm
  go_enter Tryz.func8, Tryz.ntmps8
  go_wp2
  go_loopw [4, 5, 6] (fun o b i wr => ∃ k : Nat, k ≤ ls.length ∧ i = .int .i64 (k : Int) ∧ b = .bool (okAll (ls.take k)) ∧ Copied w.heap.size wr o ls k ∧ Below w.heap.size w wr) (fun _ _ i _ => ls.length - (intOf i).toNat)
  case atStart => exact ⟨0, Nat.zero_le _, rfl, rfl, ⟨[], World.ownsRow_nil w _ _ 1, rfl, fun i l hi _ => by omega⟩, Below.refl _ _⟩
  case round =>
    obtain ⟨k, hk, rfl, rfl, hcp, hb⟩ := hrel
    have HB := Lib.hid hb
    have HCP := Lib.hid hcp
    obtain ⟨vs, h1, h2, h3⟩ := hcp
    obtain ⟨Ao, co, hv⟩ := ownsRow_form h1
    rw [h2] at hv
    subst hv
    have HOL := Lib.hid h1
    have HVL := Lib.hid h2
    have HVS := Lib.hid h3
    clear hb h1 h2 h3 HCP
    by_cases hlt : k < ls.length
    · obtain ⟨g, o, Aj, cj, rfl, hg, hc, hl⟩ := HR.out.at_ hlt
      have hc' : wr.cell? ⟨g, o + k, none⟩ = some (.slice Aj (ls[k]).length cj) := (HB.out.cell hg).trans hc
      have hca : (wr.alloc (.cells #[] 5)).cell? ⟨g, o + k, none⟩ = some (.slice Aj (ls[k]).length cj) := (World.cell?_alloc_lt wr _ ⟨g, o + k, none⟩ (Nat.lt_of_lt_of_le hg HB.out.size)).trans hc'
      have HL := Lib.hid ((hl.below HB.out).more HB.out.size)
      have HOT := Lib.hid (okAll_take hlt)
      have HML := Lib.hid (HM.out _ (List.getElem_mem hlt))
      have HLK := Lib.hid (show ls[k]? = some ls[k] from List.getElem?_eq_getElem hlt)
      obtain ⟨r, hr⟩ : ∃ r, r = ls[k] := ⟨_, rfl⟩
      rw [← hr] at hc' hca HL HOT HML HLK
      clear hc hl hr
      obtain ⟨rl, hrl⟩ : ∃ rl, rl = r.length := ⟨_, rfl⟩
      rw [← hrl] at hc' hca HOT HML
      have HRL := Lib.hid hrl
      clear hrl
      obtain ⟨ob, hob⟩ : ∃ ob, ob = okAll (ls.take k) := ⟨_, rfl⟩
      rw [← hob] at HOT ⊢
      clear hob
      go_upto_region 6 with fail
      go_cut [5] from 13 to 21 (fun b wx => b = .bool (ob && decide (rl ≤ 65520)) ∧ wx = wr)
      case first =>
        cases ob with
        | false =>
          go_wp2
          go_meet
          exact ⟨rfl, rfl⟩
        | true =>
          by_cases h6 : rl ≤ 65520
          · have h6i : (rl : Int) ≤ 65520 := by omega
            go_wp2
            go_meet
            exact ⟨by rw [decide_eq_true h6]; rfl, rfl⟩
          · have h6i : ¬ ((rl : Int) ≤ 65520) := by omega
            go_wp2
            go_meet
            exact ⟨by rw [decide_eq_false h6]; rfl, rfl⟩
      obtain ⟨rfl, hwc⟩ := hcut
      subst hwc
      clear hc'
      go_wp2_with (first
        | (at_builtin; refine wpList_app rfl (.tmp 23) (.tmp 27) rfl rfl (By.Own.made wc wc.heap.size #[] 0 (Nat.le_refl _) (by decide) rfl) rfl HRL.out ((HL.out.alloc (Nat.le_refl _) _)) (by have := HML.out; rw [HRL.out] at this; simp; omega) (by simp) ?_; intro v2 w2 ho2 hb2 hg2
           obtain ⟨A2, c2, hv2, -⟩ := ho2.form
           subst hv2
           have hz2 : wc.heap.size ≤ w2.heap.size := by have := hg2.size; rw [World.size_alloc] at this; omega
           have HO2 := Lib.hid ho2
           have HB2 := Lib.hid (show Below wc.heap.size wc w2 from ((Below.refl _ _).alloc (Nat.le_refl _) (.cells #[] 5)).trans hb2)
           have HOL2 := Lib.hid (show Sl.OwnL w.heap.size w2 (.slice Ao k co) vs from ownsRow_keep HOL.out (fun b hb => HB2.out.block b (ownsRow_lt HOL.out hb).2))
           clear ho2 hb2 hg2)
        | (at_builtin; refine Sl.wpList_push rfl (.tmp 22) (.tmp 29) rfl rfl (A := A2) (m := r.length) (c := c2) HOL2.out rfl (by have := HVL.out; omega) (by have := HB.out.size; omega) ?_; intro v3 w3 ho3 hg3
           have HO3 := Lib.hid ho3
           have HG3 := Lib.hid hg3
           clear ho3 hg3)
        | fail)
      have hz2 := HB2.out.size
      have hz3 := HG3.out.size
      rw [World.size_alloc] at hz3
      have hkp : ∀ b, b < w2.heap.size → (Value.slice Ao k co).ownBlock ≠ some b → w3.heap[b]? = w2.heap[b]? := fun b hb hne => (HG3.out.block b (by rw [World.size_alloc]; omega) (fun e => hne e.symm)).trans (heap_alloc_old w2 _ hb)
      have hob : ∀ {B n' : Nat} {v' : Value} {l : Bs} {b : Nat}, Own B w2 v' l → v'.ownBlock = some b → (Value.slice Ao k co).ownBlock ≠ some b := fun h1 h2 e => by
        obtain ⟨c1, e1⟩ := ownsRow_type h1 h2
        obtain ⟨c2, e2⟩ := ownsRow_type HOL2.out e
        rw [e1] at e2
        injection e2 with e2
        injection e2 with _ e2
        exact absurd e2 (by decide)
      have hnew : Copied w.heap.size w3 v3 ls (k + 1) := by
        refine ⟨vs ++ [.slice A2 r.length c2], HO3.out, by rw [List.length_append, HVL.out]; rfl, fun i l hi hl => ?_⟩
        by_cases hik : i < k
        · obtain ⟨A', c', h4, h5⟩ := HVS.out i l hik hl
          have h6 : Own w.heap.size w2 (.slice A' l.length c') l := ownsRow_keep h5 (fun b hb => HB2.out.block b (ownsRow_lt h5 hb).2)
          exact ⟨A', c', by rw [List.getElem?_append_left (by rw [HVL.out]; exact hik)]; exact h4, ownsRow_keep h6 (fun b hb => hkp b (ownsRow_lt h6 hb).2 (hob (n' := 0) h6 hb))⟩
        · have hie : i = k := by omega
          subst hie
          rw [HLK.out] at hl
          injection hl with hl
          subst hl
          have h6 : Own w.heap.size w2 (.slice A2 r.length c2) r := ownsRow_base HO2.out HB.out.size
          refine ⟨A2, c2, ?_, ownsRow_keep h6 (fun b hb => hkp b (ownsRow_lt h6 hb).2 (hob (n' := 0) h6 hb))⟩
          rw [List.getElem?_append_right (by rw [HVL.out]; omega), HVL.out, Nat.sub_self]
          rfl
      have hbl : Below w.heap.size w w3 := (HB.out.trans ((HB2.out.mono HB.out.size).alloc (by have := HB.out.size; omega) _)).grown HG3.out (by rw [World.size_alloc]; have := HB.out.size; omega) (fun q e => (ownsRow_lt HOL2.out e).1)
      go_roundw
      case rel => exact ⟨k + 1, by omega, by go_num, by rw [HOT.out], hnew, hbl⟩
      case measure => simp [intOf]; omega
    · have hke : k = ls.length := by omega
      subst hke
      have HFIN := Lib.hid (show WholePost ls w (.returned (.tuple #[.slice Ao ls.length co, .bool (okAll ls)])) wr from by
        exact ⟨Ao, co, rfl, ⟨vs, HOL.out, HVL.out, HVS.out⟩, HB.out⟩)
      rw [List.take_length]
      go_wp2
      go_ret2
      exact HFIN.out
end Go.Proofs.YtjnmolpopjapnaaGreatDoor.Wa

/-! Package wal: Sync on a disk that is well; Read of what is not there; as contracts of calls. -/
namespace Go.Proofs.YtjnmolpopjapnaaGreatDoor.Wa
open Go.RowKit Go.Maps By Mp Dk

def calmS (F : Fs) (room : Int) : DS := ⟨F, [], room, 0, false⟩
theorem falS_calm (F : Fs) (room : Int) (m : Nat) (t : Int) : falS (calmS F room) m t = calmS F room := rfl
theorem sync_calm {s : DS} (hd : s.down = false) (hf : s.fuse = 0) : synE s = 0 ∧ synS s = calmS s.files s.room := by
  have hb : burns s = false := by unfold burns; rw [hf]; rfl
  have hu : burnt s = s := by unfold burnt; rw [if_pos hf]
  unfold synE synS calmS
  rw [hd, hb, hu]
  refine ⟨by simp, ?_⟩
  rw [if_neg (by simp), if_neg (by simp)]
  show (⟨s.files, [], s.room, s.fuse, s.down⟩ : DS) = _
  rw [hf, hd]
def SyncPost (g d : Nat) (l : List Seg) (s' : DS) (S T : Nat → Prop) (w : World) (e : Ending) (w' : World) : Prop := e = .returned (.int .i64 0) ∧ ∃ S', DiskAt w' d s' S' ∧ LogAt w' g d l false T ∧ (∀ b, T b → S' b → False) ∧ (∀ b, S' b → S b ∨ w.heap.size ≤ b) ∧ Kept (fun b => S b ∨ T b) w w'
theorem dlt' {w : World} {d : Nat} {s : DS} {S : Nat → Prop} (h : DiskAt w d s S) : (∀ b, S b → b < w.heap.size) ∧ S d ∧ s.Ok := by
  obtain ⟨bm, sm, pb, ps, v, h⟩ := h
  exact ⟨h.lt, h.subg, h.ok⟩
theorem logAt_lt {w : World} {g d : Nat} {l : List Seg} {dead : Bool} {T : Nat → Prop} (h : LogAt w g d l dead T) : (∀ b, T b → b < w.heap.size) ∧ T g := by
  obtain ⟨v, ac, h⟩ := h
  exact ⟨h.lt, h.tg⟩
set_option maxHeartbeats 2000000 in
theorem lsync_any (g d : Nat) (s : DS) (S T : Nat → Prop) (l : List Seg) (w : World) (h : LogAt w g d l false T) (hd : DiskAt w d s S) (hsep : ∀ b, T b → S b → False) (hdn : s.down = false) (hfu : s.fuse = 0) (hcnt : s.cnt ≤ 68719476736) :
    Calls Tryz.prog 11 #[.pointer (some ⟨g, 0, none⟩)] w (SyncPost g d l (calmS s.files s.room) S T w) := by
  have HWK := Lib.hid (works_any g d l false T w h)
  have hsy := sync_any d s S w hd hcnt
  rw [(sync_calm hdn hfu).1, (sync_calm hdn hfu).2] at hsy
  have HSY := Lib.hid hsy
  have HLOG := Lib.hid h
  have HSEP := Lib.hid hsep
  have hg0 : w.cell? ⟨g, 0, none⟩ = some (.pointer (some ⟨d, 0, none⟩)) := by
    obtain ⟨v, ac, h⟩ := h
    rw [cell_of_row w g 0 _ _ _ h.row]
    rfl
  clear hd hsy h hsep
  go_enter Tryz.func11, Tryz.ntmps11
  go_wp2_with fail
  refine HWK.out.mono ?_
  rintro e w' ⟨rfl, rfl⟩
  go_wp2_with fail
  refine HSY.out.mono ?_
  rintro e w2 ⟨rfl, S2, hd2, hS2, hk2⟩
  have hl2 := HLOG.out.keep (w' := w2) (fun b hb => hk2.block b ((logAt_lt HLOG.out).1 b hb) (fun e => HSEP.out b hb e)) hk2.size
  have HHE := Lib.hid (hear_any g d l false T 0 w2 hl2)
  have HD2 := Lib.hid hd2
  have HS2 := Lib.hid hS2
  have HK2 := Lib.hid hk2
  clear hd2 hS2 hk2 hl2 hg0
  go_wp2_with fail
  refine HHE.out.mono ?_
  rintro e w3 ⟨rfl, hl3, hk3⟩
  have hll := logAt_lt HLOG.out
  have hSg : ¬ S2 g := fun e => by
    rcases HS2.out g e with e | e
    · exact HSEP.out g hll.2 e
    · have := hll.1 g hll.2; omega
  have HFIN := Lib.hid (show SyncPost g d l (calmS s.files s.room) S T w (.returned (.int .i64 0)) w3 from
    ⟨rfl, S2, HD2.out.keep (fun b hb => hk3.block b ((dlt' HD2.out).1 b hb) (fun e => hSg (e ▸ hb))) hk3.size, hl3, fun b ht hs => by
      rcases HS2.out b hs with e | e
      · exact HSEP.out b ht e
      · have := hll.1 b ht; omega, HS2.out, (HK2.out.mono (M' := fun b => S b ∨ T b) (fun b _ e => .inl e)).step hk3 (fun b _ e => .inr (e ▸ hll.2))⟩)
  clear hl3 hk3
  go_wp2
  go_ret
  exact HFIN.out
set_option maxHeartbeats 2000000 in
theorem lread_old (g d i : Nat) (T : Nat → Prop) (l : List Seg) (w : World) (h : LogAt w g d l false T) (hi : i < firstS l) : Calls Tryz.prog 18 #[.pointer (some ⟨g, 0, none⟩), .int .u64 (i : Nat)] w (Ret (.tuple #[.slice none 0 0, .int .i64 13]) w) := by
  have HWK := Lib.hid (works_any g d l false T w h)
  have HFI := Lib.hid (first_any g d l false T w h)
  obtain ⟨f, hf⟩ : ∃ f, f = firstS l := ⟨_, rfl⟩
  rw [← hf] at HFI hi
  have e1 : (i : Int) < (f : Int) := by omega
  clear h hf
  go_enter Tryz.func18, Tryz.ntmps18
  go_wp2_with fail
  refine HWK.out.mono ?_
  rintro e w' ⟨rfl, rfl⟩
  go_wp2_with fail
  refine HFI.out.mono ?_
  rintro e w' ⟨rfl, rfl⟩
  go_wp2
  go_ret2
  exact ⟨rfl, rfl⟩
set_option maxHeartbeats 2000000 in
theorem lread_none (g d i : Nat) (T : Nat → Prop) (l : List Seg) (w : World) (h : LogAt w g d l false T) (hf : firstS l ≤ i) (hi : nextS l ≤ i) : Calls Tryz.prog 18 #[.pointer (some ⟨g, 0, none⟩), .int .u64 (i : Nat)] w (RetB (.tuple #[.slice none 0 0, .int .i64 8]) w) := by
  have HWK := Lib.hid (works_any g d l false T w h)
  have HFI := Lib.hid (first_any g d l false T w h)
  have HNX := Lib.hid (next_any g d l false T w h)
  obtain ⟨f, hf'⟩ : ∃ f, f = firstS l := ⟨_, rfl⟩
  obtain ⟨n, hn⟩ : ∃ n, n = nextS l := ⟨_, rfl⟩
  rw [← hf'] at HFI hf
  rw [← hn] at HNX hi
  have e1 : ¬ ((i : Int) < (f : Int)) := by omega
  have e2 : (i : Int) ≥ (n : Int) := by omega
  clear h hf' hn
  go_enter Tryz.func18, Tryz.ntmps18
  go_wp2_with fail
  refine HWK.out.mono ?_
  rintro e w' ⟨rfl, rfl⟩
  go_wp2_with fail
  refine HFI.out.mono ?_
  rintro e w' ⟨rfl, rfl⟩
  go_wp2_with fail
  refine HNX.out.mono ?_
  rintro e w1 ⟨rfl, hb1⟩
  go_wp2
  go_ret2
  exact ⟨rfl, hb1⟩
end Go.Proofs.YtjnmolpopjapnaaGreatDoor.Wa

/-! scupperlaw05: the model's next and alike, as contracts of calls, over whatever answers First, Next and Read. -/
namespace Go.Proofs.YtjnmolpopjapnaaGreatDoor.Wa
open Go.RowKit Go.Maps By Mp Dk

/-- A model in memory, of first number 1. -/
structure ModelIn (w : World) (mb : Nat) (Am : Option Addr) (cm : Nat) (recs : List Bs) : Prop where
  c0 : w.cell? ⟨mb, 0, none⟩ = some (.int .u64 1)
  c1 : w.cell? ⟨mb, 1, none⟩ = some (.slice Am recs.length cm)
  lt : mb < w.heap.size
  lies : LiesL w w.heap.size Am recs
theorem ModelIn.later {w w' : World} {mb : Nat} {Am : Option Addr} {cm : Nat} {recs : List Bs} (h : ModelIn w mb Am cm recs) (hb : Below w.heap.size w w') : ModelIn w' mb Am cm recs :=
  ⟨(hb.cell h.lt).trans h.c0, (hb.cell h.lt).trans h.c1, Nat.lt_of_lt_of_le h.lt hb.size, (h.lies.below hb).more hb.size⟩
set_option maxRecDepth 100000 in
set_option maxHeartbeats 2000000 in
theorem mnext_any (mb : Nat) (Am : Option Addr) (cm n : Nat) (recs : List Bs) (w : World) (h : ModelIn w mb Am cm recs) (hn : n = recs.length) (h1 : n ≤ 1099511627776) : Calls Tryz.prog 38 #[.pointer (some ⟨mb, 0, none⟩)] w (RetB (.int .u64 ((1 + n : Nat) : Int)) w) := by
  have c0 := h.c0
  have c1 := h.c1
  rw [← hn] at c1
  clear h hn
  have i1 : IntKind.u64.wrap (n : Int) = (n : Int) := IntWalk.u64_in _ ⟨by omega, by omega⟩
  go_enter Tryz.func38, Tryz.ntmps38
  go_upto_region 1 with fail
  go_region
  all_goals
    go_wp2
    go_ret
    exact ⟨by congr 2, (Below.refl _ _).drew⟩
theorem fun_lies {w w3 : World} {A : Option Addr} {r : Bs} (hb : Below w.heap.size w w3) (h : Lies w w.heap.size A r) : Lies w3.drew w.heap.size A r := h.below hb.drew
set_option maxRecDepth 100000 in
set_option maxHeartbeats 4000000 in
theorem alike_any (g mb : Nat) (Am : Option Addr) (cm n : Nat) (recs : List Bs) (w : World) (h : ModelIn w mb Am cm recs) (hn : n = recs.length) (h1 : n ≤ 1099511627776) (h2 : ∀ r ∈ recs, r.length ≤ 140737488355328)
    (hf : ∀ w', Below w.heap.size w w' → Calls Tryz.prog 16 #[.pointer (some ⟨g, 0, none⟩)] w' (Ret (.int .u64 1) w'))
    (hx : ∀ w', Below w.heap.size w w' → Calls Tryz.prog 14 #[.pointer (some ⟨g, 0, none⟩)] w' (RetB (.int .u64 ((1 + n : Nat) : Int)) w'))
    (hr : ∀ w' (i : Nat) (r : Bs), Below w.heap.size w w' → recs[i]? = some r → Calls Tryz.prog 18 #[.pointer (some ⟨g, 0, none⟩), .int .u64 ((1 + i : Nat) : Int)] w' (ReadOk r w'))
    (he : ∀ w', Below w.heap.size w w' → Calls Tryz.prog 18 #[.pointer (some ⟨g, 0, none⟩), .int .u64 ((1 + n : Nat) : Int)] w' (RetB (.tuple #[.slice none 0 0, .int .i64 8]) w'))
    (h0 : ∀ w', Below w.heap.size w w' → Calls Tryz.prog 18 #[.pointer (some ⟨g, 0, none⟩), .int .u64 0] w' (Ret (.tuple #[.slice none 0 0, .int .i64 13]) w')) :
    Calls Tryz.prog 13 #[.pointer (some ⟨g, 0, none⟩), .pointer (some ⟨mb, 0, none⟩)] w (RetB (.bool true) w) := by
  have HM := Lib.hid h
  have HMN := Lib.hid (fun (w' : World) (hb : Below w.heap.size w w') => mnext_any mb Am cm n recs w' (h.later hb) hn h1)
  have HF := Lib.hid hf
  have HX := Lib.hid hx
  have HR := Lib.hid hr
  have HE := Lib.hid he
  have H0 := Lib.hid h0
  have H2 := Lib.hid (And.intro hn h2)
  have HB0 := Lib.hid (show Below w.heap.size w w.drew from (Below.refl _ _).drew)
  have HMC := Lib.hid (fun (w' : World) (hb : Below w.heap.size w w') => (h.later hb).c0)
  clear h hf hx hr he h0 hn h2
  obtain ⟨nx, hnx⟩ : ∃ nx, nx = 1 + n := ⟨_, rfl⟩
  rw [← hnx] at HX HE HMN
  have hnx1 : 1 ≤ nx := by omega
  have HNX := Lib.hid hnx
  clear hnx
  have hd1 : ¬ ((nx : Int) < 1) := by omega
  have hd2 : ¬ ((1 : Int) > (nx : Int)) := by omega
  have hd3 : (decide ((nx : Int) < 1)) = false := decide_eq_false hd1
  have hd4 : (decide ((1 : Int) > (nx : Int))) = false := decide_eq_false hd2
  go_enter Tryz.func13, Tryz.ntmps13
  go_upto_region 1 with fail
  go_cut [32] from 12 to 32 (fun s32 wx => s32 = .bool false ∧ Below w.heap.size w wx)
  case first =>
    go_region_held3 (fun w' => w'.cell? ⟨mb, 0, none⟩ = some (.int .u64 1))
      (first
        | with_reducible assumption
        | exact HMC.out _ (Below.refl _ _)
        | exact HMC.out _ HB0.out
        | exact HMC.out _ HB1.out
        | exact HMC.out _ HB2.out
        | exact HMC.out _ HB3.out)
      (first
        | (go_at_call 16; first | refine (HF.out _ HB3.out).mono ?_ | refine (HF.out _ HB0.out).mono ?_
           rintro e wf ⟨rfl, rfl⟩)
        | (go_at_call 14; refine (HX.out _ HB1.out).mono ?_; rintro e w2 ⟨rfl, hb2⟩
           have HB2 := Lib.hid (show Below w.heap.size w w2 from By.ext HB1.out hb2)
           clear hb2)
        | (go_at_call 38; refine (HMN.out _ HB2.out).mono ?_; rintro e w3 ⟨rfl, hb3⟩
           have HB3 := Lib.hid (show Below w.heap.size w w3 from By.ext HB2.out hb3)
           clear hb3)
        | (go_at_call 38; refine (HMN.out _ HB0.out).mono ?_; rintro e w1 ⟨rfl, hb1⟩
           have HB1 := Lib.hid (show Below w.heap.size w w1 from By.ext HB0.out hb1)
           clear hb1)
        | fail)
    all_goals
      go_wp2
      go_meet
      exact ⟨rfl, HB3.out⟩
  obtain ⟨rfl, hbc⟩ := hcut
  have HBC := Lib.hid hbc
  clear hbc hd1 hd2 hd3 hd4
  go_wp2_with fail
  refine (HF.out _ HBC.out).mono ?_
  rintro e wf ⟨rfl, hwf⟩
  subst hwf
  go_wp2
  go_loopw [5] (fun i wr => ∃ k : Nat, k ≤ n ∧ i = .int .u64 ((1 + k : Nat) : Int) ∧ Below w.heap.size w wr) (fun i _ => n + 1 - (intOf i).toNat)
  case atStart => exact ⟨0, Nat.zero_le _, rfl, HBC.out⟩
  case round =>
    obtain ⟨k, hk, rfl, hb⟩ := hrel
    have HBR := Lib.hid hb
    clear hb
    go_wp2_with fail
    refine (HX.out _ HBR.out).mono ?_
    rintro e w2 ⟨rfl, hb2⟩
    have HB2 := Lib.hid (show Below w.heap.size w w2 from By.ext HBR.out hb2)
    clear hb2
    by_cases hlt : k < n
    · have hl1 : ((1 + k : Nat) : Int) < (nx : Int) := by have := HNX.out; omega
      obtain ⟨r, hrk⟩ : ∃ r, recs[k]? = some r := ⟨_, List.getElem?_eq_getElem (by rw [← H2.out.1]; exact hlt)⟩
      have HRK := Lib.hid hrk
      clear hrk
      go_wp2_with fail
      refine (HR.out _ k r HB2.out HRK.out).mono ?_
      rintro e w3 ⟨v3, rfl, ho3, hb3⟩
      obtain ⟨A3, c3, hv3, -, -, -, hl3, -⟩ := ho3.form
      subst hv3
      have HB3 := Lib.hid (show Below w.heap.size w w3 from By.ext HB2.out hb3)
      go_upto_region 7 with fail
      have hkr : k < recs.length := by rw [← H2.out.1]; exact hlt
      obtain ⟨ga, o, Aj, cj, hAm, hga, hcj, hlj⟩ := HM.out.lies.at_ hkr
      have hre : recs[k] = r := by have h := HRK.out; rw [List.getElem?_eq_getElem hkr] at h; exact Option.some.inj h
      rw [hre] at hcj hlj
      have m3 := HM.out.later HB3.out
      have c0 := m3.c0
      have c1 := m3.c1
      rw [hAm, ← H2.out.1] at c1
      have ce : w3.cell? ⟨ga, o + k, none⟩ = some (.slice Aj r.length cj) := (HB3.out.cell hga).trans hcj
      have t1 := run_text w3 (n := r.length) c3 rfl hl3
      have t2 := run_text w3 (n := r.length) cj rfl (hlj.below HB3.out)
      have t1d : (convert 33 9 (.slice A3 r.length c3)).run Tryz.prog w3.drew = .ok (.string (str r)) w3.drew := run_text w3.drew (n := r.length) c3 rfl (hl3.below (Below.refl _ _).drew)
      have t2d : (convert 33 9 (.slice Aj r.length cj)).run Tryz.prog w3.drew = .ok (.string (str r)) w3.drew := run_text w3.drew (n := r.length) cj rfl (fun_lies HB3.out hlj)
      have iw : IntKind.u64.wrap (1 + (k : Int) - 1) = (k : Int) := by rw [show 1 + (k : Int) - 1 = (k : Int) by omega]; exact IntWalk.u64_in _ ⟨by omega, by omega⟩
      clear m3 hre hcj hlj hl3 ho3 hb3 hAm hga
      go_region
      all_goals
        go_wp2
        go_roundw
        case rel => exact ⟨k + 1, by omega, by go_num, HB3.out.drew⟩
        case measure => simp [intOf]; omega
    · have hke : k = n := by omega
      subst hke
      have hl1 : ¬ ((1 + k : Nat) : Int) < (nx : Int) := by have := HNX.out; omega
      go_wp2_with fail
      refine (HX.out _ HB2.out).mono ?_
      rintro e w3 ⟨rfl, hb3⟩
      have HB3 := Lib.hid (show Below w.heap.size w w3 from By.ext HB2.out hb3)
      clear hb3
      go_wp2_with fail
      refine (HE.out _ HB3.out).mono ?_
      rintro e w4 ⟨rfl, hb4⟩
      have HB4 := Lib.hid (show Below w.heap.size w w4 from By.ext HB3.out hb4)
      clear hb4
      go_wp2_with fail
      refine (HF.out _ HB4.out).mono ?_
      rintro e w5 ⟨rfl, rfl⟩
      go_wp2_with fail
      refine (H0.out _ HB4.out).mono ?_
      rintro e w6 ⟨rfl, rfl⟩
      go_wp2
      go_ret
      exact ⟨rfl, HB4.out⟩
end Go.Proofs.YtjnmolpopjapnaaGreatDoor.Wa

/-! A log whose files hold pieces of a list of records: what Read finds there; the law's alike of it. -/
namespace Go.Proofs.YtjnmolpopjapnaaGreatDoor.Wa
open Go.RowKit Go.Maps By Mp Dk

theorem framesB_drop (p : List Bs) (j : Nat) : (framesB p).drop (framesB (p.take j)).length = framesB (p.drop j) := by
  have h : framesB p = framesB (p.take j) ++ framesB (p.drop j) := by rw [← framesB_app, List.take_append_drop]
  rw [h, List.drop_left']
  rfl
theorem record_at {p : List Bs} {j : Nat} (hj : j < p.length) (h6 : p[j].length ≤ 65520) : CoP.unR ((framesB p).drop (framesB (p.take j)).length) = (p[j], (CoP.frame p[j]).length, 0) := by
  rw [framesB_drop, List.drop_eq_getElem_cons hj]
  show CoP.unR (CoP.frame p[j] ++ framesB (p.drop (j + 1))) = _
  exact CoP.unR_frame _ (by omega) _
theorem endsOf_get {n : Nat} {p : List Bs} {j : Nat} (hj : j < p.length) : (endsOf n p)[j]? = some (n + (framesB (p.take (j + 1))).length) := by
  have h : endsOf n p = endsOf n (p.take j) ++ [n + (framesB (p.take (j + 1))).length] ++ endsOf (n + (framesB (p.take (j + 1))).length) (p.drop (j + 1)) := by
    rw [← endsOf_take n hj, ← endsOf_app, List.take_append_drop]
  have hl : (endsOf n (p.take j)).length = j := by rw [endsOf_length, List.length_take]; omega
  rw [h, List.append_assoc, List.getElem?_append_right (by omega), hl]
  simp
theorem start_at {sg : Seg} {p : List Bs} {j : Nat} (he : sg.ends = endsOf 0 p) (hj : j ≤ p.length) : sg.start (sg.first + j) = (framesB (p.take j)).length := by
  unfold Seg.start
  cases j with
  | zero => rw [if_pos (by omega)]; rfl
  | succ j =>
    rw [if_neg (by omega), show sg.first + (j + 1) - sg.first - 1 = j by omega, he, endsOf_get (by omega)]
    simp
def starts (P : List (List Bs)) (k : Nat) : Nat := 1 + ((P.take k).map List.length).sum
theorem starts_succ {P : List (List Bs)} {k : Nat} (hk : k < P.length) : starts P (k + 1) = starts P k + P[k].length := by
  unfold starts
  rw [List.take_succ_eq_append_getElem hk, List.map_append, List.sum_append]
  simp
  omega
theorem starts_mono {P : List (List Bs)} {a b : Nat} (h : a ≤ b) : starts P a ≤ starts P b := by
  unfold starts
  obtain ⟨c, rfl⟩ := Nat.exists_eq_add_of_le h
  have e : P.take (a + c) = P.take a ++ (P.drop a).take c := List.take_add ..
  rw [e, List.map_append, List.sum_append]
  omega
theorem flatten_len (P : List (List Bs)) (k : Nat) : (P.take k).flatten.length + 1 = starts P k := by
  unfold starts
  rw [List.length_flatten]
  omega
theorem starts_all (P : List (List Bs)) : starts P P.length = 1 + P.flatten.length := by
  have := flatten_len P P.length
  rw [List.take_length] at this
  omega
theorem flatten_get {P : List (List Bs)} {k i : Nat} (hk : k < P.length) (h1 : starts P k ≤ 1 + i) (h2 : 1 + i < starts P (k + 1)) : ∃ (h : 1 + i - starts P k < P[k].length), P.flatten[i]? = some (P[k][1 + i - starts P k]) := by
  have hs := starts_succ hk
  have hl := flatten_len P k
  have hb : 1 + i - starts P k < P[k].length := by omega
  refine ⟨hb, ?_⟩
  have e : P.flatten = (P.take k).flatten ++ (P[k] ++ (P.drop (k + 1)).flatten) := by
    conv => lhs; rw [← List.take_append_drop k P, List.flatten_append, List.drop_eq_getElem_cons hk, List.flatten_cons]
  rw [e, List.getElem?_append_right (by omega), List.getElem?_append_left (by omega), show i - (P.take k).flatten.length = 1 + i - starts P k by omega]
  exact List.getElem?_eq_getElem hb
/-- The log's segments and files hold these pieces, one behind the other. -/
structure Lays (l : List Seg) (P : List (List Bs)) (F : Fs) : Prop where
  len : l.length = P.length
  seg : ∀ (k : Nat) (s : Seg) (p : List Bs), l[k]? = some s → P[k]? = some p → s.first = starts P k ∧ s.ends = endsOf 0 p ∧ fget F s.name = some (framesB p) ∧ named s.name = true
  small : ∀ p ∈ P, ∀ r ∈ p, r.length ≤ 65520
theorem Lays.rising {l : List Seg} {P : List (List Bs)} {F : Fs} (h : Lays l P F) : Rising l := by
  intro a b s u hab hs hu
  have ha : a < P.length := by have := (List.getElem?_eq_some_iff.1 hs).1; rw [← h.len]; exact this
  have hb : b < P.length := by have := (List.getElem?_eq_some_iff.1 hu).1; rw [← h.len]; exact this
  rw [(h.seg a s _ hs (List.getElem?_eq_getElem ha)).1, (h.seg b u _ hu (List.getElem?_eq_getElem hb)).1]
  exact starts_mono hab
theorem Lays.first {l : List Seg} {P : List (List Bs)} {F : Fs} (h : Lays l P F) : firstS l = 1 := by
  unfold firstS
  cases l with
  | nil => rfl
  | cons s r =>
    have hp : 0 < P.length := by rw [← h.len]; simp
    show s.first = 1
    rw [(h.seg 0 s _ rfl (List.getElem?_eq_getElem hp)).1]
    rfl
theorem Lays.next {l : List Seg} {P : List (List Bs)} {F : Fs} (h : Lays l P F) : nextS l = 1 + P.flatten.length := by
  rw [← starts_all]
  unfold nextS
  rw [List.getLast?_eq_getElem?]
  cases hc : l[l.length - 1]? with
  | none =>
    have h0 : l.length = 0 := by rw [List.getElem?_eq_none_iff] at hc; omega
    rw [← h.len, h0]
    rfl
  | some s =>
    have hb := (List.getElem?_eq_some_iff.1 hc).1
    have hk : l.length - 1 < P.length := by rw [← h.len]; exact hb
    have hs := h.seg _ s _ hc (List.getElem?_eq_getElem hk)
    show s.first + s.ends.length = _
    rw [hs.1, hs.2.1, endsOf_length, ← starts_succ hk, show l.length - 1 + 1 = P.length by rw [← h.len]; omega]
theorem lays_read (g d i : Nat) (s : DS) (S T : Nat → Prop) (l : List Seg) (P : List (List Bs)) (r : Bs) (w : World) (h : LogAt w g d l false T) (hd : DiskAt w d s S) (hl : Lays l P s.files) (hdn : s.down = false) (hi : P.flatten[i]? = some r) :
    Calls Tryz.prog 18 #[.pointer (some ⟨g, 0, none⟩), .int .u64 ((1 + i : Nat) : Int)] w (ReadOk r w) := by
  have hil := (List.getElem?_eq_some_iff.1 hi).1
  have hne : 0 < l.length := by
    rw [hl.len]
    cases P with
    | nil => simp at hil
    | cons p q => simp
  refine lread_any g d (1 + i) s S T l r w h hd hl.rising hne (by rw [hl.first]; omega) (by rw [hl.next]; omega) (fun k sg hk hf hb => ?_)
  have hkl := (List.getElem?_eq_some_iff.1 hk).1
  have hkP : k < P.length := by rw [← hl.len]; exact hkl
  obtain ⟨h1, h2, h3, h4⟩ := hl.seg k sg _ hk (List.getElem?_eq_getElem hkP)
  have hlt : 1 + i < starts P (k + 1) := by
    by_cases hk1 : k + 1 < P.length
    · have hk1l : k + 1 < l.length := by rw [hl.len]; exact hk1
      have := hb (k + 1) _ (by omega) (List.getElem?_eq_getElem hk1l)
      rwa [(hl.seg (k + 1) _ _ (List.getElem?_eq_getElem hk1l) (List.getElem?_eq_getElem hk1)).1] at this
    · rw [show k + 1 = P.length by omega, starts_all]; omega
  obtain ⟨hj, hr⟩ := flatten_get hkP (by omega) hlt
  rw [hi] at hr
  injection hr with hr
  have hrl : r.length ≤ 65520 := by rw [hr]; exact hl.small _ (List.getElem_mem hkP) _ (List.getElem_mem hj)
  have hst : sg.start (1 + i) = (framesB (P[k].take (1 + i - starts P k))).length := by
    have := start_at (sg := sg) (p := P[k]) (j := 1 + i - starts P k) h2 (by omega)
    rwa [h1, show starts P k + (1 + i - starts P k) = 1 + i by omega] at this
  have hre : readE s sg.name = 0 := by
    unfold readE
    rw [if_neg (by rw [hdn]; decide), if_neg (by rw [h4]; decide), if_neg (by unfold fthere; rw [h3]; simp)]
  have hrb : readB s sg.name = framesB P[k] := by unfold readB bytesOf; rw [if_pos hre, h3]; rfl
  have hbl : (framesB P[k]).length ≤ 140737488355328 := by
    have h5 := (dlt' hd).2.2
    have h6 := bytesOf_le (fit_all h5.fit h5.un) sg.name
    rw [show bytesOf (s.unsure.foldl doW s.sure) sg.name = framesB P[k] from by show bytesOf s.files sg.name = _; unfold bytesOf; rw [h3]; rfl] at h6
    omega
  refine ⟨by unfold Seg.next; rw [h1, h2, endsOf_length]; omega, framesB P[k], (CoP.frame r).length, hre, hrb, hbl, by rw [hst]; exact framesB_le _, ?_⟩
  rw [hst, record_at hj (by rw [← hr]; exact hrl), ← hr]
/-- The law's alike of a log that holds the model's records. -/
theorem lays_alike (g mb d : Nat) (Am : Option Addr) (cm : Nat) (s : DS) (S T : Nat → Prop) (l : List Seg) (P : List (List Bs)) (w : World) (h : LogAt w g d l false T) (hd : DiskAt w d s S) (hl : Lays l P s.files) (hdn : s.down = false) (hm : ModelIn w mb Am cm P.flatten) (hn : P.flatten.length ≤ 1099511627776) :
    Calls Tryz.prog 13 #[.pointer (some ⟨g, 0, none⟩), .pointer (some ⟨mb, 0, none⟩)] w (RetB (.bool true) w) := by
  refine alike_any g mb Am cm P.flatten.length P.flatten w hm rfl hn (fun r hr => ?_) (fun w' hb => ?_) (fun w' hb => ?_) (fun w' i r hb hi => ?_) (fun w' hb => ?_) (fun w' hb => ?_)
  · obtain ⟨p, hp, hr⟩ := List.mem_flatten.1 hr
    have := hl.small p hp r hr
    omega
  · have := first_any g d l false T w' (h.below hb)
    rw [hl.first] at this
    exact this
  · have := next_any g d l false T w' (h.below hb)
    rw [hl.next] at this
    exact this
  · exact lays_read g d i s S T l P r w' (h.below hb) (hd.below hb) hl hdn hi
  · exact lread_none g d (1 + P.flatten.length) T l w' (h.below hb) (by rw [hl.first]; omega) (by rw [hl.next]; exact Nat.le_refl _)
  · exact lread_old g d 0 T l w' (h.below hb) (by rw [hl.first]; decide)
end Go.Proofs.YtjnmolpopjapnaaGreatDoor.Wa
