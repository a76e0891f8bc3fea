/- scupperlaw05.whole, as a contract of a call. | Package wal: Sync on a disk that is well; Read of what is not there; as contracts of calls. | scupperlaw05: the model's next and alike, as contracts of calls, over whatever answers First, Next and Read. | A log whose files hold pieces of a list of records: what Read finds there; the law's alike of it. -/
import Derived.Test.YtnjifhbooikdbaaGreatDoorWaG
import Derived.Test.YtnjifhbooikdbaaGreatDoorSl
import Derived.Deep.CutRange
import Derived.Test.YtnjifhbooikdbaaGreatDoorWaJ
/-! scupperlaw05.whole, as a contract of a call. -/
namespace Go.Proofs.YtnjifhbooikdbaaGreatDoor.Wa
open Go.RowKit Go.Maps By Mp Dk

/-- Copies of the first k lists, in a row of the call's own. -/
def Copied (base : Nat) (w : World) (v : Value) (ls : List Bs) (k : Nat) : Prop := ∃ vs : List Value, Sl.OwnL base w v vs ∧ vs.length = k ∧ ∀ i l, i < k → ls[i]? = some l → ∃ A c, vs[i]? = some (.slice A l.length c) ∧ Own base w (.slice A l.length c) l
theorem Copied.keep {base : Nat} {w w' : World} {v : Value} {ls : List Bs} {k : Nat} (h : Copied base w v ls k) (hk : ∀ b, b < w.heap.size → w'.heap[b]? = w.heap[b]?) : Copied base w' v ls k := by
  obtain ⟨vs, h1, h2, h3⟩ := h
  refine ⟨vs, ownsRow_keep h1 (fun b hb => hk b (ownsRow_lt h1 hb).2), h2, fun i l hi hl => ?_⟩
  obtain ⟨A, c, h4, h5⟩ := h3 i l hi hl
  exact ⟨A, c, h4, ownsRow_keep h5 (fun b hb => hk b (ownsRow_lt h5 hb).2)⟩
theorem Copied.lies {base : Nat} {w : World} {A : Option Addr} {n c : Nat} {ls : List Bs} (h : Copied base w (.slice A n c) ls ls.length) : n = ls.length ∧ LiesL w w.heap.size A ls := by
  obtain ⟨vs, h1, h2, h3⟩ := h
  have hn : n = vs.length := by
    obtain ⟨A', c', e⟩ := ownsRow_form h1
    injection e
  refine ⟨by rw [hn, h2], fun hp => ?_⟩
  rcases h1.2 with ⟨hv, h0⟩ | ⟨g, cap, cur, hv, hb, hg, hnc, hm, hs, ht⟩
  · omega
  · injection hv with e1 e2 e3
    refine ⟨g, 0, e1, row_lt hg, fun j l hl => ?_⟩
    obtain ⟨Aj, cj, h4, h5⟩ := h3 j l (List.getElem?_eq_some_iff.1 hl).1 hl
    obtain ⟨A', c', e, -, -, -, hli, -⟩ := h5.form
    injection e with e4 e5 e6
    subst e4
    refine ⟨Aj, cj, ?_, hli⟩
    rw [Nat.zero_add, cell_of_row w g j _ _ _ hg]
    rw [← ht, List.getElem?_take] at h4
    split at h4
    · simpa using h4
    · cases h4
theorem Copied.far {base : Nat} {w w' : World} {v : Value} {ls : List Bs} {k : Nat} (h : Copied base w v ls k) (hk : ∀ b, base ≤ b → b < w.heap.size → w'.heap[b]? = w.heap[b]?) : Copied base w' v ls k := by
  obtain ⟨vs, h1, h2, h3⟩ := h
  refine ⟨vs, ownsRow_keep h1 (fun b hb => hk b (ownsRow_lt h1 hb).1 (ownsRow_lt h1 hb).2), h2, fun i l hi hl => ?_⟩
  obtain ⟨A, c, h4, h5⟩ := h3 i l hi hl
  exact ⟨A, c, h4, ownsRow_keep h5 (fun b hb => hk b (ownsRow_lt h5 hb).1 (ownsRow_lt h5 hb).2)⟩
def okAll (ls : List Bs) : Bool := ls.all fun l => decide (l.length ≤ 65520)
theorem okAll_take {ls : List Bs} {k : Nat} (hk : k < ls.length) : okAll (ls.take (k + 1)) = (okAll (ls.take k) && decide (ls[k].length ≤ 65520)) := by
  unfold okAll
  rw [List.take_succ_eq_append_getElem hk, List.all_append]
  simp
def WholePost (ls : List Bs) (w : World) (e : Ending) (w' : World) : Prop := ∃ A c, e = .returned (.tuple #[.slice A ls.length c, .bool (okAll ls)]) ∧ Copied w.heap.size w' (.slice A ls.length c) ls ls.length ∧ Below w.heap.size w w'
end Go.Proofs.YtnjifhbooikdbaaGreatDoor.Wa

/-! Package wal: Sync on a disk that is well; Read of what is not there; as contracts of calls. -/
namespace Go.Proofs.YtnjifhbooikdbaaGreatDoor.Wa
open Go.RowKit Go.Maps By Mp Dk

def calmS (F : Fs) (room : Int) : DS := ⟨F, [], room, 0, false⟩
theorem falS_calm (F : Fs) (room : Int) (m : Nat) (t : Int) : falS (calmS F room) m t = calmS F room := rfl
theorem sync_calm {s : DS} (hd : s.down = false) (hf : s.fuse = 0) : synE s = 0 ∧ synS s = calmS s.files s.room := by
  have hb : burns s = false := by unfold burns; rw [hf]; rfl
  have hu : burnt s = s := by unfold burnt; rw [if_pos hf]
  unfold synE synS calmS
  rw [hd, hb, hu]
  refine ⟨by simp, ?_⟩
  rw [if_neg (by simp), if_neg (by simp)]
  show (⟨s.files, [], s.room, s.fuse, s.down⟩ : DS) = _
  rw [hf, hd]
def SyncPost (g d : Nat) (l : List Seg) (s' : DS) (S T : Nat → Prop) (w : World) (e : Ending) (w' : World) : Prop := e = .returned (.int .i64 0) ∧ ∃ S', DiskAt w' d s' S' ∧ LogAt w' g d l false T ∧ (∀ b, T b → S' b → False) ∧ (∀ b, S' b → S b ∨ w.heap.size ≤ b) ∧ Kept (fun b => S b ∨ T b) w w'
theorem dlt' {w : World} {d : Nat} {s : DS} {S : Nat → Prop} (h : DiskAt w d s S) : (∀ b, S b → b < w.heap.size) ∧ S d ∧ s.Ok := by
  obtain ⟨bm, sm, pb, ps, v, h⟩ := h
  exact ⟨h.lt, h.subg, h.ok⟩
theorem logAt_lt {w : World} {g d : Nat} {l : List Seg} {dead : Bool} {T : Nat → Prop} (h : LogAt w g d l dead T) : (∀ b, T b → b < w.heap.size) ∧ T g := by
  obtain ⟨v, ac, h⟩ := h
  exact ⟨h.lt, h.tg⟩
set_option maxHeartbeats 2000000 in
theorem lread_old (g d i : Nat) (T : Nat → Prop) (l : List Seg) (w : World) (h : LogAt w g d l false T) (hi : i < firstS l) : Calls Tryz.prog 12 #[.pointer (some ⟨g, 0, none⟩), .int .u64 (i : Nat)] w (Ret (.tuple #[.slice none 0 0, .int .i64 13]) w) := by
  have HWK := Lib.hid (works_any g d l false T w h)
  have HFI := Lib.hid (first_any g d l false T w h)
  obtain ⟨f, hf⟩ : ∃ f, f = firstS l := ⟨_, rfl⟩
  rw [← hf] at HFI hi
  have e1 : (i : Int) < (f : Int) := by omega
  clear h hf
  go_enter Tryz.func12, Tryz.ntmps12
  go_wp2_with fail
  refine HWK.out.mono ?_
  rintro e w' ⟨rfl, rfl⟩
  go_wp2_with fail
  refine HFI.out.mono ?_
  rintro e w' ⟨rfl, rfl⟩
  go_wp2
  go_ret2
  exact ⟨rfl, rfl⟩
set_option maxHeartbeats 2000000 in
theorem lread_none (g d i : Nat) (T : Nat → Prop) (l : List Seg) (w : World) (h : LogAt w g d l false T) (hf : firstS l ≤ i) (hi : nextS l ≤ i) : Calls Tryz.prog 12 #[.pointer (some ⟨g, 0, none⟩), .int .u64 (i : Nat)] w (RetB (.tuple #[.slice none 0 0, .int .i64 8]) w) := by
  have HWK := Lib.hid (works_any g d l false T w h)
  have HFI := Lib.hid (first_any g d l false T w h)
  have HNX := Lib.hid (next_any g d l false T w h)
  obtain ⟨f, hf'⟩ : ∃ f, f = firstS l := ⟨_, rfl⟩
  obtain ⟨n, hn⟩ : ∃ n, n = nextS l := ⟨_, rfl⟩
  rw [← hf'] at HFI hf
  rw [← hn] at HNX hi
  have e1 : ¬ ((i : Int) < (f : Int)) := by omega
  have e2 : (i : Int) ≥ (n : Int) := by omega
  clear h hf' hn
  go_enter Tryz.func12, Tryz.ntmps12
  go_wp2_with fail
  refine HWK.out.mono ?_
  rintro e w' ⟨rfl, rfl⟩
  go_wp2_with fail
  refine HFI.out.mono ?_
  rintro e w' ⟨rfl, rfl⟩
  go_wp2_with fail
  refine HNX.out.mono ?_
  rintro e w1 ⟨rfl, hb1⟩
  go_wp2
  go_ret2
  exact ⟨rfl, hb1⟩
end Go.Proofs.YtnjifhbooikdbaaGreatDoor.Wa

/-! scupperlaw05: the model's next and alike, as contracts of calls, over whatever answers First, Next and Read. -/
namespace Go.Proofs.YtnjifhbooikdbaaGreatDoor.Wa
open Go.RowKit Go.Maps By Mp Dk

/-- A model in memory, of first number 1. -/
structure ModelIn (w : World) (mb : Nat) (Am : Option Addr) (cm : Nat) (recs : List Bs) : Prop where
  c0 : w.cell? ⟨mb, 0, none⟩ = some (.int .u64 1)
  c1 : w.cell? ⟨mb, 1, none⟩ = some (.slice Am recs.length cm)
  lt : mb < w.heap.size
  lies : LiesL w w.heap.size Am recs
theorem ModelIn.later {w w' : World} {mb : Nat} {Am : Option Addr} {cm : Nat} {recs : List Bs} (h : ModelIn w mb Am cm recs) (hb : Below w.heap.size w w') : ModelIn w' mb Am cm recs :=
  ⟨(hb.cell h.lt).trans h.c0, (hb.cell h.lt).trans h.c1, Nat.lt_of_lt_of_le h.lt hb.size, (h.lies.below hb).more hb.size⟩
theorem fun_lies {w w3 : World} {A : Option Addr} {r : Bs} (hb : Below w.heap.size w w3) (h : Lies w w.heap.size A r) : Lies w3.drew w.heap.size A r := h.below hb.drew
end Go.Proofs.YtnjifhbooikdbaaGreatDoor.Wa

/-! A log whose files hold pieces of a list of records: what Read finds there; the law's alike of it. -/
namespace Go.Proofs.YtnjifhbooikdbaaGreatDoor.Wa
open Go.RowKit Go.Maps By Mp Dk

theorem framesB_drop (p : List Bs) (j : Nat) : (framesB p).drop (framesB (p.take j)).length = framesB (p.drop j) := by
  have h : framesB p = framesB (p.take j) ++ framesB (p.drop j) := by rw [← framesB_app, List.take_append_drop]
  rw [h, List.drop_left']
  rfl
theorem record_at {p : List Bs} {j : Nat} (hj : j < p.length) (h6 : p[j].length ≤ 65520) : CoP.unR ((framesB p).drop (framesB (p.take j)).length) = (p[j], (CoP.frame p[j]).length, 0) := by
  rw [framesB_drop, List.drop_eq_getElem_cons hj]
  show CoP.unR (CoP.frame p[j] ++ framesB (p.drop (j + 1))) = _
  exact CoP.unR_frame _ (by omega) _
theorem endsOf_get {n : Nat} {p : List Bs} {j : Nat} (hj : j < p.length) : (endsOf n p)[j]? = some (n + (framesB (p.take (j + 1))).length) := by
  have h : endsOf n p = endsOf n (p.take j) ++ [n + (framesB (p.take (j + 1))).length] ++ endsOf (n + (framesB (p.take (j + 1))).length) (p.drop (j + 1)) := by
    rw [← endsOf_take n hj, ← endsOf_app, List.take_append_drop]
  have hl : (endsOf n (p.take j)).length = j := by rw [endsOf_length, List.length_take]; omega
  rw [h, List.append_assoc, List.getElem?_append_right (by omega), hl]
  simp
theorem start_at {sg : Seg} {p : List Bs} {j : Nat} (he : sg.ends = endsOf 0 p) (hj : j ≤ p.length) : sg.start (sg.first + j) = (framesB (p.take j)).length := by
  unfold Seg.start
  cases j with
  | zero => rw [if_pos (by omega)]; rfl
  | succ j =>
    rw [if_neg (by omega), show sg.first + (j + 1) - sg.first - 1 = j by omega, he, endsOf_get (by omega)]
    simp
def starts (P : List (List Bs)) (k : Nat) : Nat := 1 + ((P.take k).map List.length).sum
theorem starts_succ {P : List (List Bs)} {k : Nat} (hk : k < P.length) : starts P (k + 1) = starts P k + P[k].length := by
  unfold starts
  rw [List.take_succ_eq_append_getElem hk, List.map_append, List.sum_append]
  simp
  omega
theorem starts_mono {P : List (List Bs)} {a b : Nat} (h : a ≤ b) : starts P a ≤ starts P b := by
  unfold starts
  obtain ⟨c, rfl⟩ := Nat.exists_eq_add_of_le h
  have e : P.take (a + c) = P.take a ++ (P.drop a).take c := List.take_add ..
  rw [e, List.map_append, List.sum_append]
  omega
theorem flatten_len (P : List (List Bs)) (k : Nat) : (P.take k).flatten.length + 1 = starts P k := by
  unfold starts
  rw [List.length_flatten]
  omega
theorem starts_all (P : List (List Bs)) : starts P P.length = 1 + P.flatten.length := by
  have := flatten_len P P.length
  rw [List.take_length] at this
  omega
theorem flatten_get {P : List (List Bs)} {k i : Nat} (hk : k < P.length) (h1 : starts P k ≤ 1 + i) (h2 : 1 + i < starts P (k + 1)) : ∃ (h : 1 + i - starts P k < P[k].length), P.flatten[i]? = some (P[k][1 + i - starts P k]) := by
  have hs := starts_succ hk
  have hl := flatten_len P k
  have hb : 1 + i - starts P k < P[k].length := by omega
  refine ⟨hb, ?_⟩
  have e : P.flatten = (P.take k).flatten ++ (P[k] ++ (P.drop (k + 1)).flatten) := by
    conv => lhs; rw [← List.take_append_drop k P, List.flatten_append, List.drop_eq_getElem_cons hk, List.flatten_cons]
  rw [e, List.getElem?_append_right (by omega), List.getElem?_append_left (by omega), show i - (P.take k).flatten.length = 1 + i - starts P k by omega]
  exact List.getElem?_eq_getElem hb
/-- The log's segments and files hold these pieces, one behind the other. -/
structure Lays (l : List Seg) (P : List (List Bs)) (F : Fs) : Prop where
  len : l.length = P.length
  seg : ∀ (k : Nat) (s : Seg) (p : List Bs), l[k]? = some s → P[k]? = some p → s.first = starts P k ∧ s.ends = endsOf 0 p ∧ fget F s.name = some (framesB p) ∧ named s.name = true
  small : ∀ p ∈ P, ∀ r ∈ p, r.length ≤ 65520
theorem Lays.rising {l : List Seg} {P : List (List Bs)} {F : Fs} (h : Lays l P F) : Rising l := by
  intro a b s u hab hs hu
  have ha : a < P.length := by have := (List.getElem?_eq_some_iff.1 hs).1; rw [← h.len]; exact this
  have hb : b < P.length := by have := (List.getElem?_eq_some_iff.1 hu).1; rw [← h.len]; exact this
  rw [(h.seg a s _ hs (List.getElem?_eq_getElem ha)).1, (h.seg b u _ hu (List.getElem?_eq_getElem hb)).1]
  exact starts_mono hab
theorem Lays.first {l : List Seg} {P : List (List Bs)} {F : Fs} (h : Lays l P F) : firstS l = 1 := by
  unfold firstS
  cases l with
  | nil => rfl
  | cons s r =>
    have hp : 0 < P.length := by rw [← h.len]; simp
    show s.first = 1
    rw [(h.seg 0 s _ rfl (List.getElem?_eq_getElem hp)).1]
    rfl
theorem Lays.next {l : List Seg} {P : List (List Bs)} {F : Fs} (h : Lays l P F) : nextS l = 1 + P.flatten.length := by
  rw [← starts_all]
  unfold nextS
  rw [List.getLast?_eq_getElem?]
  cases hc : l[l.length - 1]? with
  | none =>
    have h0 : l.length = 0 := by rw [List.getElem?_eq_none_iff] at hc; omega
    rw [← h.len, h0]
    rfl
  | some s =>
    have hb := (List.getElem?_eq_some_iff.1 hc).1
    have hk : l.length - 1 < P.length := by rw [← h.len]; exact hb
    have hs := h.seg _ s _ hc (List.getElem?_eq_getElem hk)
    show s.first + s.ends.length = _
    rw [hs.1, hs.2.1, endsOf_length, ← starts_succ hk, show l.length - 1 + 1 = P.length by rw [← h.len]; omega]
theorem lays_read (g d i : Nat) (s : DS) (S T : Nat → Prop) (l : List Seg) (P : List (List Bs)) (r : Bs) (w : World) (h : LogAt w g d l false T) (hd : DiskAt w d s S) (hl : Lays l P s.files) (hdn : s.down = false) (hi : P.flatten[i]? = some r) :
    Calls Tryz.prog 12 #[.pointer (some ⟨g, 0, none⟩), .int .u64 ((1 + i : Nat) : Int)] w (ReadOk r w) := by
  have hil := (List.getElem?_eq_some_iff.1 hi).1
  have hne : 0 < l.length := by
    rw [hl.len]
    cases P with
    | nil => simp at hil
    | cons p q => simp
  refine lread_any g d (1 + i) s S T l r w h hd hl.rising hne (by rw [hl.first]; omega) (by rw [hl.next]; omega) (fun k sg hk hf hb => ?_)
  have hkl := (List.getElem?_eq_some_iff.1 hk).1
  have hkP : k < P.length := by rw [← hl.len]; exact hkl
  obtain ⟨h1, h2, h3, h4⟩ := hl.seg k sg _ hk (List.getElem?_eq_getElem hkP)
  have hlt : 1 + i < starts P (k + 1) := by
    by_cases hk1 : k + 1 < P.length
    · have hk1l : k + 1 < l.length := by rw [hl.len]; exact hk1
      have := hb (k + 1) _ (by omega) (List.getElem?_eq_getElem hk1l)
      rwa [(hl.seg (k + 1) _ _ (List.getElem?_eq_getElem hk1l) (List.getElem?_eq_getElem hk1)).1] at this
    · rw [show k + 1 = P.length by omega, starts_all]; omega
  obtain ⟨hj, hr⟩ := flatten_get hkP (by omega) hlt
  rw [hi] at hr
  injection hr with hr
  have hrl : r.length ≤ 65520 := by rw [hr]; exact hl.small _ (List.getElem_mem hkP) _ (List.getElem_mem hj)
  have hst : sg.start (1 + i) = (framesB (P[k].take (1 + i - starts P k))).length := by
    have := start_at (sg := sg) (p := P[k]) (j := 1 + i - starts P k) h2 (by omega)
    rwa [h1, show starts P k + (1 + i - starts P k) = 1 + i by omega] at this
  have hre : readE s sg.name = 0 := by
    unfold readE
    rw [if_neg (by rw [hdn]; decide), if_neg (by rw [h4]; decide), if_neg (by unfold fthere; rw [h3]; simp)]
  have hrb : readB s sg.name = framesB P[k] := by unfold readB bytesOf; rw [if_pos hre, h3]; rfl
  have hbl : (framesB P[k]).length ≤ 140737488355328 := by
    have h5 := (dlt' hd).2.2
    have h6 := bytesOf_le (fit_all h5.fit h5.un) sg.name
    rw [show bytesOf (s.unsure.foldl doW s.sure) sg.name = framesB P[k] from by show bytesOf s.files sg.name = _; unfold bytesOf; rw [h3]; rfl] at h6
    omega
  refine ⟨by unfold Seg.next; rw [h1, h2, endsOf_length]; omega, framesB P[k], (CoP.frame r).length, hre, hrb, hbl, by rw [hst]; exact framesB_le _, ?_⟩
  rw [hst, record_at hj (by rw [← hr]; exact hrl), ← hr]
end Go.Proofs.YtnjifhbooikdbaaGreatDoor.Wa
