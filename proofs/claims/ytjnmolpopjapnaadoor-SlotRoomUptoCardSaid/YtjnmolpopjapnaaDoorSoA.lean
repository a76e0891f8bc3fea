/- A slot as plain values: its files on a disk, which of them is the value, what a Save comes to. No program, no walk. -/
import Derived.Test.YtjnmolpopjapnaaDoorEB
import Derived.Test.YtjnmolpopjapnaaDoorGA
namespace Go.Proofs.YtjnmolpopjapnaaDoor.So
open Go.RowKit Go.Maps By Mp Dk

/-- The name of the file of a turn. -/
def pth (nm : Bs) (t : Nat) : Bs := nm ++ [46, UInt8.ofNat (48 + t)]
theorem pth_length (nm : Bs) (t : Nat) : (pth nm t).length = nm.length + 2 := by simp [pth]
theorem pth_inj {nm : Bs} {t u : Nat} (ht : t < 3) (hu : u < 3) (h : pth nm t = pth nm u) : t = u := by
  unfold pth at h
  have h := List.append_cancel_left h
  have ht' : t = 0 ∨ t = 1 ∨ t = 2 := by omega
  have hu' : u = 0 ∨ u = 1 ∨ u = 2 := by omega
  rcases ht' with rfl | rfl | rfl <;> rcases hu' with rfl | rfl | rfl <;> first | rfl | (exfalso; revert h; decide)
/-- The value that a file's bytes are, if they are a value's frame and nothing else. -/
def whole (b : Bs) : Option Bs := if (CoP.unR b).2.2 = 0 ∧ (CoP.unR b).2.1 = b.length then some (CoP.unR b).1 else none
theorem whole_frame {d : Bs} (h : d.length ≤ 65520) : whole (CoP.frame d) = some d := by
  have e := CoP.unR_frame d (by omega) []
  rw [List.append_nil] at e
  unfold whole
  rw [e, if_pos ⟨rfl, rfl⟩]
theorem whole_part {d : Bs} (h : d.length ≤ 65520) {k : Nat} (hk : k < (CoP.frame d).length) : whole ((CoP.frame d).take k) = none := by
  have e := CoP.unR_short d (by omega) k hk
  unfold whole
  rw [if_neg (fun h => by rw [e] at h; exact absurd h.1 (by decide))]
/-- What the disk has of a turn: nothing, a file, a file that is whole. -/
abbrev Fl := Option (Option Bs)
def fileOf (F : Fs) (nm : Bs) (t : Nat) : Fl := (fget F (pth nm t)).map whole
def isW (f : Fl) : Bool := (f.getD none).isSome
def lat (a b c : Bool) : Option Nat := if a && !b then some 0 else if b && !c then some 1 else if c && !a then some 2 else none
def latest (f : Nat → Fl) : Option Nat := lat (isW (f 0)) (isW (f 1)) (isW (f 2))
def valOf (f : Nat → Fl) : Option Bs := match latest f with | none => none | some t => (f t).getD none
def aside (f : Nat → Fl) (el : Option Nat) : List Nat := [0, 1, 2].filter fun t => (f t).isSome && !(some t == el)
def next (el : Option Nat) : Nat := match el with | none => 0 | some t => (t + 1) % 3
def NotAll (f : Nat → Fl) : Prop := (isW (f 0) && isW (f 1) && isW (f 2)) = false
theorem next_lt (el : Option Nat) : next el < 3 := by
  cases el with
  | none => exact by decide
  | some t => exact Nat.mod_lt _ (by decide)
theorem lt3 {t : Nat} (h : t < 3) : t = 0 ∨ t = 1 ∨ t = 2 := by omega
theorem latest_lt {f : Nat → Fl} {t : Nat} (h : latest f = some t) : t < 3 := by
  unfold latest lat at h
  split at h
  · injection h with h; omega
  · split at h
    · injection h with h; omega
    · split at h
      · injection h with h; omega
      · cases h
theorem latest_w {f : Nat → Fl} {t : Nat} (h : latest f = some t) : isW (f t) = true ∧ isW (f ((t + 1) % 3)) = false := by
  rcases lt3 (latest_lt h) with rfl | rfl | rfl <;> revert h <;> unfold latest lat <;>
    cases isW (f 0) <;> cases isW (f 1) <;> cases isW (f 2) <;> simp
theorem latest_of {f : Nat → Fl} {t : Nat} (ht : t < 3) (h1 : isW (f t) = true) (h2 : isW (f ((t + 1) % 3)) = false) : latest f = some t ∧ NotAll f := by
  rcases lt3 ht with rfl | rfl | rfl <;> revert h1 h2 <;> unfold latest lat NotAll <;>
    cases isW (f 0) <;> cases isW (f 1) <;> cases isW (f 2) <;> simp
theorem latest_none {f : Nat → Fl} (hn : NotAll f) (h : latest f = none) : ∀ t, t < 3 → isW (f t) = false := by
  intro t ht
  rcases lt3 ht with rfl | rfl | rfl <;> revert h hn <;> unfold latest lat NotAll <;>
    cases isW (f 0) <;> cases isW (f 1) <;> cases isW (f 2) <;> simp
theorem none_latest {f : Nat → Fl} (h : ∀ t, t < 3 → isW (f t) = false) : latest f = none ∧ NotAll f := by
  unfold latest lat NotAll
  rw [h 0 (by decide), h 1 (by decide), h 2 (by decide)]
  exact ⟨rfl, rfl⟩
theorem isW_some {f : Fl} (h : isW f = true) : ∃ v, f = some (some v) := by
  unfold isW at h
  cases f with
  | none => cases h
  | some o =>
    cases o with
    | none => cases h
    | some v => exact ⟨v, rfl⟩
theorem valOf_some {f : Nat → Fl} {t : Nat} {v : Bs} (h : latest f = some t) (hv : f t = some (some v)) : valOf f = some v := by
  unfold valOf
  rw [h]
  show (f t).getD none = some v
  rw [hv]; rfl
theorem valOf_none {f : Nat → Fl} (h : latest f = none) : valOf f = none := by
  unfold valOf
  rw [h]

/-- A change of some files alone: each other one is as it was, of these each is so or is gone. -/
def Less (N : Bs → Prop) (F G : Fs) : Prop := Up G ∧ ∀ n, (¬ N n → fget G n = fget F n) ∧ (fget G n = fget F n ∨ fget G n = none)
theorem Less.refl (N : Bs → Prop) {F : Fs} (h : Up F) : Less N F F := ⟨h, fun _ => ⟨fun _ => rfl, .inl rfl⟩⟩
theorem Less.step {N : Bs → Prop} {F G H : Fs} (h : Less N F G) (k : Less N G H) : Less N F H := by
  refine ⟨k.1, fun n => ⟨fun hn => ((k.2 n).1 hn).trans ((h.2 n).1 hn), ?_⟩⟩
  rcases (k.2 n).2 with e | e
  · rw [e]; exact (h.2 n).2
  · exact .inr e
theorem Less.mono {N M : Bs → Prop} {F G : Fs} (h : Less N F G) (hm : ∀ n, N n → M n) : Less M F G := ⟨h.1, fun n => ⟨fun hn => (h.2 n).1 (fun e => hn (hm n e)), (h.2 n).2⟩⟩
theorem less_del {F : Fs} (h : Up F) {N : Bs → Prop} {n : Bs} (hn : N n) : Less N F (fdel n F) := by
  refine ⟨h.del n, fun m => ⟨fun hm => ?_, ?_⟩⟩
  · rw [fget_del, if_neg (fun e => hm (by rw [e]; exact hn))]
  · rw [fget_del]
    by_cases e : m = n
    · exact .inr (by rw [if_pos e])
    · exact .inl (by rw [if_neg e])
/-- Removals. -/
def rmW (nm : Bs) (t : Nat) : W1 := ⟨3, pth nm t, 0, []⟩
theorem less_rms {N : Bs → Prop} : ∀ {l : List W1} {F : Fs}, Up F → (∀ w ∈ l, w.kind = 3 ∧ N w.name) → Less N F (l.foldl doW F)
  | [], _, h, _ => Less.refl N h
  | w :: l, F, h, hl => by
    have hw := hl w (by simp)
    have e : doW F w = fdel w.name F := by unfold doW; rw [if_pos hw.1]
    rw [List.foldl_cons, e]
    exact (less_del h hw.2).step (less_rms (h.del _) (fun x hx => hl x (by simp [hx])))
theorem staying_sub {mask : Nat} : ∀ {l : List W1} {k : Nat} {x : W1}, x ∈ staying mask k l → x ∈ l
  | [], _, _, h => h
  | y :: l, k, x, h => by
    unfold staying at h
    split at h
    · rcases List.mem_cons.1 h with h | h
      · rw [h]; exact .head _
      · exact .tail _ (staying_sub h)
    · exact .tail _ (staying_sub h)
theorem tornR_rms {t : Int} : ∀ {l : List W1}, (∀ w ∈ l, w.kind = 3) → tornR t l = l
  | [], _ => rfl
  | w :: l, h => by
    unfold tornR
    rw [if_neg (by rw [h w (by simp)]; decide), tornR_rms (fun x hx => h x (by simp [hx]))]
theorem torn_rms {t : Int} {l : List W1} (h : ∀ w ∈ l, w.kind = 3) : torn t l = l := by
  unfold torn
  rw [tornR_rms (fun w hw => h w (by simpa using hw)), List.reverse_reverse]
theorem fall_rms {s : DS} {N : Bs → Prop} (hup : Up s.sure) (h : ∀ w ∈ s.unsure, w.kind = 3 ∧ N w.name) (m : Nat) (t : Int) : ∃ G, falS s m t = ⟨G, [], s.room, 0, false⟩ ∧ Less N s.sure G := by
  refine ⟨_, rfl, ?_⟩
  rw [torn_rms (fun w hw => (h w (staying_sub hw)).1)]
  exact less_rms hup (fun w hw => h w (staying_sub hw))

/-- The files of a slot. -/
def Mine (nm : Bs) (n : Bs) : Prop := ∃ t, t < 3 ∧ n = pth nm t
def InL (nm : Bs) (l : List Nat) (n : Bs) : Prop := ∃ t, t ∈ l ∧ n = pth nm t
theorem aside_mem {f : Nat → Fl} {el : Option Nat} {t : Nat} : t ∈ aside f el ↔ t < 3 ∧ (f t).isSome = true ∧ some t ≠ el := by
  unfold aside
  rw [List.mem_filter, Bool.and_eq_true]
  constructor
  · rintro ⟨h1, h2, h3⟩
    refine ⟨?_, h2, fun e => ?_⟩
    · simp only [List.mem_cons, List.not_mem_nil, or_false] at h1; omega
    · rw [e] at h3; simp at h3
  · rintro ⟨h1, h2, h3⟩
    refine ⟨?_, h2, ?_⟩
    · simp only [List.mem_cons, List.not_mem_nil, or_false]; omega
    · simpa using h3
theorem fileOf_same {F G : Fs} {nm : Bs} {t : Nat} (h : fget G (pth nm t) = fget F (pth nm t)) : fileOf G nm t = fileOf F nm t := by unfold fileOf; rw [h]
theorem fileOf_gone {G : Fs} {nm : Bs} {t : Nat} (h : fget G (pth nm t) = none) : fileOf G nm t = none := by unfold fileOf; rw [h]; rfl
/-- Without files that are not the value's the value is the same. -/
theorem less_val {F G : Fs} {nm : Bs} (hn : NotAll (fileOf F nm)) (h : Less (InL nm (aside (fileOf F nm) (latest (fileOf F nm)))) F G) :
    latest (fileOf G nm) = latest (fileOf F nm) ∧ valOf (fileOf G nm) = valOf (fileOf F nm) ∧ NotAll (fileOf G nm) := by
  have hw : ∀ t, isW (fileOf F nm t) = false → isW (fileOf G nm t) = false := fun t ht => by
    rcases (h.2 (pth nm t)).2 with e | e
    · rw [fileOf_same e]; exact ht
    · rw [fileOf_gone e]; rfl
  cases hl : latest (fileOf F nm) with
  | none =>
    have h1 := none_latest (f := fileOf G nm) (fun t ht => hw t (latest_none hn hl t ht))
    exact ⟨h1.1, by rw [valOf_none h1.1, valOf_none hl], h1.2⟩
  | some t =>
    have ht := latest_lt hl
    have h1 := latest_w hl
    rw [hl] at h
    have e : fileOf G nm t = fileOf F nm t := fileOf_same ((h.2 (pth nm t)).1 (fun ⟨u, hu, e⟩ => by
      have hu := aside_mem.1 hu
      have := pth_inj ht hu.1 e
      subst this
      exact hu.2.2 rfl))
    obtain ⟨v, hv⟩ := isW_some h1.1
    have h2 := latest_of (f := fileOf G nm) ht (by rw [e]; exact h1.1) (hw _ h1.2)
    exact ⟨h2.1, by rw [valOf_some h2.1 (e.trans hv), valOf_some hl hv], h2.2⟩
/-- Behind a Save with OK. -/
def Saved (nm : Bs) (t : Nat) (d : Bs) (F G : Fs) : Prop := Up G ∧ fget G (pth nm t) = some (CoP.frame d) ∧ (∀ u, u < 3 → u ≠ t → fget G (pth nm u) = none) ∧ ∀ n, ¬ Mine nm n → fget G n = fget F n
theorem saved_val {nm : Bs} {t : Nat} {d : Bs} {F G : Fs} (ht : t < 3) (hd : d.length ≤ 65520) (h : Saved nm t d F G) : latest (fileOf G nm) = some t ∧ valOf (fileOf G nm) = some d ∧ NotAll (fileOf G nm) := by
  have e : fileOf G nm t = some (some d) := by unfold fileOf; rw [h.2.1]; show some (whole _) = _; rw [whole_frame hd]
  have h1 := latest_of (f := fileOf G nm) ht (by rw [e]; rfl) (by rw [fileOf_gone (h.2.2.1 _ (Nat.mod_lt _ (by decide)) (by omega))]; rfl)
  exact ⟨h1.1, valOf_some h1.1 e, h1.2⟩

/-- Which names a slot may have. -/
def sname (n : Bs) : Bool := decide (1 ≤ n.length) && decide (n.length ≤ 8) && n.all fun c => decide (97 ≤ c.toNat) && decide (c.toNat ≤ 122)
theorem sname_len {n : Bs} (h : sname n = true) : 1 ≤ n.length ∧ n.length ≤ 8 := by
  unfold sname at h
  rw [Bool.and_eq_true, Bool.and_eq_true, decide_eq_true_eq, decide_eq_true_eq] at h
  exact h.1
theorem named_pth {nm : Bs} (h : sname nm = true) {t : Nat} (ht : t < 3) : named (pth nm t) = true := by
  have hl := sname_len h
  unfold sname at h
  rw [Bool.and_eq_true] at h
  unfold named
  rw [Bool.and_eq_true, Bool.and_eq_true, decide_eq_true_eq, decide_eq_true_eq]
  refine ⟨⟨by rw [pth_length]; omega, by rw [pth_length]; omega⟩, ?_⟩
  unfold pth
  rw [List.all_append, Bool.and_eq_true]
  refine ⟨?_, ?_⟩
  · rw [List.all_eq_true]
    intro c hc
    have := (List.all_eq_true.1 h.2) c hc
    rw [this]; rfl
  · rcases lt3 ht with rfl | rfl | rfl <;> decide

def rms (nm : Bs) : List Nat → DS → Int × DS
  | [], s => (0, s)
  | t :: l, s => if chgE s 3 (pth nm t) 0 [] = 0 then rms nm l (chgS s 3 (pth nm t) 0 []) else (chgE s 3 (pth nm t) 0 [], chgS s 3 (pth nm t) 0 [])
def syn (r : Int × DS) : Int × DS := if r.1 = 0 then (synE r.2, synS r.2) else r
def removeX (nm : Bs) (l : List Nat) (s : DS) : Int × DS := if l = [] then (0, s) else syn (rms nm l s)
def putX (nm : Bs) (t : Nat) (d : Bs) (s : DS) : Int × DS := syn (chgE s 1 (pth nm t) 0 (CoP.frame d), chgS s 1 (pth nm t) 0 (CoP.frame d))
def thenX (r : Int × DS) (f : DS → Int × DS) : Int × DS := if r.1 = 0 then f r.2 else r
def elder (nm : Bs) (s : DS) : Option Nat := latest (fileOf s.files nm)
def replaceX (nm d : Bs) (s : DS) : Int × DS :=
  thenX (removeX nm (aside (fileOf s.files nm) (elder nm s)) s) fun s1 => thenX (putX nm (next (elder nm s)) d s1) fun s2 => removeX nm (elder nm s).toList s2

theorem burnt_of {s : DS} (hf : s.fuse ≠ 1) : ∃ fu, burnt s = { s with fuse := fu } ∧ (s.fuse = 0 → fu = 0) := by
  unfold burnt
  by_cases h : s.fuse = 0
  · rw [if_pos h]; exact ⟨s.fuse, rfl, fun e => e⟩
  · rw [if_neg h, if_neg hf]; exact ⟨s.fuse - 1, rfl, fun e => absurd e h⟩
theorem burnt_1 {s : DS} (hf : s.fuse = 1) : burnt s = { s with fuse := 0, down := true } := by
  unfold burnt
  rw [if_neg (by omega), if_pos hf]
theorem kc_refused {s : DS} {k : Nat} {nm d : Bs} {off : Int} {e : Int} (h : Dk.refusal s k nm off d = e) (he : e ≠ 0) : chgE s k nm off d = e ∧ chgS s k nm off d = s := by
  unfold chgE chgS
  rw [h, if_pos he, if_pos he]
  exact ⟨rfl, rfl⟩
theorem kc_burnt {s : DS} {k : Nat} {nm d : Bs} {off : Int} (h : Dk.refusal s k nm off d = 0) (hf : s.fuse = 1) : chgE s k nm off d = 11 ∧ chgS s k nm off d = burnt s := by
  unfold chgE chgS burns
  simp [h, hf]
theorem kc_done {s : DS} {k : Nat} {nm d : Bs} {off : Int} (h : Dk.refusal s k nm off d = 0) (hf : s.fuse ≠ 1) : chgE s k nm off d = 0 ∧ chgS s k nm off d = { burnt s with unsure := s.unsure ++ [⟨k, nm, off.toNat, d⟩] } := by
  unfold chgE chgS burns
  simp [h, hf]
theorem rm_refused {s : DS} {n : Bs} (hd : s.down = false) (hu : Up s.sure) (hn : named n = true) : Dk.refusal s 3 n 0 [] = 0 := by
  have hup : Up s.files := up_all hu
  unfold Dk.refusal
  rw [if_neg (by rw [hd]; decide), if_neg (by rw [hn]; simp), if_neg (by omega), if_neg]
  have e : doW s.files ⟨3, n, (0 : Int).toNat, []⟩ = fdel n s.files := by unfold doW; rw [if_pos rfl]
  rw [e]
  have := (size_del n hup).1
  omega
theorem rm_one {s : DS} {nm : Bs} {t : Nat} (hd : s.down = false) (hu : Up s.sure) (hn : named (pth nm t) = true) :
    (s.fuse ≠ 1 ∧ chgE s 3 (pth nm t) 0 [] = 0 ∧ ∃ fu, (s.fuse = 0 → fu = 0) ∧ chgS s 3 (pth nm t) 0 [] = { s with fuse := fu, unsure := s.unsure ++ [rmW nm t] }) ∨
    (s.fuse = 1 ∧ chgE s 3 (pth nm t) 0 [] = 11 ∧ chgS s 3 (pth nm t) 0 [] = { s with fuse := 0, down := true }) := by
  have hr := rm_refused hd hu hn
  by_cases hf : s.fuse = 1
  · have h := kc_burnt hr hf
    exact .inr ⟨hf, h.1, by rw [h.2, burnt_1 hf]⟩
  · obtain ⟨fu, h1, h2⟩ := burnt_of hf
    have h := kc_done hr hf
    exact .inl ⟨hf, h.1, fu, h2, by rw [h.2, h1]; rfl⟩
theorem rms_out {nm : Bs} (hnm : sname nm = true) : ∀ (l : List Nat) (s : DS), (∀ t ∈ l, t < 3) → s.down = false → Up s.sure →
    ((rms nm l s).1 = 0 ∧ ∃ fu, (s.fuse = 0 → fu = 0) ∧ (rms nm l s).2 = { s with fuse := fu, unsure := s.unsure ++ l.map (rmW nm) }) ∨
    ((rms nm l s).1 = 11 ∧ s.fuse ≠ 0 ∧ ∃ k, k ≤ l.length ∧ (rms nm l s).2 = { s with fuse := 0, down := true, unsure := s.unsure ++ (l.take k).map (rmW nm) })
  | [], s, _, _, _ => .inl ⟨rfl, s.fuse, fun e => e, by simp [rms]⟩
  | t :: l, s, hl, hd, hu => by
    unfold rms
    rcases rm_one hd hu (named_pth hnm (hl t (by simp))) with ⟨_, h1, fu, h2, h3⟩ | ⟨h0, h1, h2⟩
    · rw [if_pos h1, h3]
      rcases rms_out hnm l { s with fuse := fu, unsure := s.unsure ++ [rmW nm t] } (fun u hu => hl u (by simp [hu])) hd hu with ⟨e1, fu2, e2, e3⟩ | ⟨e1, e2, k, e3, e4⟩
      · refine .inl ⟨e1, fu2, fun e => e2 (h2 e), ?_⟩
        rw [e3]; simp
      · refine .inr ⟨e1, fun e => e2 (h2 e), k + 1, by simp; omega, ?_⟩
        rw [e4]; simp
    · rw [if_neg (by rw [h1]; decide)]
      refine .inr ⟨h1, by omega, 0, by simp, ?_⟩
      rw [h2]; simp
theorem gone_stays {n : Bs} : ∀ {l : List W1} {F : Fs}, Up F → (∀ w ∈ l, w.kind = 3) → fget F n = none → fget (l.foldl doW F) n = none := by
  intro l F h hl hn
  rcases ((less_rms (N := fun _ => True) h (fun w hw => ⟨hl w hw, trivial⟩)).2 n).2 with e | e
  · rw [e]; exact hn
  · exact e
theorem rms_gone {nm : Bs} {t : Nat} : ∀ {l : List Nat} {F : Fs}, Up F → t ∈ l → fget ((l.map (rmW nm)).foldl doW F) (pth nm t) = none
  | u :: l, F, h, ht => by
    rw [List.map_cons, List.foldl_cons]
    have e : doW F (rmW nm u) = fdel (pth nm u) F := by unfold doW; rw [if_pos (show (rmW nm u).kind = 3 from rfl)]; rfl
    rw [e]
    rcases List.mem_cons.1 ht with rfl | ht
    · refine gone_stays (h.del _) (fun w hw => ?_) (by rw [fget_del, if_pos rfl])
      obtain ⟨_, _, rfl⟩ := List.mem_map.1 hw
      rfl
    · exact rms_gone (h.del _) ht
theorem syn_out {s : DS} (hd : s.down = false) : (s.fuse ≠ 1 ∧ synE s = 0 ∧ ∃ fu, (s.fuse = 0 → fu = 0) ∧ synS s = ⟨s.files, [], s.room, fu, false⟩) ∨ (s.fuse = 1 ∧ synE s = 11 ∧ synS s = { s with fuse := 0, down := true }) := by
  unfold synE synS
  rw [if_neg (show ¬ s.down = true by rw [hd]; decide)]
  by_cases hf : s.fuse = 1
  · refine .inr ⟨hf, ?_, ?_⟩
    · rw [if_pos (.inr (by unfold burns; simpa using hf))]
    · unfold burns; rw [if_pos (by simpa using hf), burnt_1 hf]
  · obtain ⟨fu, h1, h2⟩ := burnt_of hf
    refine .inl ⟨hf, ?_, fu, h2, ?_⟩
    · rw [if_neg]
      rintro (e | e)
      · rw [hd] at e; cases e
      · unfold burns at e; exact hf (by simpa using e)
    · unfold burns; rw [if_neg (by simpa using hf), h1, ← hd]
theorem remove_out {nm : Bs} (hnm : sname nm = true) {l : List Nat} (hl : ∀ t ∈ l, t < 3) {F : Fs} (hu : Up F) (room fuse : Int) :
    ((removeX nm l ⟨F, [], room, fuse, false⟩).1 = 0 ∧ ∃ G fu, (fuse = 0 → fu = 0) ∧ (removeX nm l ⟨F, [], room, fuse, false⟩).2 = ⟨G, [], room, fu, false⟩ ∧ Less (InL nm l) F G ∧ ∀ t ∈ l, fget G (pth nm t) = none) ∨
    ((removeX nm l ⟨F, [], room, fuse, false⟩).1 = 11 ∧ fuse ≠ 0 ∧ ∃ k, k ≤ l.length ∧ (removeX nm l ⟨F, [], room, fuse, false⟩).2 = ⟨F, (l.take k).map (rmW nm), room, 0, true⟩) := by
  unfold removeX
  by_cases h0 : l = []
  · rw [if_pos h0]
    exact .inl ⟨rfl, F, fuse, fun e => e, rfl, Less.refl _ hu, fun t ht => by rw [h0] at ht; cases ht⟩
  · rw [if_neg h0]
    rcases rms_out hnm l ⟨F, [], room, fuse, false⟩ hl rfl hu with ⟨e1, fu, e2, e3⟩ | ⟨e1, e2, k, e3, e4⟩
    · unfold syn
      rw [if_pos e1, e3]
      rcases syn_out (s := { (⟨F, [], room, fuse, false⟩ : DS) with fuse := fu, unsure := [] ++ l.map (rmW nm) }) rfl with ⟨_, f1, fu2, f2, f3⟩ | ⟨f0, f1, f2⟩
      · refine .inl ⟨f1, (l.map (rmW nm)).foldl doW F, fu2, fun e => f2 (e2 e), f3, ?_, fun t ht => rms_gone hu ht⟩
        refine less_rms hu (fun w hw => ?_)
        obtain ⟨t, ht, rfl⟩ := List.mem_map.1 hw
        exact ⟨rfl, t, ht, rfl⟩
      · refine .inr ⟨f1, fun e => ?_, l.length, Nat.le_refl _, ?_⟩
        · have := e2 e; simp only at f0; omega
        · rw [List.take_length]; exact f2
    · unfold syn
      rw [if_neg (by rw [e1]; decide)]
      exact .inr ⟨e1, e2, k, e3, by rw [e4]; rfl⟩
theorem put_new {F : Fs} {p d : Bs} (h : fget F p = none) : doW F ⟨1, p, 0, d⟩ = fput p d F := by
  unfold doW
  rw [if_neg (fun e => absurd (show (1 : Nat) = 3 from e) (by decide)), if_neg (fun e => absurd (show (1 : Nat) = 2 from e) (by decide))]
  have e : bytesOf F p = [] := by unfold bytesOf; rw [h]; rfl
  rw [e]
  simp [putB, padTo]
theorem torn_1 (w : W1) (hw : w.kind = 1) (t : Int) : torn t [w] = [w] ∨ ∃ k, k < w.data.length ∧ torn t [w] = [{ w with data := w.data.take k }] := by
  have e : torn t [w] = [if 0 ≤ t ∧ t < (w.data.length : Int) then { w with data := w.data.take t.toNat } else w] := by
    show (tornR t [w]).reverse = _
    simp only [tornR]
    rw [if_pos hw]
    rfl
  rw [e]
  by_cases h : 0 ≤ t ∧ t < (w.data.length : Int)
  · rw [if_pos h]
    exact .inr ⟨t.toNat, by omega, rfl⟩
  · rw [if_neg h]
    exact .inl rfl
theorem staying_1 (w : W1) (m : Nat) : staying m 0 [w] = [w] ∨ staying m 0 [w] = [] := by
  unfold staying
  split
  · exact .inl rfl
  · exact .inr rfl
theorem put_out {nm : Bs} (hnm : sname nm = true) {t : Nat} (ht : t < 3) {d : Bs} {F : Fs} (hu : Up F) (hlen : F.length ≤ 4000) (h0 : fget F (pth nm t) = none) (room fuse : Int) :
    ((putX nm t d ⟨F, [], room, fuse, false⟩).1 = 0 ∧ ∃ fu, (fuse = 0 → fu = 0) ∧ (putX nm t d ⟨F, [], room, fuse, false⟩).2 = ⟨fput (pth nm t) (CoP.frame d) F, [], room, fu, false⟩) ∨
    ((putX nm t d ⟨F, [], room, fuse, false⟩).1 = 10 ∧ room < (fsize F : Int) + d.length + 8 ∧ (putX nm t d ⟨F, [], room, fuse, false⟩).2 = ⟨F, [], room, fuse, false⟩) ∨
    ((putX nm t d ⟨F, [], room, fuse, false⟩).1 = 11 ∧ fuse ≠ 0 ∧ ((putX nm t d ⟨F, [], room, fuse, false⟩).2 = ⟨F, [], room, 0, true⟩ ∨ (putX nm t d ⟨F, [], room, fuse, false⟩).2 = ⟨F, [⟨1, pth nm t, 0, CoP.frame d⟩], room, 0, true⟩)) := by
  have hn := named_pth hnm ht
  have hfl : flen F (pth nm t) = 0 := by unfold flen; rw [h0]; rfl
  have hdo : doW F ⟨1, pth nm t, 0, CoP.frame d⟩ = fput (pth nm t) (CoP.frame d) F := put_new h0
  have hsz : fsize (fput (pth nm t) (CoP.frame d) F) = fsize F + (d.length + 8) := by
    have := (size_put (pth nm t) (CoP.frame d) hu).1
    rw [CoP.frame_length] at this
    omega
  have hfs : (⟨F, [], room, fuse, false⟩ : DS).files = F := rfl
  have hre : Dk.refusal ⟨F, [], room, fuse, false⟩ 1 (pth nm t) 0 (CoP.frame d) = if fsize F < fsize F + (d.length + 8) ∧ room < ((fsize F + (d.length + 8) : Nat) : Int) then 10 else 0 := by
    unfold Dk.refusal
    rw [if_neg (by simp), if_neg (by rw [hn]; simp), hfs, if_neg (by omega)]
    show (if fsize F < fsize (doW F ⟨1, pth nm t, (0 : Int).toNat, CoP.frame d⟩) ∧ room < (fsize (doW F ⟨1, pth nm t, (0 : Int).toNat, CoP.frame d⟩) : Int) then (10 : Int) else 0) = _
    rw [show (0 : Int).toNat = 0 from rfl, hdo, hsz]
  unfold putX
  by_cases hroom : room < ((fsize F + (d.length + 8) : Nat) : Int)
  · rw [if_pos ⟨by omega, hroom⟩] at hre
    have h := kc_refused hre (by decide)
    rw [h.1, h.2]
    exact .inr (.inl ⟨rfl, by omega, rfl⟩)
  · rw [if_neg (fun h => hroom h.2)] at hre
    by_cases hf : fuse = 1
    · have h := kc_burnt hre hf
      rw [h.1, h.2, burnt_1 (s := ⟨F, [], room, fuse, false⟩) hf]
      exact .inr (.inr ⟨rfl, by omega, .inl rfl⟩)
    · obtain ⟨fu, h1, h2⟩ := burnt_of (s := ⟨F, [], room, fuse, false⟩) hf
      have h := kc_done hre hf
      have e2 : chgS ⟨F, [], room, fuse, false⟩ 1 (pth nm t) 0 (CoP.frame d) = ⟨F, [⟨1, pth nm t, 0, CoP.frame d⟩], room, fu, false⟩ := by rw [h.2, h1]; rfl
      rw [h.1, e2]
      unfold syn
      rw [if_pos rfl]
      rcases syn_out (s := ⟨F, [⟨1, pth nm t, 0, CoP.frame d⟩], room, fu, false⟩) rfl with ⟨_, f1, fu2, f2, f3⟩ | ⟨f0, f1, f2⟩
      · refine .inl ⟨f1, fu2, fun e => f2 (h2 e), ?_⟩
        have e3 : (⟨F, [⟨1, pth nm t, 0, CoP.frame d⟩], room, fu, false⟩ : DS).files = fput (pth nm t) (CoP.frame d) F := hdo
        rw [← e3]
        exact f3
      · exact .inr (.inr ⟨f1, fun e => by have := h2 e; simp only at f0; omega, .inr f2⟩)

/-- What a Save of d comes to, on a disk on which all is sure. -/
def Out (nm : Bs) (F : Fs) (room fuse : Int) (d : Bs) (r : Int × DS) : Prop :=
  (r.1 = 0 ∧ ∃ G fu, (fuse = 0 → fu = 0) ∧ r.2 = ⟨G, [], room, fu, false⟩ ∧ Saved nm (next (latest (fileOf F nm))) d F G) ∨
  (r.1 = 10 ∧ room < (fsize F : Int) + d.length + 8 ∧ ∃ G fu, r.2 = ⟨G, [], room, fu, false⟩ ∧ Up G ∧ (∀ n, ¬ Mine nm n → fget G n = fget F n) ∧ valOf (fileOf G nm) = valOf (fileOf F nm) ∧ NotAll (fileOf G nm)) ∨
  (r.1 = 11 ∧ fuse ≠ 0 ∧ r.2.cnt ≤ F.length + 4 ∧ ∀ m t, ∃ G, falS r.2 m t = ⟨G, [], room, 0, false⟩ ∧ Up G ∧ (∀ n, ¬ Mine nm n → fget G n = fget F n) ∧ (valOf (fileOf G nm) = valOf (fileOf F nm) ∨ valOf (fileOf G nm) = some d) ∧ NotAll (fileOf G nm))
theorem len_less {N : Bs → Prop} {F G : Fs} (hF : Up F) (h : Less N F G) : fsize G ≤ fsize F ∧ G.length ≤ F.length := by
  have hsub : ∀ (F G : Fs), Up F → Up G → (∀ n, fget G n = fget F n ∨ fget G n = none) → fsize G ≤ fsize F ∧ G.length ≤ F.length := by
    intro F
    induction F with
    | nil =>
      intro G _ _ h
      cases G with
      | nil => exact ⟨Nat.le_refl _, Nat.le_refl _⟩
      | cons q s =>
        rcases h q.1 with e | e
        · rw [fget_cons, if_pos rfl] at e; cases e
        · rw [fget_cons, if_pos rfl] at e; cases e
    | cons p r ih =>
      intro G hF hG h
      obtain ⟨f1, f2⟩ := List.pairwise_cons.1 hF
      have hr : fget r p.1 = none := fget_behind f1 (blt_irrefl _)
      cases hc : fget G p.1 with
      | none =>
        have := ih G f2 hG (fun n => by
          by_cases e : p.1 = n
          · subst e; exact .inr hc
          · have := h n
            rw [fget_cons, if_neg e] at this
            exact this)
        rw [fsize_cons, List.length_cons]
        omega
      | some b =>
        have hb : b = p.2 := by
          rcases h p.1 with e | e
          · rw [hc, fget_cons, if_pos rfl] at e; injection e
          · rw [hc] at e; cases e
        have hd := size_del p.1 hG
        have := ih (fdel p.1 G) f2 (hG.del _) (fun n => by
          rw [fget_del]
          by_cases e : p.1 = n
          · exact .inr (by rw [if_pos e.symm])
          · rw [if_neg (fun x => e x.symm)]
            have := h n
            rw [fget_cons, if_neg e] at this
            exact this)
        have hfl : flen G p.1 = p.2.length := by unfold flen; rw [hc, hb]; rfl
        rw [hfl, hc] at hd
        rw [fsize_cons, List.length_cons]
        simp at hd
        omega
  exact hsub F G hF h.1 (fun n => (h.2 n).2)
theorem mine_of {nm : Bs} {l : List Nat} (hl : ∀ t ∈ l, t < 3) {n : Bs} (h : InL nm l n) : Mine nm n := by
  obtain ⟨t, ht, e⟩ := h
  exact ⟨t, hl t ht, e⟩
theorem replace_out {nm : Bs} (hnm : sname nm = true) {F : Fs} (hu : Up F) (hlen : F.length ≤ 4000) (hna : NotAll (fileOf F nm)) {d : Bs} (hd : d.length ≤ 65520) (room fuse : Int) :
    Out nm F room fuse d (replaceX nm d ⟨F, [], room, fuse, false⟩) := by
  have hel : elder nm ⟨F, [], room, fuse, false⟩ = latest (fileOf F nm) := rfl
  have hfs : (⟨F, [], room, fuse, false⟩ : DS).files = F := rfl
  unfold replaceX
  rw [hel, hfs]
  have hal : ∀ t ∈ aside (fileOf F nm) (latest (fileOf F nm)), t < 3 := fun t ht => (aside_mem.1 ht).1
  have hal3 : (aside (fileOf F nm) (latest (fileOf F nm))).length ≤ 3 := by unfold aside; exact Nat.le_trans (List.length_filter_le _ _) (by decide)
  rcases remove_out hnm hal hu room fuse with ⟨a1, F1, fu1, a2, a3, a4, a5⟩ | ⟨a1, a2, k, a3, a4⟩
  · rw [thenX, if_pos a1, a3]
    have hv1 := less_val hna a4
    have hl1 := len_less hu a4
    -- the slot's files now: the value's alone
    have hno : ∀ u, u < 3 → some u ≠ latest (fileOf F nm) → fget F1 (pth nm u) = none := by
      intro u hu3 hne
      cases hs : (fileOf F nm u).isSome with
      | true => exact a5 u (aside_mem.2 ⟨hu3, hs, hne⟩)
      | false =>
        have hn : fget F (pth nm u) = none := by
          unfold fileOf at hs
          cases hc : fget F (pth nm u) with
          | none => rfl
          | some b => rw [hc] at hs; cases hs
        rcases (a4.2 (pth nm u)).2 with e | e
        · rw [e]; exact hn
        · exact e
    have hmine1 : ∀ n, ¬ Mine nm n → fget F1 n = fget F n := fun n hn => (a4.2 n).1 (fun e => hn (mine_of hal e))
    generalize hEL : latest (fileOf F nm) = el at *
    have hnx := next_lt el
    have hne : some (next el) ≠ el := by
      cases el with
      | none => intro e; cases e
      | some t =>
        intro e
        have ht := latest_lt hEL
        injection e with e
        unfold next at e
        simp only at e
        omega
    have hne2 : some ((next el + 1) % 3) ≠ el := by
      cases el with
      | none => intro e; cases e
      | some t =>
        intro e
        have ht := latest_lt hEL
        injection e with e
        unfold next at e
        simp only at e
        omega
    have h0 := hno (next el) hnx hne
    -- the value behind a put of the frame, or of a part of it
    have hfull : ∀ G, Up G → fget G (pth nm (next el)) = some (CoP.frame d) → fget G (pth nm ((next el + 1) % 3)) = none → valOf (fileOf G nm) = some d ∧ NotAll (fileOf G nm) := by
      intro G _ h1 h2
      have e : fileOf G nm (next el) = some (some d) := by unfold fileOf; rw [h1]; show some (whole _) = _; rw [whole_frame hd]
      have h3 := latest_of (f := fileOf G nm) hnx (by rw [e]; rfl) (by rw [fileOf_gone h2]; rfl)
      exact ⟨valOf_some h3.1 e, h3.2⟩
    have hput : ∀ b n, fget (fput (pth nm (next el)) b F1) n = if n = pth nm (next el) then some b else fget F1 n := fun b n => fget_put _ _ _ _
    have hnp : ∀ u, u < 3 → u ≠ next el → pth nm u ≠ pth nm (next el) := fun u h1 h2 e => h2 (pth_inj h1 hnx e)
    have hn1 : (next el + 1) % 3 < 3 := Nat.mod_lt _ (by decide)
    have hn2 : (next el + 1) % 3 ≠ next el := by omega
    have hpart : ∀ k, k < (CoP.frame d).length → valOf (fileOf (fput (pth nm (next el)) ((CoP.frame d).take k) F1) nm) = valOf (fileOf F nm) ∧ NotAll (fileOf (fput (pth nm (next el)) ((CoP.frame d).take k) F1) nm) := by
      intro k hk
      have hG : ∀ u, u < 3 → isW (fileOf (fput (pth nm (next el)) ((CoP.frame d).take k) F1) nm u) = isW (fileOf F1 nm u) ∧ (u ≠ next el → fileOf (fput (pth nm (next el)) ((CoP.frame d).take k) F1) nm u = fileOf F1 nm u) := by
        intro u hu3
        by_cases e : u = next el
        · subst e
          refine ⟨?_, fun x => absurd rfl x⟩
          rw [fileOf_gone h0]
          unfold fileOf
          rw [hput, if_pos rfl]
          show isW (some (whole _)) = _
          rw [whole_part hd hk]
          rfl
        · have e2 := fileOf_same (F := F1) (G := fput (pth nm (next el)) ((CoP.frame d).take k) F1) (nm := nm) (t := u) (by rw [hput, if_neg (hnp u hu3 e)])
          exact ⟨by rw [e2], fun _ => e2⟩
      have hlt : latest (fileOf (fput (pth nm (next el)) ((CoP.frame d).take k) F1) nm) = latest (fileOf F1 nm) := by
        unfold latest
        rw [(hG 0 (by decide)).1, (hG 1 (by decide)).1, (hG 2 (by decide)).1]
      refine ⟨?_, ?_⟩
      · rw [← hv1.2.1]
        unfold valOf
        rw [hlt, hv1.1]
        cases el with
        | none => rfl
        | some t =>
          show (fileOf _ nm t).getD none = (fileOf F1 nm t).getD none
          rw [(hG t (latest_lt hEL)).2 (fun e => hne (by rw [← e]))]
      · unfold NotAll
        rw [(hG 0 (by decide)).1, (hG 1 (by decide)).1, (hG 2 (by decide)).1]
        exact hv1.2.2
    have hup2 : ∀ b, Up (fput (pth nm (next el)) b F1) := fun b => a4.1.put _ _
    have hmine2 : ∀ b n, ¬ Mine nm n → fget (fput (pth nm (next el)) b F1) n = fget F n := fun b n hn => by
      rw [hput, if_neg (fun e => hn ⟨_, hnx, e⟩)]
      exact hmine1 n hn
    rcases put_out hnm hnx (d := d) a4.1 (by omega) h0 room fu1 with ⟨b1, fu2, b2, b3⟩ | ⟨b1, b2, b3⟩ | ⟨b1, b2, b3⟩
    · rw [thenX, if_pos b1, b3]
      have hetl : ∀ t ∈ el.toList, t < 3 := fun t ht => by
        cases el with
        | none => cases ht
        | some u =>
          have : t = u := by simpa using ht
          subst this
          exact latest_lt hEL
      have hel1 : ¬ InL nm el.toList (pth nm (next el)) := by
        rintro ⟨t, ht, e⟩
        have := pth_inj hnx (hetl t ht) e
        subst this
        cases el with
        | none => cases ht
        | some u =>
          have : next (some u) = u := by simpa using ht
          exact hne (by rw [this])
      rcases remove_out hnm hetl (hup2 (CoP.frame d)) room fu2 with ⟨c1, F3, fu3, c2, c3, c4, c5⟩ | ⟨c1, c2, k, c3, c4⟩
      · refine .inl ⟨c1, F3, fu3, fun e => c2 (b2 (a2 e)), c3, ?_⟩
        rw [hEL]
        refine ⟨c4.1, ?_, ?_, ?_⟩
        · rw [(c4.2 _).1 hel1, hput, if_pos rfl]
        · intro u hu3 hune
          by_cases e : some u = el
          · exact c5 u (by rw [← e]; simp)
          · rcases (c4.2 (pth nm u)).2 with x | x
            · rw [x, hput, if_neg (hnp u hu3 hune)]
              exact hno u hu3 e
            · exact x
        · intro n hn
          rw [(c4.2 n).1 (fun e => hn (mine_of hetl e)), hmine2 _ n hn]
      · refine .inr (.inr ⟨c1, fun e => c2 (b2 (a2 e)), ?_, fun m t => ?_⟩)
        · rw [c4]
          unfold DS.cnt
          have h1 := (size_put (pth nm (next el)) (CoP.frame d) a4.1).2
          have h2 : (el.toList.take k).length ≤ 1 := by
            rw [List.length_take]
            cases el <;> simp <;> omega
          simp only [List.length_map]
          rw [h1]
          split <;> omega
        · rw [c4]
          obtain ⟨G, g1, g2⟩ := fall_rms (s := ⟨fput (pth nm (next el)) (CoP.frame d) F1, (el.toList.take k).map (rmW nm), room, 0, true⟩) (N := InL nm el.toList) (hup2 _) (fun w hw => by
            obtain ⟨t, ht, rfl⟩ := List.mem_map.1 hw
            exact ⟨rfl, t, List.mem_of_mem_take ht, rfl⟩) m t
          have g3 : fget G (pth nm (next el)) = some (CoP.frame d) := by rw [(g2.2 _).1 hel1]; show fget (fput _ _ _) _ = _; rw [hput, if_pos rfl]
          have g4 : fget G (pth nm ((next el + 1) % 3)) = none := by
            rcases (g2.2 (pth nm ((next el + 1) % 3))).2 with x | x
            · rw [x]
              show fget (fput _ _ _) _ = _
              rw [hput, if_neg (hnp _ hn1 hn2)]
              exact hno _ hn1 hne2
            · exact x
          have g5 := hfull G g2.1 g3 g4
          refine ⟨G, g1, g2.1, fun n hn => ?_, .inr g5.1, g5.2⟩
          rw [(g2.2 n).1 (fun e => hn (mine_of hetl e))]
          exact hmine2 _ n hn
    · rw [thenX, if_neg (by rw [b1]; decide)]
      exact .inr (.inl ⟨b1, by omega, F1, fu1, b3, a4.1, hmine1, hv1.2.1, hv1.2.2⟩)
    · rw [thenX, if_neg (by rw [b1]; decide)]
      refine .inr (.inr ⟨b1, fun e => b2 (a2 e), ?_, fun m t => ?_⟩)
      · rcases b3 with b3 | b3 <;> rw [b3] <;> unfold DS.cnt <;> simp <;> omega
      · rcases b3 with b3 | b3 <;> rw [b3]
        · exact ⟨F1, rfl, a4.1, hmine1, .inl hv1.2.1, hv1.2.2⟩
        · rcases staying_1 ⟨1, pth nm (next el), 0, CoP.frame d⟩ m with e | e
          · rcases torn_1 ⟨1, pth nm (next el), 0, CoP.frame d⟩ rfl t with e2 | ⟨k, hk, e2⟩
            · refine ⟨fput (pth nm (next el)) (CoP.frame d) F1, ?_, hup2 _, hmine2 _, .inr (hfull _ (hup2 _) (by rw [hput, if_pos rfl]) ?_).1, (hfull _ (hup2 _) (by rw [hput, if_pos rfl]) ?_).2⟩
              · unfold falS
                show (⟨(torn t (staying m 0 [_])).foldl doW F1, [], room, 0, false⟩ : DS) = _
                rw [e, e2, List.foldl_cons, List.foldl_nil, put_new h0]
              all_goals rw [hput, if_neg (hnp _ hn1 hn2)]; exact hno _ hn1 hne2
            · have hp := hpart k hk
              refine ⟨fput (pth nm (next el)) ((CoP.frame d).take k) F1, ?_, hup2 _, hmine2 _, .inl hp.1, hp.2⟩
              unfold falS
              show (⟨(torn t (staying m 0 [_])).foldl doW F1, [], room, 0, false⟩ : DS) = _
              rw [e, e2, List.foldl_cons, List.foldl_nil]
              show (⟨doW F1 ⟨1, pth nm (next el), 0, (CoP.frame d).take k⟩, [], room, 0, false⟩ : DS) = _
              rw [put_new h0]
          · refine ⟨F1, ?_, a4.1, hmine1, .inl hv1.2.1, hv1.2.2⟩
            unfold falS
            show (⟨(torn t (staying m 0 [_])).foldl doW F1, [], room, 0, false⟩ : DS) = _
            rw [e]
            rfl
  · rw [thenX, if_neg (by rw [a1]; decide)]
    refine .inr (.inr ⟨a1, a2, ?_, fun m t => ?_⟩)
    · rw [a4]
      unfold DS.cnt
      simp only [List.length_map, List.length_take]
      omega
    · rw [a4]
      obtain ⟨G, g1, g2⟩ := fall_rms (s := ⟨F, ((aside (fileOf F nm) (latest (fileOf F nm))).take k).map (rmW nm), room, 0, true⟩) (N := InL nm (aside (fileOf F nm) (latest (fileOf F nm)))) hu (fun w hw => by
        obtain ⟨t, ht, rfl⟩ := List.mem_map.1 hw
        exact ⟨rfl, t, List.mem_of_mem_take ht, rfl⟩) m t
      have hv := less_val hna g2
      exact ⟨G, g1, g2.1, fun n hn => (g2.2 n).1 (fun e => hn (mine_of hal e)), .inl hv.2.1, hv.2.2⟩
end Go.Proofs.YtjnmolpopjapnaaDoor.So
