/- A disk as a plain value: files by rising names, changes, what a change, a fall and a call come to. No program, no walk. | What types of package disk are: closed facts. | What of memory a call may write; bytes in given blocks; a file's pieces as a map in memory. No walk. | Files in memory behind a put and a removal of one of them. No walk. -/
import Derived.Test.YtnjifhbooikdbaaGreatDoorProg
import Derived.WideAt
import Derived.WideShapes
import Derived.Laws.OwnMore
import Derived.Test.YtnjifhbooikdbaaGreatDoorEA
import Derived.Test.YtnjifhbooikdbaaGreatDoorBy
/-! A disk as a plain value: files by rising names, changes, what a change, a fall and a call come to. No program, no walk. -/
namespace Go.Proofs.YtnjifhbooikdbaaGreatDoor.Dk

abbrev Bs := List UInt8
abbrev Fs := List (Bs × Bs)
/-- One name is ahead of another one. -/
def blt (a b : Bs) : Bool := bytesBefore a b
theorem blt_irrefl (a : Bs) : blt a a = false := WideAt.bytes_irrefl a
theorem blt_total {a b : Bs} (h : a ≠ b) : blt a b = true ∨ blt b a = true := WideAt.bytes_total a b h
theorem blt_trans {a b c : Bs} (h : blt a b = true) (k : blt b c = true) : blt a c = true := WideShapes.bytes_trans a b c h k
theorem blt_less : ∀ a b : Bs, Op.bytesLess a b = blt a b
  | [], [] => rfl
  | [], _ :: _ => rfl
  | _ :: _, [] => rfl
  | a :: r, b :: s => by
    show (decide (a < b) || (a == b && Op.bytesLess r s)) = (decide (a < b) || (a == b && bytesBefore r s))
    rw [blt_less r s]; rfl
theorem blt_ne {a b : Bs} (h : blt a b = true) : a ≠ b := fun e => by rw [e, blt_irrefl] at h; cases h
theorem blt_asymm {a b : Bs} (h : blt a b = true) : blt b a = false := by
  cases k : blt b a
  · rfl
  · have := blt_trans h k; rw [blt_irrefl] at this; cases this

/-- Names rise. -/
def Up (F : Fs) : Prop := F.Pairwise fun p q => blt p.1 q.1 = true
def fget (F : Fs) (n : Bs) : Option Bs := (F.find? fun p => p.1 == n).map (·.2)
def fput (n b : Bs) : Fs → Fs
  | [] => [(n, b)]
  | p :: r => if blt p.1 n = true then p :: fput n b r else if p.1 = n then (n, b) :: r else (n, b) :: p :: r
def fdel (n : Bs) (F : Fs) : Fs := F.filter fun p => !(p.1 == n)
theorem fget_nil (n : Bs) : fget [] n = none := rfl
theorem fget_cons (p : Bs × Bs) (r : Fs) (n : Bs) : fget (p :: r) n = if p.1 = n then some p.2 else fget r n := by
  unfold fget
  by_cases h : p.1 = n
  · rw [List.find?_cons_of_pos (by simp [h]), if_pos h]; rfl
  · rw [List.find?_cons_of_neg (by simp [h]), if_neg h]
theorem fget_put (n b : Bs) (m : Bs) : ∀ F : Fs, fget (fput n b F) m = if m = n then some b else fget F m
  | [] => by
    simp only [fput, fget_cons, fget_nil]
    by_cases h : m = n
    · rw [if_pos h.symm, if_pos h]
    · rw [if_neg (fun e => h e.symm), if_neg h]
  | p :: r => by
    simp only [fput]
    by_cases h1 : blt p.1 n = true
    · rw [if_pos h1, fget_cons, fget_put n b m r, fget_cons]
      by_cases h : m = n
      · subst h
        rw [if_neg (blt_ne h1), if_pos rfl, if_pos rfl]
      · rw [if_neg h, if_neg h]
    · rw [if_neg h1]
      by_cases h2 : p.1 = n
      · rw [if_pos h2, fget_cons, fget_cons]
        by_cases h : m = n
        · rw [if_pos h.symm, if_pos h]
        · rw [if_neg (fun e => h e.symm), if_neg h, if_neg (fun e => h (e.symm.trans h2))]
      · rw [if_neg h2, fget_cons]
        by_cases h : m = n
        · rw [if_pos h.symm, if_pos h]
        · rw [if_neg (fun e => h e.symm), if_neg h]
theorem fget_del (n m : Bs) : ∀ F : Fs, fget (fdel n F) m = if m = n then none else fget F m
  | [] => by
    by_cases h : m = n
    · rw [if_pos h]; rfl
    · rw [if_neg h]; rfl
  | p :: r => by
    by_cases h2 : p.1 = n
    · have e : fdel n (p :: r) = fdel n r := by simp [fdel, h2]
      rw [e, fget_del n m r, fget_cons]
      by_cases h : m = n
      · rw [if_pos h, if_pos h]
      · rw [if_neg h, if_neg h, if_neg (fun e => h (e.symm.trans h2))]
    · have e : fdel n (p :: r) = p :: fdel n r := by simp [fdel, h2]
      rw [e, fget_cons, fget_del n m r, fget_cons]
      by_cases h : m = n
      · subst h; rw [if_neg h2, if_pos rfl, if_pos rfl]
      · rw [if_neg h, if_neg h]
theorem mem_put {n b : Bs} {q : Bs × Bs} : ∀ {F : Fs}, q ∈ fput n b F → q = (n, b) ∨ q ∈ F
  | [], h => by simp [fput] at h; exact .inl h
  | p :: r, h => by
    simp only [fput] at h
    split at h
    · rcases List.mem_cons.1 h with rfl | h
      · exact .inr (by simp)
      · rcases mem_put h with h | h
        · exact .inl h
        · exact .inr (by simp [h])
    · split at h
      · rcases List.mem_cons.1 h with rfl | h
        · exact .inl rfl
        · exact .inr (by simp [h])
      · rcases List.mem_cons.1 h with rfl | h
        · exact .inl rfl
        · exact .inr h
theorem Up.put (n b : Bs) : ∀ {F : Fs}, Up F → Up (fput n b F)
  | [], _ => by simp [fput, Up]
  | p :: r, h => by
    obtain ⟨h1, h2⟩ := List.pairwise_cons.1 h
    simp only [fput]
    split
    · rename_i hp
      refine List.pairwise_cons.2 ⟨fun q hq => ?_, Up.put n b h2⟩
      rcases mem_put hq with rfl | hq
      · exact hp
      · exact h1 q hq
    · split
      · rename_i hp
        refine List.pairwise_cons.2 ⟨fun q hq => ?_, h2⟩
        have := h1 q hq
        rw [hp] at this
        exact this
      · rename_i hp hn
        have hnp : blt n p.1 = true := by
          rcases blt_total hn with h | h
          · exact absurd h hp
          · exact h
        refine List.pairwise_cons.2 ⟨fun q hq => ?_, h⟩
        rcases List.mem_cons.1 hq with rfl | hq
        · exact hnp
        · exact blt_trans hnp (h1 q hq)
theorem Up.del (n : Bs) {F : Fs} (h : Up F) : Up (fdel n F) := List.Pairwise.filter _ h
theorem fget_mem {F : Fs} (h : Up F) {p : Bs × Bs} (hp : p ∈ F) : fget F p.1 = some p.2 := by
  induction F with
  | nil => cases hp
  | cons q r ih =>
    obtain ⟨h1, h2⟩ := List.pairwise_cons.1 h
    rw [fget_cons]
    rcases List.mem_cons.1 hp with rfl | hp
    · rw [if_pos rfl]
    · rw [if_neg (blt_ne (h1 p hp)), ih h2 hp]
theorem mem_fget {F : Fs} {n b : Bs} (h : fget F n = some b) : (n, b) ∈ F := by
  induction F with
  | nil => cases h
  | cons q r ih =>
    rw [fget_cons] at h
    split at h
    · rename_i e
      injection h with h
      subst e h
      exact .head _
    · exact .tail _ (ih h)
theorem up_ext : ∀ {F G : Fs}, Up F → Up G → (∀ n, fget F n = fget G n) → F = G
  | [], [], _, _, _ => rfl
  | [], q :: s, _, _, h => by have := h q.1; rw [fget_cons, if_pos rfl] at this; cases this
  | p :: r, [], _, _, h => by have := h p.1; rw [fget_cons, if_pos rfl] at this; cases this
  | p :: r, q :: s, hF, hG, h => by
    obtain ⟨f1, f2⟩ := List.pairwise_cons.1 hF
    obtain ⟨g1, g2⟩ := List.pairwise_cons.1 hG
    have e1 : p.1 = q.1 := by
      apply Classical.byContradiction
      intro hne
      rcases blt_total hne with hlt | hlt
      · have hm := h p.1
        rw [fget_cons, if_pos rfl] at hm
        rcases List.mem_cons.1 (mem_fget hm.symm) with e | hm
        · exact hne (congrArg Prod.fst e)
        · have := g1 _ hm
          have := blt_trans hlt this
          rw [blt_irrefl] at this; cases this
      · have hm := h q.1
        rw [fget_cons q, if_pos rfl] at hm
        rcases List.mem_cons.1 (mem_fget hm) with e | hm
        · exact hne (congrArg Prod.fst e).symm
        · have := f1 _ hm
          have := blt_trans hlt this
          rw [blt_irrefl] at this; cases this
    have e2 : p.2 = q.2 := by
      have hm := h p.1
      rw [fget_cons, if_pos rfl, fget_cons, if_pos e1.symm] at hm
      injection hm
    have e3 : r = s := up_ext f2 g2 fun n => by
      have hm := h n
      rw [fget_cons, fget_cons, e1, e2] at hm
      by_cases hn : q.1 = n
      · subst hn
        have hr : fget r q.1 = none := by
          cases hc : fget r q.1 with
          | none => rfl
          | some b => have := f1 _ (mem_fget hc); rw [e1, blt_irrefl] at this; cases this
        have hs : fget s q.1 = none := by
          cases hc : fget s q.1 with
          | none => rfl
          | some b => have := g1 _ (mem_fget hc); rw [blt_irrefl] at this; cases this
        rw [hr, hs]
      · rw [if_neg hn, if_neg hn] at hm
        exact hm
    rw [e3]
    exact congrArg (· :: s) (Prod.ext e1 e2)

/-- How many bytes files have. -/
def fsize (F : Fs) : Nat := (F.map fun p => p.2.length).sum
theorem fsize_cons (p : Bs × Bs) (r : Fs) : fsize (p :: r) = p.2.length + fsize r := by simp [fsize]
def flen (F : Fs) (n : Bs) : Nat := ((fget F n).getD []).length
theorem fget_behind {p : Bs × Bs} {r : Fs} (h : ∀ q ∈ r, blt p.1 q.1 = true) {n : Bs} (hn : blt p.1 n = false) : fget r n = none := by
  cases hc : fget r n with
  | none => rfl
  | some b => have := h _ (mem_fget hc); rw [hn] at this; cases this
theorem size_put (n b : Bs) : ∀ {F : Fs}, Up F → fsize (fput n b F) + flen F n = fsize F + b.length ∧ (fput n b F).length = F.length + (if (fget F n).isSome then 0 else 1)
  | [], _ => ⟨by simp [fput, fsize, flen, fget], by simp [fput, fget]⟩
  | p :: r, h => by
    obtain ⟨h1, h2⟩ := List.pairwise_cons.1 h
    simp only [fput]
    split
    · rename_i hp
      have ih := size_put n b h2
      have e : fget (p :: r) n = fget r n := by rw [fget_cons, if_neg (blt_ne hp)]
      unfold flen at ih ⊢
      rw [e, fsize_cons, fsize_cons, List.length_cons, List.length_cons, ih.2]
      constructor
      · have := ih.1; omega
      · omega
    · rename_i hp
      have hp : blt p.1 n = false := by simpa using hp
      split
      · rename_i hn
        unfold flen
        rw [fget_cons, if_pos hn, fsize_cons, fsize_cons]
        exact ⟨show b.length + fsize r + p.2.length = p.2.length + fsize r + b.length by omega, rfl⟩
      · rename_i hn
        unfold flen
        rw [fget_cons, if_neg hn, fget_behind h1 hp, fsize_cons]
        simp; omega
theorem size_del (n : Bs) : ∀ {F : Fs}, Up F → fsize (fdel n F) + flen F n = fsize F ∧ (fdel n F).length + (if (fget F n).isSome then 1 else 0) = F.length
  | [], _ => ⟨by simp [fdel, fsize, flen, fget], by simp [fdel, fget]⟩
  | p :: r, h => by
    obtain ⟨h1, h2⟩ := List.pairwise_cons.1 h
    by_cases hn : p.1 = n
    · have e : fdel n (p :: r) = fdel n r := by simp [fdel, hn]
      have hr : fget r n = none := fget_behind h1 (by rw [hn]; exact blt_irrefl _)
      have ih := size_del n h2
      unfold flen at ih ⊢
      rw [hr] at ih
      simp at ih
      rw [e, fget_cons, if_pos hn, fsize_cons, ih.1]
      simp [ih.2]; omega
    · have e : fdel n (p :: r) = p :: fdel n r := by simp [fdel, hn]
      have ih := size_del n h2
      unfold flen at ih ⊢
      rw [e, fget_cons, if_neg hn, fsize_cons, fsize_cons, List.length_cons, List.length_cons]
      omega

/-- A file's bytes behind a Put, a Cut. -/
def padTo (b : Bs) (n : Nat) : Bs := b ++ List.replicate (n - b.length) 0
def putB (b : Bs) (off : Nat) (d : Bs) : Bs := (padTo b off).take off ++ d ++ b.drop (off + d.length)
def cutB (b : Bs) (n : Nat) : Bs := (padTo b n).take n
theorem putB_length (b : Bs) (off : Nat) (d : Bs) : (putB b off d).length = max b.length (off + d.length) := by
  simp [putB, padTo]; omega
theorem cutB_length (b : Bs) (n : Nat) : (cutB b n).length = n := by
  simp [cutB, padTo]; omega
theorem padTo_get (b : Bs) (n j : Nat) : (padTo b n).getD j 0 = b.getD j 0 := by
  simp only [padTo, List.getD_eq_getElem?_getD]
  by_cases h : j < b.length
  · rw [List.getElem?_append_left h]
  · rw [List.getElem?_append_right (by omega), List.getElem?_eq_none (show b.length ≤ j by omega)]
    by_cases h2 : j - b.length < n - b.length
    · rw [List.getElem?_replicate, if_pos h2]; rfl
    · rw [List.getElem?_replicate, if_neg h2]
theorem cutB_get (b : Bs) (n j : Nat) : (cutB b n).getD j 0 = if j < n then b.getD j 0 else 0 := by
  have h0 := padTo_get b n j
  simp only [cutB, List.getD_eq_getElem?_getD] at h0 ⊢
  by_cases h : j < n
  · rw [if_pos h, List.getElem?_take_of_lt h, h0]
  · rw [if_neg h, List.getElem?_eq_none (by simp; omega)]; rfl
theorem putB_get (b : Bs) (off : Nat) (d : Bs) (j : Nat) : (putB b off d).getD j 0 = if off ≤ j ∧ j < off + d.length then d.getD (j - off) 0 else b.getD j 0 := by
  have h0 := padTo_get b off j
  have hl : ((padTo b off).take off).length = off := by simp [padTo]; omega
  simp only [putB, List.getD_eq_getElem?_getD] at h0 ⊢
  by_cases h1 : j < off
  · rw [if_neg (by omega), List.append_assoc, List.getElem?_append_left (by omega), List.getElem?_take_of_lt h1, h0]
  · rw [List.append_assoc, List.getElem?_append_right (by omega), hl]
    by_cases h2 : j < off + d.length
    · rw [if_pos ⟨by omega, h2⟩, List.getElem?_append_left (by omega)]
    · rw [if_neg (by omega), List.getElem?_append_right (by omega), List.getElem?_drop, show off + d.length + (j - off - d.length) = j by omega]
theorem bs_ext {a b : Bs} (hl : a.length = b.length) (h : ∀ j, j < a.length → a.getD j 0 = b.getD j 0) : a = b := by
  apply List.ext_getElem hl
  intro j h1 h2
  have := h j h1
  simp only [List.getD_eq_getElem?_getD, List.getElem?_eq_getElem h1, List.getElem?_eq_getElem h2, Option.getD_some] at this
  exact this

/-- A change. -/
structure W1 where
  kind : Nat
  name : Bs
  off : Nat
  data : Bs
/-- How many bytes a file of so many has behind a change. -/
def behind (n : Nat) (w : W1) : Nat := if w.kind = 1 then max n (w.off + w.data.length) else if w.kind = 2 then w.off else 0
def bytesOf (F : Fs) (n : Bs) : Bs := (fget F n).getD []
/-- Files behind a change. -/
def doW (F : Fs) (w : W1) : Fs :=
  if w.kind = 3 then fdel w.name F else fput w.name (if w.kind = 2 then cutB (bytesOf F w.name) w.off else putB (bytesOf F w.name) w.off w.data) F
/-- A change that may be. -/
def OkW (w : W1) : Prop := 1 ≤ w.kind ∧ w.kind ≤ 3 ∧ w.off + w.data.length ≤ 4194304 ∧ w.name.length ≤ 32
def Fit (F : Fs) : Prop := ∀ p ∈ F, p.2.length ≤ 4194304 ∧ p.1.length ≤ 32
theorem Up.doW {F : Fs} (h : Up F) (w : W1) : Up (doW F w) := by
  unfold Dk.doW
  split
  · exact h.del _
  · exact h.put _ _
theorem bytesOf_le {F : Fs} (h : Fit F) (n : Bs) : (bytesOf F n).length ≤ 4194304 := by
  unfold bytesOf
  cases hc : fget F n with
  | none => simp
  | some b => exact (h _ (mem_fget hc)).1
theorem Fit.doW {F : Fs} (h : Fit F) {w : W1} (hw : OkW w) : Fit (doW F w) := by
  have hb := bytesOf_le h w.name
  unfold Dk.doW
  intro p hp
  split at hp
  · exact h p ((List.mem_filter.1 hp).1)
  · rcases mem_put hp with rfl | hp
    · obtain ⟨_, _, h3, h4⟩ := hw
      refine ⟨?_, h4⟩
      show (if w.kind = 2 then _ else _ : Bs).length ≤ _
      split
      · rw [cutB_length]; omega
      · rw [putB_length]; omega
    · exact h p hp
theorem size_doW {F : Fs} (h : Up F) {w : W1} (hw : 1 ≤ w.kind ∧ w.kind ≤ 3) : fsize (doW F w) + flen F w.name = fsize F + behind (flen F w.name) w := by
  have e : flen F w.name = (bytesOf F w.name).length := rfl
  unfold doW behind
  by_cases h3 : w.kind = 3
  · rw [if_pos h3, if_neg (by omega), if_neg (by omega)]
    have := (size_del w.name h).1
    omega
  · rw [if_neg h3]
    have := (size_put w.name (if w.kind = 2 then cutB (bytesOf F w.name) w.off else putB (bytesOf F w.name) w.off w.data) h).1
    by_cases h2 : w.kind = 2
    · rw [if_pos h2] at this ⊢
      rw [cutB_length] at this
      rw [if_neg (by omega), if_pos h2]
      omega
    · rw [if_neg h2] at this ⊢
      rw [putB_length] at this
      have hk : w.kind = 1 := by omega
      rw [if_pos hk]
      omega
theorem len_doW {F : Fs} (h : Up F) (w : W1) : (doW F w).length ≤ F.length + 1 := by
  unfold doW
  split
  · have := (size_del w.name h).2; omega
  · rw [(size_put _ _ h).2]; split <;> omega
theorem fsize_le {F : Fs} (h : Fit F) : fsize F ≤ F.length * 4194304 := by
  induction F with
  | nil => simp [fsize]
  | cons p r ih =>
    have h1 := (h p (by simp)).1
    have h2 := ih (fun q hq => h q (by simp [hq]))
    rw [fsize_cons, List.length_cons]
    omega
theorem mem_size {F : Fs} {p : Bs × Bs} (h : p ∈ F) : p.2.length ≤ fsize F := by
  induction F with
  | nil => cases h
  | cons q r ih =>
    rw [fsize_cons]
    rcases List.mem_cons.1 h with rfl | h
    · omega
    · have := ih h; omega
theorem flen_le (F : Fs) (n : Bs) : flen F n ≤ fsize F := by
  unfold flen
  cases hc : fget F n with
  | none => simp
  | some b => exact mem_size (mem_fget hc)

/-- Where a name is, or would be. -/
def fidx (F : Fs) (n : Bs) : Nat := (F.takeWhile fun p => blt p.1 n).length
def fthere (F : Fs) (n : Bs) : Bool := (fget F n).isSome
theorem fidx_cons (p : Bs × Bs) (r : Fs) (n : Bs) : fidx (p :: r) n = if blt p.1 n = true then fidx r n + 1 else 0 := by
  unfold fidx
  rw [List.takeWhile_cons]
  split <;> simp_all
theorem fidx_le (F : Fs) (n : Bs) : fidx F n ≤ F.length := by
  unfold fidx
  exact List.Sublist.length_le (List.takeWhile_sublist _)
theorem fidx_at {n : Bs} : ∀ {F : Fs}, Up F → (F[fidx F n]?).map (·.2) = fget F n ∨ (fget F n = none ∧ ∀ p, F[fidx F n]? = some p → p.1 ≠ n)
  | [], _ => .inl rfl
  | p :: r, h => by
    obtain ⟨h1, h2⟩ := List.pairwise_cons.1 h
    rw [fidx_cons]
    by_cases hp : blt p.1 n = true
    · rw [if_pos hp, List.getElem?_cons_succ, fget_cons, if_neg (blt_ne hp)]
      exact fidx_at h2
    · rw [if_neg hp, List.getElem?_cons_zero, fget_cons]
      by_cases hn : p.1 = n
      · rw [if_pos hn]; exact .inl rfl
      · rw [if_neg hn]
        refine .inr ⟨fget_behind h1 (by simpa using hp), ?_⟩
        rintro q hq
        injection hq with hq
        rw [← hq]; exact hn
theorem fput_idx {n : Bs} (b : Bs) : ∀ {F : Fs}, Up F → fput n b F = F.take (fidx F n) ++ (n, b) :: F.drop (fidx F n + (if fthere F n then 1 else 0))
  | [], _ => by simp [fput, fidx]
  | p :: r, h => by
    obtain ⟨h1, h2⟩ := List.pairwise_cons.1 h
    simp only [fput]
    by_cases hp : blt p.1 n = true
    · have e : fthere (p :: r) n = fthere r n := by unfold fthere; rw [fget_cons, if_neg (blt_ne hp)]
      rw [if_pos hp, fidx_cons, if_pos hp, e, fput_idx b h2, List.take_succ_cons, show fidx r n + 1 + (if fthere r n = true then 1 else 0) = (fidx r n + (if fthere r n = true then 1 else 0)) + 1 by omega, List.drop_succ_cons, List.cons_append]
    · rw [if_neg hp, fidx_cons, if_neg hp]
      by_cases hn : p.1 = n
      · have e : fthere (p :: r) n = true := by unfold fthere; rw [fget_cons, if_pos hn]; rfl
        rw [if_pos hn, e]; rfl
      · have e : fthere (p :: r) n = false := by unfold fthere; rw [fget_cons, if_neg hn, fget_behind h1 (by simpa using hp)]; rfl
        rw [if_neg hn, e]; rfl
theorem fdel_idx {n : Bs} : ∀ {F : Fs}, Up F → fdel n F = if fthere F n then F.take (fidx F n) ++ F.drop (fidx F n + 1) else F
  | [], _ => by simp [fdel, fthere, fget]
  | p :: r, h => by
    obtain ⟨h1, h2⟩ := List.pairwise_cons.1 h
    have ih := fdel_idx (n := n) h2
    by_cases hp : blt p.1 n = true
    · have e : fthere (p :: r) n = fthere r n := by unfold fthere; rw [fget_cons, if_neg (blt_ne hp)]
      have e2 : fdel n (p :: r) = p :: fdel n r := by simp [fdel, blt_ne hp]
      rw [e2, e, ih, fidx_cons, if_pos hp]
      split
      · rw [List.take_succ_cons, List.drop_succ_cons, List.cons_append]
      · rfl
    · have hr : fget r n = none := by
        by_cases hn : p.1 = n
        · exact fget_behind h1 (by rw [hn]; exact blt_irrefl _)
        · exact fget_behind h1 (by simpa using hp)
      have hdr : fdel n r = r := by
        unfold fdel
        rw [List.filter_eq_self]
        intro q hq
        cases hq2 : q.1 == n with
        | false => rfl
        | true =>
          have := fget_mem h2 hq
          rw [beq_iff_eq.1 hq2, hr] at this
          cases this
      rw [fidx_cons, if_neg hp]
      by_cases hn : p.1 = n
      · have e : fthere (p :: r) n = true := by unfold fthere; rw [fget_cons, if_pos hn]; rfl
        have e2 : fdel n (p :: r) = fdel n r := by simp [fdel, hn]
        rw [e2, e, hdr]; rfl
      · have e : fthere (p :: r) n = false := by unfold fthere; rw [fget_cons, if_neg hn, hr]; rfl
        have e2 : fdel n (p :: r) = p :: fdel n r := by simp [fdel, hn]
        rw [e2, e, hdr]; rfl

/-- A disk: what is sure, what came since, its room, its fuse, and whether it is down. -/
structure DS where
  sure : Fs
  unsure : List W1
  room : Int
  fuse : Int
  down : Bool
def DS.files (s : DS) : Fs := s.unsure.foldl doW s.sure
structure DS.Ok (s : DS) : Prop where
  up : Up s.sure
  fit : Fit s.sure
  un : ∀ w ∈ s.unsure, OkW w
  room : 0 ≤ s.room ∧ s.room ≤ 4194304
  fuse : 0 ≤ s.fuse ∧ s.fuse ≤ 9223372036854775807
theorem up_all {l : List W1} : ∀ {F : Fs}, Up F → Up (l.foldl doW F) := by
  induction l with
  | nil => exact fun h => h
  | cons w r ih => exact fun h => ih (h.doW w)
theorem fit_all {l : List W1} : ∀ {F : Fs}, Fit F → (∀ w ∈ l, OkW w) → Fit (l.foldl doW F) := by
  induction l with
  | nil => exact fun h _ => h
  | cons w r ih => exact fun h hw => ih (h.doW (hw w (by simp))) (fun x hx => hw x (by simp [hx]))
theorem len_all {l : List W1} : ∀ {F : Fs}, Up F → (l.foldl doW F).length ≤ F.length + l.length := by
  induction l with
  | nil => exact fun _ => by simp
  | cons w r ih =>
    intro F h
    have h1 := ih (h.doW w)
    have h2 := len_doW h w
    rw [List.length_cons, List.foldl_cons]
    omega
/-- What counts against memory. -/
def DS.cnt (s : DS) : Nat := s.sure.length + s.unsure.length
/-- A name. -/
def named (n : Bs) : Bool := decide (1 ≤ n.length) && decide (n.length ≤ 32) && n.all fun c => (decide (97 ≤ c.toNat) && decide (c.toNat ≤ 122)) || (decide (48 ≤ c.toNat) && decide (c.toNat ≤ 57)) || decide (c.toNat = 46)
/-- The fuse is one less; is the disk down now? -/
def burnt (s : DS) : DS := if s.fuse = 0 then s else if s.fuse = 1 then { s with fuse := 0, down := true } else { s with fuse := s.fuse - 1 }
def burns (s : DS) : Bool := decide (s.fuse = 1)
/-- Why a change is refused, 0: it is not (the fuse is not asked). -/
def refusal (s : DS) (kind : Nat) (name : Bs) (off : Int) (data : Bs) : Int :=
  if s.down = true then 11
  else if named name = false ∨ off < 0 ∨ 4194304 < off then 1
  else if fthere s.files name = false ∧ kind ≠ 3 ∧ 4096 ≤ s.files.length then 7
  else if fsize s.files < fsize (doW s.files ⟨kind, name, off.toNat, data⟩) ∧ s.room < (fsize (doW s.files ⟨kind, name, off.toNat, data⟩) : Int) then 10
  else 0
def chgE (s : DS) (kind : Nat) (name : Bs) (off : Int) (data : Bs) : Int := if refusal s kind name off data ≠ 0 then refusal s kind name off data else if burns s = true then 11 else 0
def chgS (s : DS) (kind : Nat) (name : Bs) (off : Int) (data : Bs) : DS :=
  if refusal s kind name off data ≠ 0 then s else if burns s = true then burnt s else { burnt s with unsure := s.unsure ++ [⟨kind, name, off.toNat, data⟩] }
def synE (s : DS) : Int := if s.down = true ∨ burns s = true then 11 else 0
def synS (s : DS) : DS := if s.down = true then s else if burns s = true then burnt s else { burnt s with sure := s.files, unsure := [] }
/-- Which of the unsure changes stay. -/
def stays (mask : Nat) (k : Nat) : Bool := mask / 2 ^ (k % 64) % 2 == 1
def staying (mask : Nat) : Nat → List W1 → List W1
  | _, [] => []
  | k, w :: r => if stays mask k = true then w :: staying mask (k + 1) r else staying mask (k + 1) r
/-- The last Put is cut down. -/
def tornR (torn : Int) : List W1 → List W1
  | [] => []
  | w :: r => if w.kind = 1 then (if 0 ≤ torn ∧ torn < (w.data.length : Int) then { w with data := w.data.take torn.toNat } else w) :: r else w :: tornR torn r
def torn (t : Int) (l : List W1) : List W1 := (tornR t l.reverse).reverse
def falS (s : DS) (mask : Nat) (t : Int) : DS := { sure := (torn t (staying mask 0 s.unsure)).foldl doW s.sure, unsure := [], room := s.room, fuse := 0, down := false }
end Go.Proofs.YtnjifhbooikdbaaGreatDoor.Dk

/-! What types of package disk are: closed facts. -/
namespace Go.Proofs.YtnjifhbooikdbaaGreatDoor.Dk
open Go.RowKit Go.Maps By Mp
abbrev tPM : TypeId := 97
abbrev tFM : TypeId := 41
abbrev tPiece : TypeId := 123
abbrev tFile : TypeId := 99
abbrev tStr : TypeId := 9
abbrev tInt : TypeId := 3
theorem keyS : Keyed Tryz.prog tStr := string_keyed Tryz.underlying9
theorem keyI : Keyed Tryz.prog tInt := int_keyed Tryz.underlying3
def zeroP : Array Value := Array.replicate 256 (.int .u8 0)
theorem zero_piece (w : World) : (zeroValue tPiece).run Tryz.prog w = .ok (.agg zeroP) w := by kernel_rfl
theorem zero_file (w : World) : (zeroValue tFile).run Tryz.prog w = .ok (.agg #[.int .i64 0, .map none]) w := by kernel_rfl
theorem info_piece : (Tryz.prog.info? tPiece).map (·.size) = some 256 := by kernel_rfl
theorem info_file : (Tryz.prog.info? tFile).map (·.size) = some 2 := by kernel_rfl
theorem zeroP_size : zeroP.size = 256 := by simp [zeroP]
theorem zeroP_one : zeroP.all (·.oneCell') = true := by kernel_rfl
end Go.Proofs.YtnjifhbooikdbaaGreatDoor.Dk

/-! What of memory a call may write; bytes in given blocks; a file's pieces as a map in memory. No walk. -/
namespace Go.Proofs.YtnjifhbooikdbaaGreatDoor.Dk
open Go.RowKit Go.Maps By Mp

theorem row_lt {w : World} {g : Nat} {o : Obj} (h : w.heap[g]? = some o) : g < w.heap.size := (Array.getElem?_eq_some_iff.1 h).1
theorem size_setCell' (w : World) (p : Addr) (v : Value) : (w.setCell p v).heap.size = w.heap.size := by simp [World.setCell]
/-- Gives a value, all memory as it was. -/
def Ret (v : Value) (w : World) (e : Ending) (w' : World) : Prop := e = .returned v ∧ w = w'
/-- Gives a value, old memory as it was. -/
def RetB (v : Value) (w : World) (e : Ending) (w' : World) : Prop := e = .returned v ∧ Below w.heap.size w w'
/-- Gives bytes of the call's own. -/
def Gives (l : Bs) (w : World) (e : Ending) (w' : World) : Prop := ∃ v, e = .returned v ∧ Own w.heap.size w' v l ∧ Below w.heap.size w w'

/-- w' is w but for blocks of M, and new ones. -/
structure Kept (M : Nat → Prop) (w w' : World) : Prop where
  os : w'.os = w.os
  tape : w'.tape = w.tape
  output : w'.output = w.output
  size : w.heap.size ≤ w'.heap.size
  block : ∀ b, b < w.heap.size → ¬ M b → w'.heap[b]? = w.heap[b]?
theorem Kept.refl (M : Nat → Prop) (w : World) : Kept M w w := ⟨rfl, rfl, rfl, Nat.le_refl _, fun _ _ _ => rfl⟩
theorem Kept.step {M M1 : Nat → Prop} {w w1 w2 : World} (h : Kept M w w1) (k : Kept M1 w1 w2) (hm : ∀ b, b < w.heap.size → M1 b → M b) : Kept M w w2 :=
  ⟨k.os.trans h.os, k.tape.trans h.tape, k.output.trans h.output, Nat.le_trans h.size k.size, fun b hb hn => (k.block b (Nat.lt_of_lt_of_le hb h.size) (fun e => hn (hm b hb e))).trans (h.block b hb hn)⟩
theorem Kept.trans {M : Nat → Prop} {w w1 w2 : World} (h : Kept M w w1) (k : Kept M w1 w2) : Kept M w w2 := h.step k fun _ _ e => e
theorem Kept.mono {M M' : Nat → Prop} {w w1 : World} (h : Kept M w w1) (hm : ∀ b, b < w.heap.size → M b → M' b) : Kept M' w w1 := ⟨h.os, h.tape, h.output, h.size, fun b hb hn => h.block b hb (fun e => hn (hm b hb e))⟩
theorem Kept.below {M : Nat → Prop} {w w1 : World} (h : Kept M w w1) {B : Nat} (hB : B ≤ w.heap.size) (hm : ∀ b, M b → B ≤ b) : Below B w w1 := ⟨h.os, h.tape, h.output, h.size, fun b hb => h.block b (Nat.lt_of_lt_of_le hb hB) (fun e => Nat.not_lt_of_le (hm b e) hb)⟩
theorem Kept.of_below {M : Nat → Prop} {w w1 : World} (h : Below w.heap.size w w1) : Kept M w w1 := ⟨h.os, h.tape, h.output, h.size, fun b hb _ => h.block b hb⟩
theorem Kept.of_grown {M : Nat → Prop} {w w1 : World} {r : Option Nat} (h : w.grownBy w1 r) (hr : ∀ k, r = some k → k < w.heap.size → M k) : Kept M w w1 := ⟨h.os, h.tape, h.output, h.size, fun b hb hn => h.block b hb (fun e => hn (hr b e.symm hb))⟩
theorem Kept.alloc {M : Nat → Prop} {w w1 : World} (h : Kept M w w1) (o : Obj) : Kept M w (w1.alloc o) := h.step (M1 := M) (Kept.of_below ((Below.refl _ _).alloc (Nat.le_refl _) o)) (fun _ _ e => e)
theorem Kept.drew {M : Nat → Prop} {w w1 : World} (h : Kept M w w1) : Kept M w w1.drew := ⟨h.os, h.tape, h.output, h.size, h.block⟩
theorem Kept.drewN {M : Nat → Prop} {w w1 : World} (h : Kept M w w1) (q : Nat) : Kept M w (w1.drewN q) := ⟨h.os, h.tape, h.output, h.size, h.block⟩
theorem Kept.setCell {M : Nat → Prop} {w w1 : World} (h : Kept M w w1) {p : Addr} (hp : p.block < w.heap.size → M p.block) (u : Value) : Kept M w (w1.setCell p u) :=
  h.step (M1 := fun b => b = p.block) ⟨rfl, rfl, rfl, by simp [World.setCell], fun b _ hn => Below.heap_setCell w1 p u b hn⟩ (fun b hb e => by subst e; exact hp hb)
theorem Kept.setRow {M : Nat → Prop} {w w1 : World} (h : Kept M w w1) {g : Nat} (hp : g < w.heap.size → M g) (cs : Array Value) : Kept M w (w1.setRow g cs) :=
  h.step (M1 := fun b => b = g) ⟨rfl, rfl, rfl, by simp [World.setRow], fun b _ hn => setRow_other w1 g b cs hn⟩ (fun b hb e => by subst e; exact hp hb)
theorem Kept.turned {M : Nat → Prop} {w w1 w2 : World} (h : Kept M w w1) {q : Nat} (ht : w1.mapTurned w2 q) (hp : q < w.heap.size → M q) : Kept M w w2 :=
  h.step (M1 := fun b => b = q) ⟨ht.grown.os, ht.grown.tape, ht.grown.output, ht.grown.size, fun b _ hn => turned_other ht hn⟩ (fun b hb e => by subst e; exact hp hb)
/-- Bytes that lie in blocks of S. -/
def LiesS (w : World) (S : Nat → Prop) (A : Option Addr) (l : List UInt8) : Prop :=
  0 < l.length → ∃ g o, A = some ⟨g, o, none⟩ ∧ S g ∧ ∀ j x, l[j]? = some x → w.cell? ⟨g, o + j, none⟩ = some (bv x)
theorem LiesS.keep {w w' : World} {S S' : Nat → Prop} {A : Option Addr} {l : List UInt8} (h : LiesS w S A l) (hb : ∀ b, S b → w'.heap[b]? = w.heap[b]?) (hs : ∀ b, S b → S' b) : LiesS w' S' A l := fun hn => by
  obtain ⟨g, o, e, hg, hc⟩ := h hn
  exact ⟨g, o, e, hs g hg, fun j x hx => (World.cell?_of_block (w := w) (hb g hg)).trans (hc j x hx)⟩
theorem LiesS.lies {w : World} {S : Nat → Prop} {A : Option Addr} {l : List UInt8} (h : LiesS w S A l) {B : Nat} (hB : ∀ b, S b → b < B) : Lies w B A l := fun hn => by
  obtain ⟨g, o, e, hg, hc⟩ := h hn
  exact ⟨g, o, e, hB g hg, hc⟩
theorem LiesS.of {w : World} {B : Nat} {A : Option Addr} {l : List UInt8} (h : Lies w B A l) : LiesS w (fun b => b < B) A l := h
theorem LiesS.own {base : Nat} {w : World} {A : Option Addr} {n c : Nat} {l : List UInt8} (h : Own base w (.slice A n c) l) : LiesS w (fun b => base ≤ b ∧ b < w.heap.size) A l := fun hn => by
  obtain ⟨A', c', e, _, _, _, hr, hb⟩ := h.form
  simp only [Value.slice.injEq] at e
  obtain ⟨rfl, rfl, rfl⟩ := e
  obtain ⟨g, o, rfl, hg, hc⟩ := hr hn
  obtain ⟨g', e', hb1, hb2, _⟩ := own_head h hn
  injection e' with e'
  injection e' with e1 e2
  subst e1 e2
  exact ⟨_, _, rfl, ⟨hb1, hb2⟩, hc⟩

/-- The pieces of a file of which byte j is f j. -/
def pieceF (f : Nat → UInt8) (i : Nat) : List Value := (List.range 256).map fun j => bv (f (256 * i + j))
theorem pieceF_length (f : Nat → UInt8) (i : Nat) : (pieceF f i).length = 256 := by simp [pieceF]
theorem pieceF_get (f : Nat → UInt8) (i j : Nat) (h : j < 256) : (pieceF f i)[j]? = some (bv (f (256 * i + j))) := by simp [pieceF, h]
theorem pieceF_one (f : Nat → UInt8) (i : Nat) : (pieceF f i).toArray.all (·.oneCell') = true := by
  rw [Array.all_eq_true_iff_forall_mem]
  intro v hv
  simp only [pieceF, List.mem_toArray, List.mem_map] at hv
  obtain ⟨j, _, rfl⟩ := hv
  rfl
theorem pieceF_congr {f g : Nat → UInt8} {i : Nat} (h : ∀ j, j < 256 → f (256 * i + j) = g (256 * i + j)) : pieceF f i = pieceF g i := by
  unfold pieceF
  apply List.map_congr_left
  intro j hj
  rw [h j (List.mem_range.1 hj)]
theorem pieceF_zero {f : Nat → UInt8} {i : Nat} (h : ∀ j, j < 256 → f (256 * i + j) = 0) : (pieceF f i).toArray = zeroP := by
  apply Array.ext'
  show pieceF f i = (Array.replicate 256 (.int .u8 0)).toList
  rw [Array.toList_replicate]
  apply List.ext_getElem?
  intro j
  by_cases hj : j < 256
  · rw [pieceF_get f i j hj, List.getElem?_replicate, if_pos hj, h j hj]; rfl
  · rw [List.getElem?_eq_none (by rw [pieceF_length]; omega), List.getElem?_replicate, if_neg hj]
def pkey (i : Nat) : Lit := .int .i64 (i : Int)
/-- What the map of pieces answers. -/
def PcSays (get : Lit → Option Value) (f : Nat → UInt8) (L : Nat) : Prop :=
  (∀ l v, WideAt.IsKeyLit l → get l = some v → ∃ i : Nat, l = pkey i ∧ 256 * i < L ∧ v = .agg (pieceF f i).toArray) ∧ ∀ i, get (pkey i) = none → ∀ j, j < 256 → f (256 * i + j) = 0
/-- Block q is the map of the pieces of a file of less than L bytes. -/
def PcAt (w : World) (q : Nat) (f : Nat → UInt8) (L : Nat) : Prop := ∃ get n, MapIs Tryz.prog tInt w q get n ∧ PcSays get f L
theorem PcAt.keep {w w' : World} {q L : Nat} {f : Nat → UInt8} (h : PcAt w q f L) (hb : w'.heap[q]? = w.heap[q]?) : PcAt w' q f L := by
  obtain ⟨get, n, h1, h2⟩ := h
  exact ⟨get, n, h1.keep hb, h2⟩
theorem PcAt.lt {w : World} {q L : Nat} {f : Nat → UInt8} (h : PcAt w q f L) : q < w.heap.size := by
  obtain ⟨get, n, h1, _⟩ := h
  exact h1.lt
theorem PcAt.congr {w : World} {q L L' : Nat} {f g : Nat → UInt8} (h : PcAt w q f L) (hL : L ≤ L') (e : ∀ j, f j = g j) : PcAt w q g L' := by
  obtain ⟨get, n, h1, h2, h3⟩ := h
  refine ⟨get, n, h1, fun l v hl hv => ?_, fun i hi j hj => by rw [← e]; exact h3 i hi j hj⟩
  obtain ⟨i, r1, r2, r3⟩ := h2 l v hl hv
  exact ⟨i, r1, by omega, by rw [r3, pieceF_congr (fun j _ => e _)]⟩
theorem pkey_same {i j : Nat} : (pkey i).sameKey (pkey j) = decide (i = j) := by
  simp [pkey, Lit.sameKey]
  omega
/-- There are no more pieces than bytes. -/
theorem pc_small {w : World} {q n L : Nat} {get : Lit → Option Value} (h : MapIs Tryz.prog tInt w q get n) (hk : ∀ l v, WideAt.IsKeyLit l → get l = some v → ∃ i : Nat, l = pkey i ∧ 256 * i < L) : n ≤ L := by
  obtain ⟨D, h1, h2, h3⟩ := h
  obtain ⟨es, rfl, hp, hkey⟩ := World.ownsMap.entries h1 keyI
  have hin : ∀ p ∈ es, ∃ i : Nat, p.1 = pkey i ∧ 256 * i < L := by
    intro p hp
    have hs := (h3 p.1 (hkey p hp)).1
    have hh : Maps.has (DataW.map es) p.1 = true := List.any_eq_true.2 ⟨p, hp, WideAt.sameKey_self (hkey p hp)⟩
    rw [hh] at hs
    obtain ⟨v, hv⟩ := Option.isSome_iff_exists.1 hs.symm
    exact hk p.1 v (hkey p hp) hv
  have hl : (es.map fun p => match p.1 with | .int _ z => z.toNat | _ => 0).length ≤ L := by
    apply pigeon
    · rw [List.Nodup, List.pairwise_map]
      refine List.Pairwise.imp_of_mem (fun {a b} ha hb hab => ?_) hp
      obtain ⟨i, hi, _⟩ := hin a ha
      obtain ⟨j, hj, _⟩ := hin b hb
      rw [hi, hj] at hab ⊢
      simp only [pkey, Int.toNat_natCast]
      exact fun e => hab (by rw [e])
    · intro x hx
      obtain ⟨p, hp, rfl⟩ := List.mem_map.1 hx
      obtain ⟨i, hi, hl⟩ := hin p hp
      rw [hi]
      simp only [pkey, Int.toNat_natCast]
      omega
  rw [List.length_map] at hl
  rw [← h2]
  exact hl
/-- A file's bytes, in pieces. -/
def FileAt (w : World) (mb : Option Nat) (b : Bs) : Prop :=
  match mb with
  | none => ∀ j, b.getD j 0 = 0
  | some q => PcAt w q (fun j => b.getD j 0) b.length
theorem FileAt.keep {w w' : World} {mb : Option Nat} {b : Bs} (h : FileAt w mb b) (hb : ∀ q, mb = some q → w'.heap[q]? = w.heap[q]?) : FileAt w' mb b := by
  cases mb with
  | none => exact h
  | some q => exact PcAt.keep h (hb q rfl)
theorem FileAt.lt {w : World} {q : Nat} {b : Bs} (h : FileAt w (some q) b) : q < w.heap.size := PcAt.lt h
def fileV (b : Bs) (mb : Option Nat) : Value := .agg #[.int .i64 (b.length : Nat), .map mb]
/-- What a map of files answers. -/
def fsGet (F : Fs) (pb : Bs → Option Nat) : Lit → Option Value
  | .string n => (fget F n).map fun b => fileV b (pb n)
  | _ => none
/-- Files in memory: a map at bm, each file's pieces at pb of its name; the blocks are all different ones. -/
structure FilesAt (w : World) (bm : Option Nat) (F : Fs) (pb : Bs → Option Nat) : Prop where
  none : bm = none → F = []
  map : ∀ q, bm = some q → MapIs Tryz.prog tStr w q (fsGet F pb) F.length
  file : ∀ n b, fget F n = some b → FileAt w (pb n) b
  apart : ∀ n m b c q, fget F n = some b → fget F m = some c → pb n = some q → pb m = some q → n = m
  own : ∀ n b q, fget F n = some b → pb n = some q → bm ≠ some q
/-- The blocks of files. -/
def foot (bm : Option Nat) (F : Fs) (pb : Bs → Option Nat) (q : Nat) : Prop := bm = some q ∨ ∃ n b, fget F n = some b ∧ pb n = some q
theorem FilesAt.keep {w w' : World} {bm : Option Nat} {F : Fs} {pb : Bs → Option Nat} (h : FilesAt w bm F pb) (hb : ∀ q, foot bm F pb q → w'.heap[q]? = w.heap[q]?) : FilesAt w' bm F pb :=
  ⟨h.none, fun q hq => (h.map q hq).keep (hb q (.inl hq)), fun n b hn => (h.file n b hn).keep (fun q hq => hb q (.inr ⟨n, b, hn, hq⟩)), h.apart, h.own⟩
theorem FilesAt.lt {w : World} {bm : Option Nat} {F : Fs} {pb : Bs → Option Nat} (h : FilesAt w bm F pb) {q : Nat} (hq : foot bm F pb q) : q < w.heap.size := by
  rcases hq with hq | ⟨n, b, hn, hq⟩
  · exact (h.map q hq).lt
  · have := h.file n b hn
    rw [hq] at this
    exact FileAt.lt this
end Go.Proofs.YtnjifhbooikdbaaGreatDoor.Dk

/-! Files in memory behind a put and a removal of one of them. No walk. -/
namespace Go.Proofs.YtnjifhbooikdbaaGreatDoor.Dk
open Go.RowKit Go.Maps By Mp

theorem LiesS.cells {w : World} {S : Nat → Prop} {A : Option Addr} {l : Bs} (h : LiesS w S A l) : LiesS w (fun b => S b ∧ ∃ cs t fr, w.heap[b]? = some (.cells cs t fr)) A l := fun hn => by
  obtain ⟨g, o, e, hg, hc⟩ := h hn
  refine ⟨g, o, e, ⟨hg, ?_⟩, hc⟩
  have h0 := hc 0 _ (List.getElem?_eq_getElem hn)
  unfold World.cell? at h0
  cases hh : w.heap[g]? with
  | none => simp [hh] at h0
  | some ob =>
    cases ob <;> simp [hh] at h0
    exact ⟨_, _, _, rfl⟩
theorem map_not_cells {w : World} {P : Program} {k : TypeId} {q n : Nat} {get : Lit → Option Value} (h : MapIs P k w q get n) {cs : Array Value} {t : TypeId} {fr : Nat × Nat} : w.heap[q]? ≠ some (.cells cs t fr) := fun e => by
  obtain ⟨D, ⟨es, clock, hb, _⟩, _⟩ := h
  rw [e] at hb
  cases hb
theorem foot_map {w : World} {bm : Option Nat} {F : Fs} {pb : Bs → Option Nat} (h : FilesAt w bm F pb) {q : Nat} (hq : foot bm F pb q) {cs : Array Value} {t : TypeId} {fr : Nat × Nat} : w.heap[q]? ≠ some (.cells cs t fr) := by
  rcases hq with hq | ⟨n, b, hn, hq⟩
  · exact map_not_cells (h.map q hq)
  · have := h.file n b hn
    rw [hq] at this
    obtain ⟨get, m, h1, _⟩ := this
    exact map_not_cells h1
theorem sameS {n m : Bs} : (Lit.string n).sameKey (.string m) = decide (n = m) := by
  rw [Bool.eq_iff_iff]
  simp [Lit.sameKey]
theorem files_put {w w6 : World} {bm : Option Nat} {F : Fs} {pb : Bs → Option Nat} (h : FilesAt w bm F pb) (hup : Up F) {name nb : Bs} {pm' : Option Nat} {qm : Nat}
    (hkeep : ∀ n b q, n ≠ name → fget F n = some b → pb n = some q → w6.heap[q]? = w.heap[q]?) (hfile : FileAt w6 pm' nb)
    (hmap : MapIs Tryz.prog tStr w6 qm (upd (fsGet F pb) (.string name) (some (fileV nb pm'))) (if (fget F name).isSome then F.length else F.length + 1))
    (hq : ∀ q, pm' = some q → (pb name = some q ∧ ∃ b, fget F name = some b) ∨ w.heap.size ≤ q) (hqm : bm = some qm ∨ (bm = none ∧ w.heap.size ≤ qm ∧ pm' ≠ some qm)) :
    FilesAt w6 (some qm) (fput name nb F) (fun n => if n = name then pm' else pb n) ∧ ∀ q, foot (some qm) (fput name nb F) (fun n => if n = name then pm' else pb n) q → foot bm F pb q ∨ w.heap.size ≤ q := by
  have hlt : ∀ n b q, fget F n = some b → pb n = some q → q < w.heap.size := fun n b q h1 h2 => h.lt (.inr ⟨n, b, h1, h2⟩)
  constructor
  · constructor
    · intro e; cases e
    · intro q e
      injection e with e
      subst e
      have hl : (fput name nb F).length = if (fget F name).isSome then F.length else F.length + 1 := by
        rw [(size_put name nb hup).2]; split <;> rfl
      rw [hl]
      refine hmap.same (fun l hl => ?_)
      unfold upd
      cases l with
      | string n =>
        rw [sameS]
        by_cases hn : n = name
        · rw [decide_eq_true hn, if_pos rfl]
          simp [fsGet, fget_put, hn]
        · rw [decide_eq_false hn, if_neg (by simp)]
          simp [fsGet, fget_put, hn]
      | _ => simp [fsGet, Lit.sameKey]
    · intro n b hn
      rw [fget_put] at hn
      by_cases e : n = name
      · rw [if_pos e] at hn ⊢
        injection hn with hn
        subst hn
        exact hfile
      · rw [if_neg e] at hn ⊢
        exact (h.file n b hn).keep (fun q hq2 => hkeep n b q e hn hq2)
    · intro n m b c q hn hm hpn hpm
      rw [fget_put] at hn hm
      by_cases e1 : n = name <;> by_cases e2 : m = name
      · rw [e1, e2]
      · rw [if_pos e1] at hpn
        rw [if_neg e2] at hm
        simp only [if_neg e2] at hpm
        rcases hq q hpn with ⟨h1, b', h2⟩ | h1
        · rw [e1]
          exact h.apart name m b' c q h2 hm h1 hpm
        · have := hlt m c q hm hpm; omega
      · rw [if_pos e2] at hpm
        rw [if_neg e1] at hn
        simp only [if_neg e1] at hpn
        rcases hq q hpm with ⟨h1, b', h2⟩ | h1
        · rw [e2]
          exact h.apart n name b b' q hn h2 hpn h1
        · have := hlt n b q hn hpn; omega
      · rw [if_neg e1] at hn
        rw [if_neg e2] at hm
        simp only [if_neg e1] at hpn
        simp only [if_neg e2] at hpm
        exact h.apart n m b c q hn hm hpn hpm
    · intro n b q hn hpn e
      injection e with e
      subst e
      rw [fget_put] at hn
      by_cases e1 : n = name
      · simp only [if_pos e1] at hpn
        rcases hqm with hb | ⟨_, _, hne⟩
        · rcases hq _ hpn with ⟨h1, b', h2⟩ | h1
          · exact h.own name b' _ h2 h1 hb
          · have := h.lt (.inl hb : foot bm F pb qm); omega
        · exact hne hpn
      · rw [if_neg e1] at hn
        simp only [if_neg e1] at hpn
        rcases hqm with hb | ⟨_, hge, _⟩
        · exact h.own n b _ hn hpn hb
        · have := hlt n b _ hn hpn; omega
  · intro q hf
    rcases hf with e | ⟨n, b, hn, hpn⟩
    · injection e with e
      subst e
      rcases hqm with hb | ⟨_, hge, _⟩
      · exact .inl (.inl hb)
      · exact .inr hge
    · rw [fget_put] at hn
      by_cases e1 : n = name
      · simp only [if_pos e1] at hpn
        rcases hq q hpn with ⟨h1, b', h2⟩ | h1
        · exact .inl (.inr ⟨name, b', h2, h1⟩)
        · exact .inr h1
      · rw [if_neg e1] at hn
        simp only [if_neg e1] at hpn
        exact .inl (.inr ⟨n, b, hn, hpn⟩)
theorem files_del {w w6 : World} {qm : Nat} {F : Fs} {pb : Bs → Option Nat} (h : FilesAt w (some qm) F pb) (hup : Up F) {name : Bs} (hkeep : ∀ n b q, fget F n = some b → pb n = some q → w6.heap[q]? = w.heap[q]?)
    (hmap : MapIs Tryz.prog tStr w6 qm (upd (fsGet F pb) (.string name) none) (if (fget F name).isSome then F.length - 1 else F.length)) :
    FilesAt w6 (some qm) (fdel name F) pb ∧ ∀ q, foot (some qm) (fdel name F) pb q → foot (some qm) F pb q := by
  have hd : ∀ n b, fget (fdel name F) n = some b → fget F n = some b := by
    intro n b hn
    rw [fget_del] at hn
    split at hn
    · cases hn
    · exact hn
  constructor
  · constructor
    · intro e; cases e
    · intro q e
      injection e with e
      subst e
      have hl : (fdel name F).length = if (fget F name).isSome then F.length - 1 else F.length := by
        have := (size_del name hup).2
        split <;> rename_i hc <;> simp [hc] at this <;> omega
      rw [hl]
      refine hmap.same (fun l hl => ?_)
      unfold upd
      cases l with
      | string n =>
        rw [sameS]
        by_cases hn : n = name
        · rw [decide_eq_true hn, if_pos rfl]
          simp [fsGet, fget_del, hn]
        · rw [decide_eq_false hn, if_neg (by simp)]
          simp [fsGet, fget_del, hn]
      | _ => simp [fsGet, Lit.sameKey]
    · intro n b hn
      exact (h.file n b (hd n b hn)).keep (fun q hq2 => hkeep n b q (hd n b hn) hq2)
    · intro n m b c q hn hm hpn hpm
      exact h.apart n m b c q (hd n b hn) (hd m c hm) hpn hpm
    · intro n b q hn hpn
      exact h.own n b q (hd n b hn) hpn
  · intro q hf
    rcases hf with e | ⟨n, b, hn, hpn⟩
    · exact .inl e
    · exact .inr ⟨n, b, hd n b hn, hpn⟩
end Go.Proofs.YtnjifhbooikdbaaGreatDoor.Dk
