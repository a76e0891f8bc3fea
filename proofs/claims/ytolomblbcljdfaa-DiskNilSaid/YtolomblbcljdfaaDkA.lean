/- A disk as a plain value: files by rising names, changes, what a change, a fall and a call come to. No program, no walk. -/
import Derived.Test.YtolomblbcljdfaaProg
import Derived.WideAt
import Derived.WideShapes
import Derived.Laws.OwnMore
namespace Go.Proofs.Ytolomblbcljdfaa.Dk

abbrev Bs := List UInt8
abbrev Fs := List (Bs × Bs)
/-- One name is ahead of another one. -/
def blt (a b : Bs) : Bool := bytesBefore a b
theorem blt_irrefl (a : Bs) : blt a a = false := WideAt.bytes_irrefl a
theorem blt_total {a b : Bs} (h : a ≠ b) : blt a b = true ∨ blt b a = true := WideAt.bytes_total a b h
theorem blt_trans {a b c : Bs} (h : blt a b = true) (k : blt b c = true) : blt a c = true := WideShapes.bytes_trans a b c h k
theorem blt_less : ∀ a b : Bs, Op.bytesLess a b = blt a b
  | [], [] => rfl
  | [], _ :: _ => rfl
  | _ :: _, [] => rfl
  | a :: r, b :: s => by
    show (decide (a < b) || (a == b && Op.bytesLess r s)) = (decide (a < b) || (a == b && bytesBefore r s))
    rw [blt_less r s]; rfl
theorem blt_ne {a b : Bs} (h : blt a b = true) : a ≠ b := fun e => by rw [e, blt_irrefl] at h; cases h
theorem blt_asymm {a b : Bs} (h : blt a b = true) : blt b a = false := by
  cases k : blt b a
  · rfl
  · have := blt_trans h k; rw [blt_irrefl] at this; cases this

/-- Names rise. -/
def Up (F : Fs) : Prop := F.Pairwise fun p q => blt p.1 q.1 = true
def fget (F : Fs) (n : Bs) : Option Bs := (F.find? fun p => p.1 == n).map (·.2)
def fput (n b : Bs) : Fs → Fs
  | [] => [(n, b)]
  | p :: r => if blt p.1 n = true then p :: fput n b r else if p.1 = n then (n, b) :: r else (n, b) :: p :: r
def fdel (n : Bs) (F : Fs) : Fs := F.filter fun p => !(p.1 == n)
theorem fget_nil (n : Bs) : fget [] n = none := rfl
theorem fget_cons (p : Bs × Bs) (r : Fs) (n : Bs) : fget (p :: r) n = if p.1 = n then some p.2 else fget r n := by
  unfold fget
  by_cases h : p.1 = n
  · rw [List.find?_cons_of_pos (by simp [h]), if_pos h]; rfl
  · rw [List.find?_cons_of_neg (by simp [h]), if_neg h]
theorem fget_put (n b : Bs) (m : Bs) : ∀ F : Fs, fget (fput n b F) m = if m = n then some b else fget F m
  | [] => by
    simp only [fput, fget_cons, fget_nil]
    by_cases h : m = n
    · rw [if_pos h.symm, if_pos h]
    · rw [if_neg (fun e => h e.symm), if_neg h]
  | p :: r => by
    simp only [fput]
    by_cases h1 : blt p.1 n = true
    · rw [if_pos h1, fget_cons, fget_put n b m r, fget_cons]
      by_cases h : m = n
      · subst h
        rw [if_neg (blt_ne h1), if_pos rfl, if_pos rfl]
      · rw [if_neg h, if_neg h]
    · rw [if_neg h1]
      by_cases h2 : p.1 = n
      · rw [if_pos h2, fget_cons, fget_cons]
        by_cases h : m = n
        · rw [if_pos h.symm, if_pos h]
        · rw [if_neg (fun e => h e.symm), if_neg h, if_neg (fun e => h (e.symm.trans h2))]
      · rw [if_neg h2, fget_cons]
        by_cases h : m = n
        · rw [if_pos h.symm, if_pos h]
        · rw [if_neg (fun e => h e.symm), if_neg h]
theorem fget_del (n m : Bs) : ∀ F : Fs, fget (fdel n F) m = if m = n then none else fget F m
  | [] => by
    by_cases h : m = n
    · rw [if_pos h]; rfl
    · rw [if_neg h]; rfl
  | p :: r => by
    by_cases h2 : p.1 = n
    · have e : fdel n (p :: r) = fdel n r := by simp [fdel, h2]
      rw [e, fget_del n m r, fget_cons]
      by_cases h : m = n
      · rw [if_pos h, if_pos h]
      · rw [if_neg h, if_neg h, if_neg (fun e => h (e.symm.trans h2))]
    · have e : fdel n (p :: r) = p :: fdel n r := by simp [fdel, h2]
      rw [e, fget_cons, fget_del n m r, fget_cons]
      by_cases h : m = n
      · subst h; rw [if_neg h2, if_pos rfl, if_pos rfl]
      · rw [if_neg h, if_neg h]
theorem mem_put {n b : Bs} {q : Bs × Bs} : ∀ {F : Fs}, q ∈ fput n b F → q = (n, b) ∨ q ∈ F
  | [], h => by simp [fput] at h; exact .inl h
  | p :: r, h => by
    simp only [fput] at h
    split at h
    · rcases List.mem_cons.1 h with rfl | h
      · exact .inr (by simp)
      · rcases mem_put h with h | h
        · exact .inl h
        · exact .inr (by simp [h])
    · split at h
      · rcases List.mem_cons.1 h with rfl | h
        · exact .inl rfl
        · exact .inr (by simp [h])
      · rcases List.mem_cons.1 h with rfl | h
        · exact .inl rfl
        · exact .inr h
theorem Up.put (n b : Bs) : ∀ {F : Fs}, Up F → Up (fput n b F)
  | [], _ => by simp [fput, Up]
  | p :: r, h => by
    obtain ⟨h1, h2⟩ := List.pairwise_cons.1 h
    simp only [fput]
    split
    · rename_i hp
      refine List.pairwise_cons.2 ⟨fun q hq => ?_, Up.put n b h2⟩
      rcases mem_put hq with rfl | hq
      · exact hp
      · exact h1 q hq
    · split
      · rename_i hp
        refine List.pairwise_cons.2 ⟨fun q hq => ?_, h2⟩
        have := h1 q hq
        rw [hp] at this
        exact this
      · rename_i hp hn
        have hnp : blt n p.1 = true := by
          rcases blt_total hn with h | h
          · exact absurd h hp
          · exact h
        refine List.pairwise_cons.2 ⟨fun q hq => ?_, h⟩
        rcases List.mem_cons.1 hq with rfl | hq
        · exact hnp
        · exact blt_trans hnp (h1 q hq)
theorem Up.del (n : Bs) {F : Fs} (h : Up F) : Up (fdel n F) := List.Pairwise.filter _ h
theorem fget_mem {F : Fs} (h : Up F) {p : Bs × Bs} (hp : p ∈ F) : fget F p.1 = some p.2 := by
  induction F with
  | nil => cases hp
  | cons q r ih =>
    obtain ⟨h1, h2⟩ := List.pairwise_cons.1 h
    rw [fget_cons]
    rcases List.mem_cons.1 hp with rfl | hp
    · rw [if_pos rfl]
    · rw [if_neg (blt_ne (h1 p hp)), ih h2 hp]
theorem mem_fget {F : Fs} {n b : Bs} (h : fget F n = some b) : (n, b) ∈ F := by
  induction F with
  | nil => cases h
  | cons q r ih =>
    rw [fget_cons] at h
    split at h
    · rename_i e
      injection h with h
      subst e h
      exact .head _
    · exact .tail _ (ih h)
theorem up_ext : ∀ {F G : Fs}, Up F → Up G → (∀ n, fget F n = fget G n) → F = G
  | [], [], _, _, _ => rfl
  | [], q :: s, _, _, h => by have := h q.1; rw [fget_cons, if_pos rfl] at this; cases this
  | p :: r, [], _, _, h => by have := h p.1; rw [fget_cons, if_pos rfl] at this; cases this
  | p :: r, q :: s, hF, hG, h => by
    obtain ⟨f1, f2⟩ := List.pairwise_cons.1 hF
    obtain ⟨g1, g2⟩ := List.pairwise_cons.1 hG
    have e1 : p.1 = q.1 := by
      apply Classical.byContradiction
      intro hne
      rcases blt_total hne with hlt | hlt
      · have hm := h p.1
        rw [fget_cons, if_pos rfl] at hm
        rcases List.mem_cons.1 (mem_fget hm.symm) with e | hm
        · exact hne (congrArg Prod.fst e)
        · have := g1 _ hm
          have := blt_trans hlt this
          rw [blt_irrefl] at this; cases this
      · have hm := h q.1
        rw [fget_cons q, if_pos rfl] at hm
        rcases List.mem_cons.1 (mem_fget hm) with e | hm
        · exact hne (congrArg Prod.fst e).symm
        · have := f1 _ hm
          have := blt_trans hlt this
          rw [blt_irrefl] at this; cases this
    have e2 : p.2 = q.2 := by
      have hm := h p.1
      rw [fget_cons, if_pos rfl, fget_cons, if_pos e1.symm] at hm
      injection hm
    have e3 : r = s := up_ext f2 g2 fun n => by
      have hm := h n
      rw [fget_cons, fget_cons, e1, e2] at hm
      by_cases hn : q.1 = n
      · subst hn
        have hr : fget r q.1 = none := by
          cases hc : fget r q.1 with
          | none => rfl
          | some b => have := f1 _ (mem_fget hc); rw [e1, blt_irrefl] at this; cases this
        have hs : fget s q.1 = none := by
          cases hc : fget s q.1 with
          | none => rfl
          | some b => have := g1 _ (mem_fget hc); rw [blt_irrefl] at this; cases this
        rw [hr, hs]
      · rw [if_neg hn, if_neg hn] at hm
        exact hm
    rw [e3]
    exact congrArg (· :: s) (Prod.ext e1 e2)

/-- How many bytes files have. -/
def fsize (F : Fs) : Nat := (F.map fun p => p.2.length).sum
theorem fsize_cons (p : Bs × Bs) (r : Fs) : fsize (p :: r) = p.2.length + fsize r := by simp [fsize]
def flen (F : Fs) (n : Bs) : Nat := ((fget F n).getD []).length
theorem fget_behind {p : Bs × Bs} {r : Fs} (h : ∀ q ∈ r, blt p.1 q.1 = true) {n : Bs} (hn : blt p.1 n = false) : fget r n = none := by
  cases hc : fget r n with
  | none => rfl
  | some b => have := h _ (mem_fget hc); rw [hn] at this; cases this
theorem size_put (n b : Bs) : ∀ {F : Fs}, Up F → fsize (fput n b F) + flen F n = fsize F + b.length ∧ (fput n b F).length = F.length + (if (fget F n).isSome then 0 else 1)
  | [], _ => ⟨by simp [fput, fsize, flen, fget], by simp [fput, fget]⟩
  | p :: r, h => by
    obtain ⟨h1, h2⟩ := List.pairwise_cons.1 h
    simp only [fput]
    split
    · rename_i hp
      have ih := size_put n b h2
      have e : fget (p :: r) n = fget r n := by rw [fget_cons, if_neg (blt_ne hp)]
      unfold flen at ih ⊢
      rw [e, fsize_cons, fsize_cons, List.length_cons, List.length_cons, ih.2]
      constructor
      · have := ih.1; omega
      · omega
    · rename_i hp
      have hp : blt p.1 n = false := by simpa using hp
      split
      · rename_i hn
        unfold flen
        rw [fget_cons, if_pos hn, fsize_cons, fsize_cons]
        exact ⟨show b.length + fsize r + p.2.length = p.2.length + fsize r + b.length by omega, rfl⟩
      · rename_i hn
        unfold flen
        rw [fget_cons, if_neg hn, fget_behind h1 hp, fsize_cons]
        simp; omega
theorem size_del (n : Bs) : ∀ {F : Fs}, Up F → fsize (fdel n F) + flen F n = fsize F ∧ (fdel n F).length + (if (fget F n).isSome then 1 else 0) = F.length
  | [], _ => ⟨by simp [fdel, fsize, flen, fget], by simp [fdel, fget]⟩
  | p :: r, h => by
    obtain ⟨h1, h2⟩ := List.pairwise_cons.1 h
    by_cases hn : p.1 = n
    · have e : fdel n (p :: r) = fdel n r := by simp [fdel, hn]
      have hr : fget r n = none := fget_behind h1 (by rw [hn]; exact blt_irrefl _)
      have ih := size_del n h2
      unfold flen at ih ⊢
      rw [hr] at ih
      simp at ih
      rw [e, fget_cons, if_pos hn, fsize_cons, ih.1]
      simp [ih.2]; omega
    · have e : fdel n (p :: r) = p :: fdel n r := by simp [fdel, hn]
      have ih := size_del n h2
      unfold flen at ih ⊢
      rw [e, fget_cons, if_neg hn, fsize_cons, fsize_cons, List.length_cons, List.length_cons]
      omega

/-- A file's bytes behind a Put, a Cut. -/
def padTo (b : Bs) (n : Nat) : Bs := b ++ List.replicate (n - b.length) 0
def putB (b : Bs) (off : Nat) (d : Bs) : Bs := (padTo b off).take off ++ d ++ b.drop (off + d.length)
def cutB (b : Bs) (n : Nat) : Bs := (padTo b n).take n
theorem putB_length (b : Bs) (off : Nat) (d : Bs) : (putB b off d).length = max b.length (off + d.length) := by
  simp [putB, padTo]; omega
theorem cutB_length (b : Bs) (n : Nat) : (cutB b n).length = n := by
  simp [cutB, padTo]; omega
theorem padTo_get (b : Bs) (n j : Nat) : (padTo b n).getD j 0 = b.getD j 0 := by
  simp only [padTo, List.getD_eq_getElem?_getD]
  by_cases h : j < b.length
  · rw [List.getElem?_append_left h]
  · rw [List.getElem?_append_right (by omega), List.getElem?_eq_none (show b.length ≤ j by omega)]
    by_cases h2 : j - b.length < n - b.length
    · rw [List.getElem?_replicate, if_pos h2]; rfl
    · rw [List.getElem?_replicate, if_neg h2]
theorem cutB_get (b : Bs) (n j : Nat) : (cutB b n).getD j 0 = if j < n then b.getD j 0 else 0 := by
  have h0 := padTo_get b n j
  simp only [cutB, List.getD_eq_getElem?_getD] at h0 ⊢
  by_cases h : j < n
  · rw [if_pos h, List.getElem?_take_of_lt h, h0]
  · rw [if_neg h, List.getElem?_eq_none (by simp; omega)]; rfl
theorem putB_get (b : Bs) (off : Nat) (d : Bs) (j : Nat) : (putB b off d).getD j 0 = if off ≤ j ∧ j < off + d.length then d.getD (j - off) 0 else b.getD j 0 := by
  have h0 := padTo_get b off j
  have hl : ((padTo b off).take off).length = off := by simp [padTo]; omega
  simp only [putB, List.getD_eq_getElem?_getD] at h0 ⊢
  by_cases h1 : j < off
  · rw [if_neg (by omega), List.append_assoc, List.getElem?_append_left (by omega), List.getElem?_take_of_lt h1, h0]
  · rw [List.append_assoc, List.getElem?_append_right (by omega), hl]
    by_cases h2 : j < off + d.length
    · rw [if_pos ⟨by omega, h2⟩, List.getElem?_append_left (by omega)]
    · rw [if_neg (by omega), List.getElem?_append_right (by omega), List.getElem?_drop, show off + d.length + (j - off - d.length) = j by omega]
theorem bs_ext {a b : Bs} (hl : a.length = b.length) (h : ∀ j, j < a.length → a.getD j 0 = b.getD j 0) : a = b := by
  apply List.ext_getElem hl
  intro j h1 h2
  have := h j h1
  simp only [List.getD_eq_getElem?_getD, List.getElem?_eq_getElem h1, List.getElem?_eq_getElem h2, Option.getD_some] at this
  exact this

/-- A change. -/
structure W1 where
  kind : Nat
  name : Bs
  off : Nat
  data : Bs
/-- How many bytes a file of so many has behind a change. -/
def behind (n : Nat) (w : W1) : Nat := if w.kind = 1 then max n (w.off + w.data.length) else if w.kind = 2 then w.off else 0
def bytesOf (F : Fs) (n : Bs) : Bs := (fget F n).getD []
/-- Files behind a change. -/
def doW (F : Fs) (w : W1) : Fs :=
  if w.kind = 3 then fdel w.name F else fput w.name (if w.kind = 2 then cutB (bytesOf F w.name) w.off else putB (bytesOf F w.name) w.off w.data) F
/-- A change that may be. -/
def OkW (w : W1) : Prop := 1 ≤ w.kind ∧ w.kind ≤ 3 ∧ w.off + w.data.length ≤ 4194304 ∧ w.name.length ≤ 32
def Fit (F : Fs) : Prop := ∀ p ∈ F, p.2.length ≤ 4194304 ∧ p.1.length ≤ 32
theorem Up.doW {F : Fs} (h : Up F) (w : W1) : Up (doW F w) := by
  unfold Dk.doW
  split
  · exact h.del _
  · exact h.put _ _
theorem bytesOf_le {F : Fs} (h : Fit F) (n : Bs) : (bytesOf F n).length ≤ 4194304 := by
  unfold bytesOf
  cases hc : fget F n with
  | none => simp
  | some b => exact (h _ (mem_fget hc)).1
theorem Fit.doW {F : Fs} (h : Fit F) {w : W1} (hw : OkW w) : Fit (doW F w) := by
  have hb := bytesOf_le h w.name
  unfold Dk.doW
  intro p hp
  split at hp
  · exact h p ((List.mem_filter.1 hp).1)
  · rcases mem_put hp with rfl | hp
    · obtain ⟨_, _, h3, h4⟩ := hw
      refine ⟨?_, h4⟩
      show (if w.kind = 2 then _ else _ : Bs).length ≤ _
      split
      · rw [cutB_length]; omega
      · rw [putB_length]; omega
    · exact h p hp
theorem size_doW {F : Fs} (h : Up F) {w : W1} (hw : 1 ≤ w.kind ∧ w.kind ≤ 3) : fsize (doW F w) + flen F w.name = fsize F + behind (flen F w.name) w := by
  have e : flen F w.name = (bytesOf F w.name).length := rfl
  unfold doW behind
  by_cases h3 : w.kind = 3
  · rw [if_pos h3, if_neg (by omega), if_neg (by omega)]
    have := (size_del w.name h).1
    omega
  · rw [if_neg h3]
    have := (size_put w.name (if w.kind = 2 then cutB (bytesOf F w.name) w.off else putB (bytesOf F w.name) w.off w.data) h).1
    by_cases h2 : w.kind = 2
    · rw [if_pos h2] at this ⊢
      rw [cutB_length] at this
      rw [if_neg (by omega), if_pos h2]
      omega
    · rw [if_neg h2] at this ⊢
      rw [putB_length] at this
      have hk : w.kind = 1 := by omega
      rw [if_pos hk]
      omega
theorem len_doW {F : Fs} (h : Up F) (w : W1) : (doW F w).length ≤ F.length + 1 := by
  unfold doW
  split
  · have := (size_del w.name h).2; omega
  · rw [(size_put _ _ h).2]; split <;> omega
theorem fsize_le {F : Fs} (h : Fit F) : fsize F ≤ F.length * 4194304 := by
  induction F with
  | nil => simp [fsize]
  | cons p r ih =>
    have h1 := (h p (by simp)).1
    have h2 := ih (fun q hq => h q (by simp [hq]))
    rw [fsize_cons, List.length_cons]
    omega
theorem mem_size {F : Fs} {p : Bs × Bs} (h : p ∈ F) : p.2.length ≤ fsize F := by
  induction F with
  | nil => cases h
  | cons q r ih =>
    rw [fsize_cons]
    rcases List.mem_cons.1 h with rfl | h
    · omega
    · have := ih h; omega
theorem flen_le (F : Fs) (n : Bs) : flen F n ≤ fsize F := by
  unfold flen
  cases hc : fget F n with
  | none => simp
  | some b => exact mem_size (mem_fget hc)

/-- Where a name is, or would be. -/
def fidx (F : Fs) (n : Bs) : Nat := (F.takeWhile fun p => blt p.1 n).length
def fthere (F : Fs) (n : Bs) : Bool := (fget F n).isSome
theorem fidx_cons (p : Bs × Bs) (r : Fs) (n : Bs) : fidx (p :: r) n = if blt p.1 n = true then fidx r n + 1 else 0 := by
  unfold fidx
  rw [List.takeWhile_cons]
  split <;> simp_all
theorem fidx_le (F : Fs) (n : Bs) : fidx F n ≤ F.length := by
  unfold fidx
  exact List.Sublist.length_le (List.takeWhile_sublist _)
theorem fidx_at {n : Bs} : ∀ {F : Fs}, Up F → (F[fidx F n]?).map (·.2) = fget F n ∨ (fget F n = none ∧ ∀ p, F[fidx F n]? = some p → p.1 ≠ n)
  | [], _ => .inl rfl
  | p :: r, h => by
    obtain ⟨h1, h2⟩ := List.pairwise_cons.1 h
    rw [fidx_cons]
    by_cases hp : blt p.1 n = true
    · rw [if_pos hp, List.getElem?_cons_succ, fget_cons, if_neg (blt_ne hp)]
      exact fidx_at h2
    · rw [if_neg hp, List.getElem?_cons_zero, fget_cons]
      by_cases hn : p.1 = n
      · rw [if_pos hn]; exact .inl rfl
      · rw [if_neg hn]
        refine .inr ⟨fget_behind h1 (by simpa using hp), ?_⟩
        rintro q hq
        injection hq with hq
        rw [← hq]; exact hn
theorem fput_idx {n : Bs} (b : Bs) : ∀ {F : Fs}, Up F → fput n b F = F.take (fidx F n) ++ (n, b) :: F.drop (fidx F n + (if fthere F n then 1 else 0))
  | [], _ => by simp [fput, fidx]
  | p :: r, h => by
    obtain ⟨h1, h2⟩ := List.pairwise_cons.1 h
    simp only [fput]
    by_cases hp : blt p.1 n = true
    · have e : fthere (p :: r) n = fthere r n := by unfold fthere; rw [fget_cons, if_neg (blt_ne hp)]
      rw [if_pos hp, fidx_cons, if_pos hp, e, fput_idx b h2, List.take_succ_cons, show fidx r n + 1 + (if fthere r n = true then 1 else 0) = (fidx r n + (if fthere r n = true then 1 else 0)) + 1 by omega, List.drop_succ_cons, List.cons_append]
    · rw [if_neg hp, fidx_cons, if_neg hp]
      by_cases hn : p.1 = n
      · have e : fthere (p :: r) n = true := by unfold fthere; rw [fget_cons, if_pos hn]; rfl
        rw [if_pos hn, e]; rfl
      · have e : fthere (p :: r) n = false := by unfold fthere; rw [fget_cons, if_neg hn, fget_behind h1 (by simpa using hp)]; rfl
        rw [if_neg hn, e]; rfl
theorem fdel_idx {n : Bs} : ∀ {F : Fs}, Up F → fdel n F = if fthere F n then F.take (fidx F n) ++ F.drop (fidx F n + 1) else F
  | [], _ => by simp [fdel, fthere, fget]
  | p :: r, h => by
    obtain ⟨h1, h2⟩ := List.pairwise_cons.1 h
    have ih := fdel_idx (n := n) h2
    by_cases hp : blt p.1 n = true
    · have e : fthere (p :: r) n = fthere r n := by unfold fthere; rw [fget_cons, if_neg (blt_ne hp)]
      have e2 : fdel n (p :: r) = p :: fdel n r := by simp [fdel, blt_ne hp]
      rw [e2, e, ih, fidx_cons, if_pos hp]
      split
      · rw [List.take_succ_cons, List.drop_succ_cons, List.cons_append]
      · rfl
    · have hr : fget r n = none := by
        by_cases hn : p.1 = n
        · exact fget_behind h1 (by rw [hn]; exact blt_irrefl _)
        · exact fget_behind h1 (by simpa using hp)
      have hdr : fdel n r = r := by
        unfold fdel
        rw [List.filter_eq_self]
        intro q hq
        cases hq2 : q.1 == n with
        | false => rfl
        | true =>
          have := fget_mem h2 hq
          rw [beq_iff_eq.1 hq2, hr] at this
          cases this
      rw [fidx_cons, if_neg hp]
      by_cases hn : p.1 = n
      · have e : fthere (p :: r) n = true := by unfold fthere; rw [fget_cons, if_pos hn]; rfl
        have e2 : fdel n (p :: r) = fdel n r := by simp [fdel, hn]
        rw [e2, e, hdr]; rfl
      · have e : fthere (p :: r) n = false := by unfold fthere; rw [fget_cons, if_neg hn, hr]; rfl
        have e2 : fdel n (p :: r) = p :: fdel n r := by simp [fdel, hn]
        rw [e2, e, hdr]; rfl

/-- A disk: what is sure, what came since, its room, its fuse, and whether it is down. -/
structure DS where
  sure : Fs
  unsure : List W1
  room : Int
  fuse : Int
  down : Bool
def DS.files (s : DS) : Fs := s.unsure.foldl doW s.sure
structure DS.Ok (s : DS) : Prop where
  up : Up s.sure
  fit : Fit s.sure
  un : ∀ w ∈ s.unsure, OkW w
  room : 0 ≤ s.room ∧ s.room ≤ 4194304
  fuse : 0 ≤ s.fuse ∧ s.fuse ≤ 9223372036854775807
theorem up_all {l : List W1} : ∀ {F : Fs}, Up F → Up (l.foldl doW F) := by
  induction l with
  | nil => exact fun h => h
  | cons w r ih => exact fun h => ih (h.doW w)
theorem fit_all {l : List W1} : ∀ {F : Fs}, Fit F → (∀ w ∈ l, OkW w) → Fit (l.foldl doW F) := by
  induction l with
  | nil => exact fun h _ => h
  | cons w r ih => exact fun h hw => ih (h.doW (hw w (by simp))) (fun x hx => hw x (by simp [hx]))
theorem len_all {l : List W1} : ∀ {F : Fs}, Up F → (l.foldl doW F).length ≤ F.length + l.length := by
  induction l with
  | nil => exact fun _ => by simp
  | cons w r ih =>
    intro F h
    have h1 := ih (h.doW w)
    have h2 := len_doW h w
    rw [List.length_cons, List.foldl_cons]
    omega
/-- What counts against memory. -/
def DS.cnt (s : DS) : Nat := s.sure.length + s.unsure.length
/-- A name. -/
def named (n : Bs) : Bool := decide (1 ≤ n.length) && decide (n.length ≤ 32) && n.all fun c => (decide (97 ≤ c.toNat) && decide (c.toNat ≤ 122)) || (decide (48 ≤ c.toNat) && decide (c.toNat ≤ 57)) || decide (c.toNat = 46)
/-- The fuse is one less; is the disk down now? -/
def burnt (s : DS) : DS := if s.fuse = 0 then s else if s.fuse = 1 then { s with fuse := 0, down := true } else { s with fuse := s.fuse - 1 }
def burns (s : DS) : Bool := decide (s.fuse = 1)
/-- Why a change is refused, 0: it is not (the fuse is not asked). -/
def refusal (s : DS) (kind : Nat) (name : Bs) (off : Int) (data : Bs) : Int :=
  if s.down = true then 11
  else if named name = false ∨ off < 0 ∨ 4194304 < off then 1
  else if fthere s.files name = false ∧ kind ≠ 3 ∧ 4096 ≤ s.files.length then 7
  else if fsize s.files < fsize (doW s.files ⟨kind, name, off.toNat, data⟩) ∧ s.room < (fsize (doW s.files ⟨kind, name, off.toNat, data⟩) : Int) then 10
  else 0
def chgE (s : DS) (kind : Nat) (name : Bs) (off : Int) (data : Bs) : Int := if refusal s kind name off data ≠ 0 then refusal s kind name off data else if burns s = true then 11 else 0
def chgS (s : DS) (kind : Nat) (name : Bs) (off : Int) (data : Bs) : DS :=
  if refusal s kind name off data ≠ 0 then s else if burns s = true then burnt s else { burnt s with unsure := s.unsure ++ [⟨kind, name, off.toNat, data⟩] }
def synE (s : DS) : Int := if s.down = true ∨ burns s = true then 11 else 0
def synS (s : DS) : DS := if s.down = true then s else if burns s = true then burnt s else { burnt s with sure := s.files, unsure := [] }
/-- Which of the unsure changes stay. -/
def stays (mask : Nat) (k : Nat) : Bool := mask / 2 ^ (k % 64) % 2 == 1
def staying (mask : Nat) : Nat → List W1 → List W1
  | _, [] => []
  | k, w :: r => if stays mask k = true then w :: staying mask (k + 1) r else staying mask (k + 1) r
/-- The last Put is cut down. -/
def tornR (torn : Int) : List W1 → List W1
  | [] => []
  | w :: r => if w.kind = 1 then (if 0 ≤ torn ∧ torn < (w.data.length : Int) then { w with data := w.data.take torn.toNat } else w) :: r else w :: tornR torn r
def torn (t : Int) (l : List W1) : List W1 := (tornR t l.reverse).reverse
def falS (s : DS) (mask : Nat) (t : Int) : DS := { sure := (torn t (staying mask 0 s.unsure)).foldl doW s.sure, unsure := [], room := s.room, fuse := 0, down := false }
end Go.Proofs.Ytolomblbcljdfaa.Dk
