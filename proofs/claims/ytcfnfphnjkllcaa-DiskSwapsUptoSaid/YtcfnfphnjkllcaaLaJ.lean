/- What the laws share that look at a disk behind a fall: a disk of the call's own beside files that were read from it. No walk. -/
import Derived.Test.YtcfnfphnjkllcaaLaH
namespace Go.Proofs.Ytcfnfphnjkllcaa.Dk
open Go.RowKit Go.Maps By Mp

theorem stays_all (k : Nat) : stays 18446744073709551615 k = true := by
  have h : ∀ j : Fin 64, (18446744073709551615 / 2 ^ j.val % 2 == 1) = true := by decide
  exact h ⟨k % 64, Nat.mod_lt _ (by decide)⟩
theorem staying_all : ∀ (l : List W1) (k : Nat), staying 18446744073709551615 k l = l
  | [], _ => rfl
  | x :: l, k => by
    simp only [staying]
    rw [if_pos (stays_all k), staying_all l (k + 1)]
theorem stays_none (k : Nat) : stays 0 k = false := by
  unfold stays
  rw [Nat.zero_div]; rfl
theorem staying_none : ∀ (l : List W1) (k : Nat), staying 0 k l = []
  | [], _ => rfl
  | x :: l, k => by
    simp only [staying]
    rw [stays_none k, if_neg (by simp), staying_none l (k + 1)]
theorem torn_neg (l : List W1) : torn (-1) l = l := by
  have h : ∀ l : List W1, tornR (-1) l = l := by
    intro l
    induction l with
    | nil => rfl
    | cons x r ih =>
      simp only [tornR]
      split
      · rw [if_neg (by omega)]
      · rw [ih]
  unfold torn
  rw [h, List.reverse_reverse]
/-- A disk with these files, all sure. -/
def calmS (F : Fs) (room : Int) : DS := ⟨F, [], room, 0, false⟩
theorem falS_all (s : DS) : falS s 18446744073709551615 (-1) = calmS s.files s.room := by
  unfold falS calmS
  rw [staying_all, torn_neg]
  rfl
theorem falS_none (s : DS) (t : Int) : falS s 0 t = calmS s.sure s.room := by
  unfold falS calmS
  rw [staying_none]
  rfl
theorem falS_calm (F : Fs) (room : Int) (m : Nat) (t : Int) : falS (calmS F room) m t = calmS F room := rfl
/-- Files in blocks of X. -/
def HeldF (X : Nat → Prop) (wr : World) (v : Value) (F : Fs) : Prop := RfAt wr 0 X v F ∧ ∀ b, v.ownBlock = some b → X b
theorem HeldF.keep {X : Nat → Prop} {wr w' : World} {v : Value} {F : Fs} (h : HeldF X wr v F) (hk : ∀ b, X b → w'.heap[b]? = wr.heap[b]?) : HeldF X w' v F := ⟨h.1.keep (fun b hb => hk b (h.2 b hb)) hk (fun _ h => h), h.2⟩
theorem held_of {wa wb : World} {v : Value} {F : Fs} (h : RfAt wb wa.heap.size (New8 wa wb) v F) : HeldF (fun b => wa.heap.size ≤ b ∧ b < wb.heap.size) wb v F :=
  ⟨(h.base (Nat.zero_le _)).keep (fun _ _ => rfl) (fun _ _ => rfl) (fun _ hb => ⟨hb.1, hb.2.1⟩), fun _ hb => rf_own_lt h hb⟩
/-- A disk of the call's own, apart from blocks of X. -/
def DX (X : Nat → Prop) (w wr : World) (g : Nat) (s : DS) (S : Nat → Prop) : Prop := DiskAt wr g s S ∧ (∀ b, S b → w.heap.size ≤ b ∧ ¬ X b) ∧ (∀ b, X b → b < wr.heap.size) ∧ Below w.heap.size w wr
theorem DX.below {X : Nat → Prop} {w wr w' : World} {g : Nat} {s : DS} {S : Nat → Prop} (h : DX X w wr g s S) (hb : Below wr.heap.size wr w') : DX X w w' g s S := ⟨h.1.below hb, h.2.1, fun b hx => Nat.lt_of_lt_of_le (h.2.2.1 b hx) hb.size, By.ext h.2.2.2 hb⟩
theorem DX.step {X : Nat → Prop} {w wr w' : World} {g : Nat} {s' : DS} {S : Nat → Prop} {val : Value} {e : Ending} {s : DS} (h : DX X w wr g s S) (hs : DStep val g s' S wr e w') : e = .returned val ∧ ∃ S', DX X w w' g s' S' ∧ ∀ b, X b → w'.heap[b]? = wr.heap[b]? := by
  obtain ⟨he, S', hd, hS, hk⟩ := hs
  have hz := h.2.2.2.size
  refine ⟨he, S', ⟨hd, fun b hb => ?_, fun b hx => Nat.lt_of_lt_of_le (h.2.2.1 b hx) hk.size, h.2.2.2.trans (hk.below hz (fun _ hb => (h.2.1 _ hb).1))⟩, fun b hx => hk.block b (h.2.2.1 b hx) (fun hb => (h.2.1 b hb).2 hx)⟩
  rcases hS b hb with h1 | h1
  · exact h.2.1 b h1
  · exact ⟨by omega, fun hx => by have := h.2.2.1 b hx; omega⟩
/-- A pair of the call's own, apart from blocks of X. -/
def OwnX (X : Nat → Prop) (w wr : World) (g r : Nat) (s : DS) : Prop := ∃ S T M, PairAt wr g r s S T M ∧ (∀ b, S b ∨ T b → w.heap.size ≤ b ∧ ¬ X b) ∧ (∀ b, X b → b < wr.heap.size) ∧ Below w.heap.size w wr
theorem OwnX.below {X : Nat → Prop} {w wr w' : World} {g r : Nat} {s : DS} (h : OwnX X w wr g r s) (hb : Below wr.heap.size wr w') : OwnX X w w' g r s := by
  obtain ⟨S, T, M, h1, h2, h3, h4⟩ := h
  exact ⟨S, T, M, h1.below hb, h2, fun b hx => Nat.lt_of_lt_of_le (h3 b hx) hb.size, By.ext h4 hb⟩
theorem OwnX.disk {X : Nat → Prop} {w wr : World} {g r : Nat} {s : DS} (h : OwnX X w wr g r s) : ∃ S, DX X w wr g s S := by
  obtain ⟨S, T, M, h1, h2, h3, h4⟩ := h
  exact ⟨S, h1.d, fun b hb => h2 b (.inl hb), h3, h4⟩
theorem OwnX.far {X : Nat → Prop} {w wr : World} {g r : Nat} {s : DS} (h : OwnX X w wr g r s) : Below w.heap.size w wr := by
  obtain ⟨S, T, M, h1, h2, h3, h4⟩ := h
  exact h4
theorem OwnX.ok {X : Nat → Prop} {w wr : World} {g r : Nat} {s : DS} (h : OwnX X w wr g r s) : s.Ok := by
  obtain ⟨S, T, M, h1, h2, h3, h4⟩ := h
  exact h1.d.lt.2.2
theorem OwnP.x {w wa wb : World} {g r : Nat} {s : DS} (h : OwnP w wa g r s) (hb : Below wa.heap.size wa wb) : OwnX (fun b => wa.heap.size ≤ b ∧ b < wb.heap.size) w wb g r s := by
  obtain ⟨S, T, M, h1, h2, h3⟩ := h
  refine ⟨S, T, M, h1.below hb, fun b hs => ⟨h2 b hs, fun hx => ?_⟩, fun b hx => hx.2, By.ext h3 hb⟩
  rcases hs with hs | hs
  · exact Nat.not_lt_of_le hx.1 (h1.d.lt.1 b hs)
  · exact Nat.not_lt_of_le hx.1 (h1.r.lt.1 b hs)
theorem OwnX.step {X : Nat → Prop} {val : Value} {w wr w' : World} {g r : Nat} {s' : DS} {S T M : Nat → Prop} {e : Ending} (hm : ∀ b, M b → T b) (h2 : ∀ b, S b ∨ T b → w.heap.size ≤ b ∧ ¬ X b) (hx : ∀ b, X b → b < wr.heap.size) (h3 : Below w.heap.size w wr) (h : PStep val g r s' S T M wr e w') :
    e = .returned val ∧ OwnX X w w' g r s' ∧ ∀ b, X b → w'.heap[b]? = wr.heap[b]? := by
  obtain ⟨he, S', T', M', hp, hS, hT, _, hk⟩ := h
  have hz := h3.size
  refine ⟨he, ⟨S', T', M', hp, fun b hb => ?_, fun b hb => Nat.lt_of_lt_of_le (hx b hb) hk.size, h3.trans (hk.below hz (fun b hb => (h2 b (hb.imp id (hm b))).1))⟩, fun b hb => hk.block b (hx b hb) (fun e => (h2 b (e.imp id (hm b))).2 hb)⟩
  rcases hb with hb | hb
  · rcases hS b hb with h | h
    · exact h2 b (.inl h)
    · exact ⟨by omega, fun e => by have := hx b e; omega⟩
  · rcases hT b hb with h | h
    · exact h2 b (.inr h)
    · exact ⟨by omega, fun e => by have := hx b e; omega⟩
theorem act_ownX (X : Nat → Prop) (g r : Nat) (s : DS) (a : A1) (A : Option Addr) (c : Nat) (w wr : World) (h : OwnX X w wr g r s) (hcnt : s.cnt ≤ 68719476736) (ha : ActOk a) (hc : a.data.length ≤ c) (hd : Lies w w.heap.size A a.data) :
    Calls Try.prog 14 #[.pointer (some ⟨g, 0, none⟩), .pointer (some ⟨r, 0, none⟩), aV a (A, c)] wr (fun e w' => e = .returned (.bool true) ∧ OwnX X w w' g r (actS s a) ∧ ∀ b, X b → w'.heap[b]? = wr.heap[b]?) := by
  obtain ⟨S, T, M, h1, h2, hx, h3⟩ := h
  have hz := h3.size
  refine (act_any g r s S T M a A c wr h1 hcnt ha hc (fun b => b < w.heap.size) (fun b hb => ⟨fun e => ?_, fun e => ?_, Nat.lt_of_lt_of_le hb hz⟩) ((LiesS.of hd).keep (fun b hb => h3.block b hb) (fun _ h => h))).mono (fun e w' hp => OwnX.step h1.r.lt.2.1 h2 hx h3 hp)
  · exact Nat.not_lt_of_le (h2 b (.inl e)).1 hb
  · exact Nat.not_lt_of_le (h2 b (.inr e)).1 hb
/-- The cells of the reference's own row. -/
theorem rd_cells {w : World} {r : Nat} {s : DS} {T M : Nat → Prop} (h : RDAt w r s T M) : w.cell? ⟨r, 2, none⟩ = some (.int .i64 s.room) ∧ w.cell? ⟨r, 3, none⟩ = some (.int .i64 s.fuse) ∧ w.cell? ⟨r, 4, none⟩ = some (.bool s.down) := by
  obtain ⟨v, u, h⟩ := h
  exact ⟨by rw [cell_of_row w r 2 _ _ _ h.row]; rfl, by rw [cell_of_row w r 3 _ _ _ h.row]; rfl, by rw [cell_of_row w r 4 _ _ _ h.row]; rfl⟩
theorem OwnP.cells {w wr : World} {g r : Nat} {s : DS} (h : OwnP w wr g r s) : wr.cell? ⟨r, 2, none⟩ = some (.int .i64 s.room) ∧ wr.cell? ⟨r, 3, none⟩ = some (.int .i64 s.fuse) ∧ wr.cell? ⟨r, 4, none⟩ = some (.bool s.down) := by
  obtain ⟨S, T, M, h1, h2, h3⟩ := h
  exact rd_cells h1.r
theorem OwnP.far {w wr : World} {g r : Nat} {s : DS} (h : OwnP w wr g r s) : Below w.heap.size w wr := by
  obtain ⟨S, T, M, h1, h2, h3⟩ := h
  exact h3
theorem files_own {w wr : World} {g r : Nat} {s : DS} (h : OwnP w wr g r s) (hcnt : s.cnt ≤ 68719476736) : Calls Try.prog 18 #[.pointer (some ⟨r, 0, none⟩)] wr (GivesF s.files wr) := by
  obtain ⟨S, T, M, h1, h2, h3⟩ := h
  exact rfiles_at h1.r hcnt
theorem sync_calm {s : DS} (hd : s.down = false) (hf : s.fuse = 0) : synE s = 0 ∧ synS s = calmS s.files s.room := by
  have hb : burns s = false := by unfold burns; rw [hf]; rfl
  have hu : burnt s = s := by unfold burnt; rw [if_pos hf]
  unfold synE synS calmS
  rw [hd, hb, hu]
  refine ⟨by simp, ?_⟩
  rw [if_neg (by simp), if_neg (by simp)]
  show (⟨s.files, [], s.room, s.fuse, s.down⟩ : DS) = _
  rw [hf, hd]
end Go.Proofs.Ytcfnfphnjkllcaa.Dk
