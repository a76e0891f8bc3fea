/- Two pairs that share files; an act on one leaves the other. No walk. -/
import Derived.Test.YtcfnfphnjkllcaaLaT
namespace Go.Proofs.Ytcfnfphnjkllcaa.Dk
open Go.RowKit Go.Maps By Mp

/-- Two pairs of the call's own: what one reads the other may read, what one writes the other does not; block r is a row that stays. -/
structure TwoAt (w wr : World) (g x gc y r : Nat) (row : Obj) (s1 s2 : DS) (S1 T1 M1 S2 T2 M2 : Nat → Prop) : Prop where
  p1 : PairAt wr g x s1 S1 T1 M1
  p2 : PairAt wr gc y s2 S2 T2 M2
  f1 : ∀ b, S1 b ∨ T1 b → w.heap.size ≤ b
  f2 : ∀ b, S2 b ∨ T2 b → w.heap.size ≤ b
  ss : ∀ b, S1 b → S2 b → False
  st : ∀ b, S1 b → T2 b → False
  ts : ∀ b, T1 b → S2 b → False
  mt : ∀ b, M1 b → T2 b → False
  tm : ∀ b, T1 b → M2 b → False
  row : wr.heap[r]? = some row
  r1 : ¬ S1 r ∧ ¬ M1 r
  r2 : ¬ S2 r ∧ ¬ M2 r
  far : Below w.heap.size w wr
def Two (w wr : World) (g x gc y r : Nat) (row : Obj) (s1 s2 : DS) : Prop := ∃ S1 T1 M1 S2 T2 M2, TwoAt w wr g x gc y r row s1 s2 S1 T1 M1 S2 T2 M2
theorem Two.swap {w wr : World} {g x gc y r : Nat} {row : Obj} {s1 s2 : DS} (h : Two w wr g x gc y r row s1 s2) : Two w wr gc y g x r row s2 s1 := by
  obtain ⟨S1, T1, M1, S2, T2, M2, h⟩ := h
  exact ⟨S2, T2, M2, S1, T1, M1, h.p2, h.p1, h.f2, h.f1, fun b a c => h.ss b c a, fun b a c => h.ts b c a, fun b a c => h.st b c a, fun b a c => h.tm b c a, fun b a c => h.mt b c a, h.row, h.r2, h.r1, h.far⟩
theorem Two.below {w wr w' : World} {g x gc y r : Nat} {row : Obj} {s1 s2 : DS} (h : Two w wr g x gc y r row s1 s2) (hb : Below wr.heap.size wr w') : Two w w' g x gc y r row s1 s2 := by
  obtain ⟨S1, T1, M1, S2, T2, M2, h⟩ := h
  exact ⟨S1, T1, M1, S2, T2, M2, h.p1.below hb, h.p2.below hb, h.f1, h.f2, h.ss, h.st, h.ts, h.mt, h.tm, (hb.block r (row_lt h.row)).trans h.row, h.r1, h.r2, By.ext h.far hb⟩
theorem Two.far {w wr : World} {g x gc y r : Nat} {row : Obj} {s1 s2 : DS} (h : Two w wr g x gc y r row s1 s2) : Below w.heap.size w wr := by
  obtain ⟨S1, T1, M1, S2, T2, M2, h⟩ := h
  exact h.far
theorem Two.ok {w wr : World} {g x gc y r : Nat} {row : Obj} {s1 s2 : DS} (h : Two w wr g x gc y r row s1 s2) : s1.Ok ∧ s2.Ok := by
  obtain ⟨S1, T1, M1, S2, T2, M2, h⟩ := h
  exact ⟨h.p1.d.lt.2.2, h.p2.d.lt.2.2⟩
theorem two_step {w wr w' : World} {g x gc y r : Nat} {row : Obj} {s1 s2 s' : DS} {S1 T1 M1 S2 T2 M2 : Nat → Prop} {val : Value} {e : Ending} (h : TwoAt w wr g x gc y r row s1 s2 S1 T1 M1 S2 T2 M2) (hs : PStep val g x s' S1 T1 M1 wr e w') : e = .returned val ∧ Two w w' g x gc y r row s' s2 := by
  obtain ⟨he, S', T', M', hp, hS, hT, hM, hk⟩ := hs
  have hz := h.far.size
  have hl2 : ∀ b, S2 b ∨ T2 b → b < wr.heap.size := fun b hb => hb.elim (h.p2.d.lt.1 b) (h.p2.r.lt.1 b)
  have hmt1 := h.p1.r.lt.2.1
  have hmt2 := h.p2.r.lt.2.1
  have hk2 : ∀ b, S2 b ∨ T2 b → w'.heap[b]? = wr.heap[b]? := fun b hb => hk.block b (hl2 b hb) (fun e => by
    rcases e with e | e <;> rcases hb with hb | hb
    · exact h.ss b e hb
    · exact h.st b e hb
    · exact h.ts b (hmt1 b e) hb
    · exact h.mt b e hb)
  refine ⟨he, S', T', M', S2, T2, M2, hp, ⟨h.p2.d.keep (fun b hb => hk2 b (.inl hb)) hk.size, h.p2.r.keep (fun b hb => hk2 b (.inr hb)) hk.size, h.p2.sep⟩, fun b hb => ?_, h.f2, fun b ha hb => ?_, fun b ha hb => ?_, fun b ha hb => ?_, fun b ha hb => ?_, fun b ha hb => ?_, ?_, ?_, h.r2, h.far.trans (hk.below hz (fun b hb => h.f1 b (hb.imp id (hmt1 b))))⟩
  · rcases hb with hb | hb
    · rcases hS b hb with hb | hb
      · exact h.f1 b (.inl hb)
      · omega
    · rcases hT b hb with hb | hb
      · exact h.f1 b (.inr hb)
      · omega
  · have := hl2 b (.inl hb)
    rcases hS b ha with ha | ha
    · exact h.ss b ha hb
    · omega
  · have := hl2 b (.inr hb)
    rcases hS b ha with ha | ha
    · exact h.st b ha hb
    · omega
  · have := hl2 b (.inl hb)
    rcases hT b ha with ha | ha
    · exact h.ts b ha hb
    · omega
  · have := hl2 b (.inr hb)
    rcases hM b ha with ha | ha
    · exact h.mt b ha hb
    · omega
  · have := hl2 b (.inr (hmt2 b hb))
    rcases hT b ha with ha | ha
    · exact h.tm b ha hb
    · omega
  · exact (hk.block r (row_lt h.row) (fun e => e.elim h.r1.1 h.r1.2)).trans h.row
  · have hr := row_lt h.row
    refine ⟨fun e => ?_, fun e => ?_⟩
    · rcases hS r e with e | e
      · exact h.r1.1 e
      · omega
    · rcases hM r e with e | e
      · exact h.r1.2 e
      · omega
theorem act_two (g x gc y r : Nat) (row : Obj) (s1 s2 : DS) (a : A1) (A : Option Addr) (c : Nat) (w wr : World) (h : Two w wr g x gc y r row s1 s2) (hcnt : s1.cnt ≤ 68719476736) (ha : ActOk a) (hc : a.data.length ≤ c) (hd : Lies w w.heap.size A a.data) :
    Calls Try.prog 14 #[.pointer (some ⟨g, 0, none⟩), .pointer (some ⟨x, 0, none⟩), aV a (A, c)] wr (fun e w' => e = .returned (.bool true) ∧ Two w w' g x gc y r row (actS s1 a) s2) := by
  obtain ⟨S1, T1, M1, S2, T2, M2, h⟩ := h
  have hz := h.far.size
  refine (act_any g x s1 S1 T1 M1 a A c wr h.p1 hcnt ha hc (fun b => b < w.heap.size) (fun b hb => ⟨fun e => ?_, fun e => ?_, Nat.lt_of_lt_of_le hb hz⟩) ((LiesS.of hd).keep (fun b hb => h.far.block b hb) (fun _ h => h))).mono (fun e w' hp => two_step h hp)
  · exact Nat.not_lt_of_le (h.f1 b (.inl e)) hb
  · exact Nat.not_lt_of_le (h.f1 b (.inr e)) hb
theorem alike_two (g x gc y r : Nat) (row : Obj) (s1 s2 : DS) (w wr : World) (h : Two w wr g x gc y r row s1 s2) (hcnt : s1.cnt ≤ 68719476736) (hn : Nmd s1) : Calls Try.prog 15 #[.pointer (some ⟨g, 0, none⟩), .pointer (some ⟨x, 0, none⟩)] wr (RetB (.bool true) wr) := by
  obtain ⟨S1, T1, M1, S2, T2, M2, h⟩ := h
  exact alike_any g x s1 S1 T1 M1 wr h.p1 hcnt hn
end Go.Proofs.Ytcfnfphnjkllcaa.Dk
