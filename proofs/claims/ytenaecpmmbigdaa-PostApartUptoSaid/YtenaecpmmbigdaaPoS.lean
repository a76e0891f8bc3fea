/- The law's act, of any kind, and its alike, as contracts of calls. -/
import Derived.Test.YtenaecpmmbigdaaPoP
import Derived.Test.YtenaecpmmbigdaaPoQ
import Derived.Test.YtenaecpmmbigdaaPoR
import Derived.Deep.QuietTactic
import Derived.BigQuiet
namespace Go.Proofs.Ytenaecpmmbigdaa.Po
open Go.RowKit Go.Maps By Mp

theorem peek_fst (p : P8) (i : Int) : (peekR p i).1 = p := by
  unfold peekR
  split <;> rfl
theorem bstep_to {ok : Prop} {g r : Nat} {p' q' p2 q2 : P8} {S T : Nat → Prop} {w w' : World} {e : Ending} (h : BStep ok g r p' q' S T w e w') (hp : p' = p2) (hq : q' = q2) : BStep ok g r p2 q2 S T w e w' := by
  subst hp hq; exact h
theorem act_any (g r : Nat) (p q : P8) (S T : Nat → Prop) (M : Nat) (x : A8) (A : Option Addr) (n c : Nat) (w : World) (h : Two w g r p q S T) (hn : n = x.d.length) (hd : x.d.length ≤ 1048576) (hA : Lies w M A x.d) (hM : M ≤ w.heap.size) (hS : ∀ b, S b → M ≤ b) (hT : ∀ b, T b → M ≤ b) :
    Calls Try.prog 11 #[.pointer (some ⟨g, 0, none⟩), .pointer (some ⟨r, 0, none⟩), .agg #[.int .i64 x.kind, .int .i64 x.a, .int .i64 x.b, .slice A n c]] w (BStep (p = q) g r (actP p x) (actP q x) S T w) := by
  obtain ⟨kd, a, b, d⟩ := x
  by_cases k1 : kd = 1
  · subst k1
    exact (act_1 g r p q S T M a b A n c d w h hn hd hA hM hS hT).mono fun e w' hb => bstep_to hb (by simp [actP]) (by simp [actP])
  by_cases k2 : kd = 2
  · subst k2
    exact (act_2 g r p q S T M a b A n c d w h hn hd hA hM hS hT).mono fun e w' hb => bstep_to hb (by simp [actP, lookP]) (by simp [actP, lookQ])
  by_cases k3 : kd = 3
  · subst k3
    have e1 : actP p ⟨3, a, b, d⟩ = (twinR p a).1 := by simp [actP]
    have e2 : actP q ⟨3, a, b, d⟩ = (twinR q a).1 := by simp [actP]
    obtain ⟨⟨P1, E1⟩, hP⟩ : ∃ z, twinR p a = z := ⟨_, rfl⟩
    have hQ : ∀ z, twinR q a = z → p = q → E1 = z.2 := fun z hz e => by rw [← e, hP] at hz; rw [← hz]
    cases hx : (if a < 0 then none else q.l[a.toNat]?) with
    | none =>
      have hz : twinR q a = (q, 8) := by unfold twinR; rw [hx]
      exact (act_3_out g r p q S T M a b P1 E1 hP (hQ _ hz) (at_out hx) A n c d w h hn hd hA hM hS hT).mono fun e w' hb => bstep_to hb (by rw [e1, hP]) (by rw [e2, hz])
    | some y =>
      obtain ⟨k, hk, hy⟩ := at_in hx
      have hz : twinR q a = if q.room ≤ (q.l.length : Int) then (q, 10) else ({ q with l := q.l ++ [y] }, 0) := by unfold twinR; rw [hx]
      subst hk
      by_cases hf : q.room ≤ (q.l.length : Int)
      · rw [if_pos hf] at hz
        exact (act_3_full g r p q S T M P1 E1 k hP (hQ _ hz) (List.getElem?_eq_some_iff.1 hy).1 hf b A n c d w h hn hd hA hM hS hT).mono fun e w' hb => bstep_to hb (by rw [e1, hP]) (by rw [e2, hz])
      · rw [if_neg hf] at hz
        exact (act_3_add g r p q S T M P1 E1 k y hP (hQ _ hz) hy (by omega) b A n c d w h hn hd hA hM hS hT).mono fun e w' hb => bstep_to hb (by rw [e1, hP]) (by rw [e2, hz])
  by_cases k4 : kd = 4
  · subst k4
    have e1 : actP p ⟨4, a, b, d⟩ = (cutR p a b).1 := by simp [actP]
    have e2 : actP q ⟨4, a, b, d⟩ = (cutR q a b).1 := by simp [actP]
    by_cases hs : Sound8 a b
    · by_cases hin : (a, b) ∈ q.cuts
      · refine (act_4_in g r p q S T M a b hs hin A n c d w h hn hd hA hM hS hT).mono fun e w' hb => bstep_to hb (by rw [e1, cutR, if_pos hs]) ?_
        rw [e2, cutR, if_pos hs]
        unfold cutP
        rw [if_pos hin]
      · exact (act_4_new g r p q S T M a b hs hin A n c d w h hn hd hA hM hS hT).mono fun e w' hb => bstep_to hb (by rw [e1, cutR, if_pos hs]) (by rw [e2, cutR, if_pos hs])
    · exact (act_4_bad g r p q S T M a b hs A n c d w h hn hd hA hM hS hT).mono fun e w' hb => bstep_to hb (by rw [e1, cutR, if_neg hs]) (by rw [e2, cutR, if_neg hs])
  by_cases k5 : kd = 5
  · subst k5
    have e1 : actP p ⟨5, a, b, d⟩ = (healR p a b).1 := by simp [actP]
    have e2 : actP q ⟨5, a, b, d⟩ = (healR q a b).1 := by simp [actP]
    by_cases hs : Sound8 a b
    · by_cases hin : (a, b) ∈ q.cuts
      · exact (act_5_in g r p q S T M a b hs hin A n c d w h hn hd hA hM hS hT).mono fun e w' hb => bstep_to hb (by rw [e1, healR, if_pos hs]) (by rw [e2, healR, if_pos hs])
      · refine (act_5_not g r p q S T M a b hs hin A n c d w h hn hd hA hM hS hT).mono fun e w' hb => bstep_to hb (by rw [e1, healR, if_pos hs]) ?_
        rw [e2, healR, if_pos hs]
        unfold healP
        rw [heal_not hin]
    · exact (act_5_bad g r p q S T M a b hs A n c d w h hn hd hA hM hS hT).mono fun e w' hb => bstep_to hb (by rw [e1, healR, if_neg hs]) (by rw [e2, healR, if_neg hs])
  have e1 : ∀ p, actP p ⟨kd, a, b, d⟩ = p := fun p => by simp [actP, k1, k2, k3, k4, k5]
  by_cases k6 : kd = 6
  · subst k6
    exact (act_6 g r p q S T M a b A n c d w h hn hd hA hM hS hT).mono fun e w' hb => bstep_to hb (e1 p).symm (e1 q).symm
  · refine (act_o g r p q S T M kd (beq_eq_false_iff_ne.2 k1) (beq_eq_false_iff_ne.2 k2) (beq_eq_false_iff_ne.2 k3) (beq_eq_false_iff_ne.2 k4) (beq_eq_false_iff_ne.2 k5) (beq_eq_false_iff_ne.2 k6) a b A n c d w h hn hd hA hM hS hT).mono fun e w' hb => bstep_to hb ?_ ?_
    · rw [e1]; unfold lookP; rw [if_neg (by decide), peek_fst]
    · rw [e1]; unfold lookQ; rw [if_neg (by decide)]
/-- True of both. -/
def AStep (g r : Nat) (p q : P8) (S T : Nat → Prop) (w : World) (e : Ending) (w' : World) : Prop :=
  e = .returned (.bool true) ∧ ∃ S' T', Two w' g r p q S' T' ∧ (∀ b, S' b → S b ∨ w.heap.size ≤ b) ∧ (∀ b, T' b → T b ∨ w.heap.size ≤ b) ∧ Kept (fun b => S b ∨ T b) w w'
theorem BStep.yes {ok : Prop} {g r : Nat} {p' q' : P8} {S T : Nat → Prop} {w w' : World} {e : Ending} (h : BStep ok g r p' q' S T w e w') (hok : ok) : AStep g r p' q' S T w e w' := by
  obtain ⟨bb, rfl, hv, S', T', h⟩ := h
  rw [hv hok]
  exact ⟨rfl, S', T', h⟩
/-- What was carried on. -/
structure Car (g r : Nat) (p q : P8) (S T S' T' : Nat → Prop) (w w' : World) : Prop where
  two : Two w' g r p q S' T'
  s : ∀ b, S' b → S b ∨ w.heap.size ≤ b
  t : ∀ b, T' b → T b ∨ w.heap.size ≤ b
  k : Kept (fun b => S b ∨ T b) w w'
theorem Car.refl {g r : Nat} {p q : P8} {S T : Nat → Prop} {w : World} (h : Two w g r p q S T) : Car g r p q S T S T w w := ⟨h, fun _ h => .inl h, fun _ h => .inl h, Kept.refl _ _⟩
theorem Car.step {g r : Nat} {p q p' q' : P8} {S T S1 T1 S2 T2 : Nat → Prop} {w w1 w2 : World} (h : Car g r p q S T S1 T1 w w1) (h2 : Two w2 g r p' q' S2 T2) (hs : ∀ b, S2 b → S1 b ∨ w1.heap.size ≤ b) (ht : ∀ b, T2 b → T1 b ∨ w1.heap.size ≤ b) (hk : Kept (fun b => S1 b ∨ T1 b) w1 w2) : Car g r p' q' S T S2 T2 w w2 := by
  have hz := h.k.size
  refine ⟨h2, fun b hb => ?_, fun b hb => ?_, h.k.step hk (fun b hb e => ?_)⟩
  · rcases hs b hb with e | e
    · exact h.s b e
    · exact .inr (by omega)
  · rcases ht b hb with e | e
    · exact h.t b e
    · exact .inr (by omega)
  · rcases e with e | e
    · rcases h.s b e with e | e
      · exact .inl e
      · omega
    · rcases h.t b e with e | e
      · exact .inr e
      · omega
theorem Car.below {g r : Nat} {p q : P8} {S T S1 T1 : Nat → Prop} {w w1 w2 : World} (h : Car g r p q S T S1 T1 w w1) (hb : Below w1.heap.size w1 w2) : Car g r p q S T S1 T1 w w2 :=
  ⟨h.two.below hb, h.s, h.t, h.k.trans (Kept.of_below hb)⟩
theorem len_same (g : Nat) (p : P8) (S : Nat → Prop) (w : World) (h : PostIs w g p S) : Calls Try.prog 15 #[.pointer (some ⟨g, 0, none⟩)] w (fun e w' => e = .returned (.int .i64 (p.l.length : Nat)) ∧ w' = w) := by
  obtain ⟨v, mb, h⟩ := h
  obtain ⟨A, c, rfl⟩ := ownsRow_form h.own
  obtain ⟨c0, c1, c2⟩ := h.cells
  have q := ptrTest
  clear h
  go_enter Try.func15, Try.ntmps15
  go_wp2
  go_ret
  exact ⟨rfl, rfl⟩
set_option maxRecDepth 100000 in
set_option maxHeartbeats 1600000 in
theorem alike_any (g r : Nat) (p : P8) (S T : Nat → Prop) (w : World) (h : Two w g r p p S T) : Calls Try.prog 12 #[.pointer (some ⟨g, 0, none⟩), .pointer (some ⟨r, 0, none⟩)] w (AStep g r p p S T w) := by
  have HT := Lib.hid h
  have hn4 : (p.l.length : Int) ≤ 4096 := by
    obtain ⟨v, mb, hp⟩ := h.post
    have := hp.ok.few; have := hp.ok.room.2; omega
  clear h
  go_enter Try.func12, Try.ntmps12
  go_wp2
  go_loopw [5] (fun i wr => ∃ k : Nat, k ≤ p.l.length ∧ i = .int .i64 (k : Int) ∧ ∃ S1 T1, Car g r p p S T S1 T1 w wr) (fun i _ => p.l.length - (intOf i).toNat)
  case atStart => exact ⟨0, Nat.zero_le _, rfl, S, T, Car.refl HT.out⟩
  case round =>
    obtain ⟨k, hk, rfl, S1, T1, hcar⟩ := hrel
    obtain ⟨lv, cv, dv, hr⟩ := hcar.two.ref
    obtain ⟨Al, cl, hlv⟩ := ownsRow_form hr.list
    obtain ⟨c0, c1, c2⟩ := hr.cells
    rw [hlv] at c1
    have HC := Lib.hid hcar
    clear hcar hr hlv
    by_cases hlt : k < p.l.length
    · have HL := Lib.hid (look_any g r p p S1 T1 (k : Int) false wr HC.out.two)
      go_wp2_with fail
      refine HL.out.mono ?_
      rintro e w2 hb
      obtain ⟨rfl, S2, T2, ht2, hs2, hr2, hk2⟩ := hb.yes (by first | rfl | trivial)
      have e1 : (lookP p (k : Int) false).1 = p := peek_fst _ _
      have e2 : lookQ p (k : Int) false = p := rfl
      rw [e1, e2] at ht2
      have HC2 := Lib.hid (HC.out.step ht2 hs2 hr2 hk2)
      clear ht2 hs2 hr2 hk2 hb e1 e2 HL
      go_wp2
      go_roundw
      case rel => exact ⟨k + 1, by omega, by go_num, S2, T2, HC2.out⟩
      case measure => simp [intOf]; omega
    · have hke : k = p.l.length := by omega
      have HLN := Lib.hid (fun w' (hb : Below wr.heap.size wr w') => len_same g p S1 w' (HC.out.two.post.below hb))
      clear hke
      go_wp2
      go_quiet ((go_at_call 15; exact Calls.quiet_of_same (HLN.out _ (by first | exact Below.refl _ _ | exact (Below.refl _ _).drew | exact below_drewN (Below.refl _ _) _))))
      go_wp2
      go_ret
      have hcar := HC.out.below (below_drewN (Below.refl _ _) nq)
      exact ⟨by simp, S1, T1, hcar.two, hcar.s, hcar.t, hcar.k⟩
end Go.Proofs.Ytenaecpmmbigdaa.Po
