/- How far clocks go on, as plain facts; the law ClockTrust, walked. -/
import Derived.Test.YthpcmcnkiiebkaaCkM
namespace Go.Proofs.Ythpcmcnkiiebkaa.Ck
open Go.RowKit Go.Maps By Mp SumP SumW

/-- From p0 to p each clock has kept the drift. -/
def Drift (p0 p : C9) : Prop := p0.real ≤ p.real ∧ ∀ (i : Nat) x0 x, p0.t[i]? = some x0 → p.t[i]? = some x → x0 ≤ x ∧ (x - x0) * 1000000 ≤ (p.real - p0.real) * (1000000 + p.rho) ∧ (p.real - p0.real) * 1000000 ≤ (x - x0) * (1000000 + p.rho)
theorem Drift.refl (p : C9) : Drift p p := ⟨Int.le_refl _, fun i x0 x h1 h2 => by
  obtain rfl : x0 = x := Option.some.inj (h1.symm.trans h2)
  rw [Int.sub_self, Int.sub_self]
  omega⟩
theorem step_drift {n rho d : Int} (h : TameT n rho) (h0 : 0 ≤ d) (h1 : d ≤ 15) : stepF n rho d * 1000000 ≤ n * (1000000 + rho) ∧ n * 1000000 ≤ stepF n rho d * (1000000 + rho) := by
  have h2 := step_in h h0 h1
  have h3 := Int.ediv_mul_le (n * (1000000 + rho)) (show (1000000 : Int) ≠ 0 by omega)
  have h4 := least_eq h
  have h5 := shr_spec h
  have h6 : n * 1000000 ≤ leastF n rho * (1000000 + rho) := by
    rw [h4]
    split
    · rw [Int.add_mul, Int.one_mul]; omega
    · omega
  have hr := h.2.2.1
  refine ⟨?_, Int.le_trans h6 (Int.mul_le_mul_of_nonneg_right h2.1 (by omega))⟩
  have h7 : mostF n rho * 1000000 ≤ n * (1000000 + rho) := h3
  have := Int.mul_le_mul_of_nonneg_right (c := 1000000) h2.2.1 (by omega)
  omega
theorem Drift.pass {p0 p : C9} (h : Drift p0 p) (hok : p.Ok) (n d : Int) : Drift p0 (passC p n d) := by
  unfold passC
  split
  · exact h
  · rename_i hn
    have hn : okN n := Decidable.not_not.1 hn
    split
    · exact h
    · refine ⟨?_, fun i x0 x h1 h2 => ?_⟩
      · have := h.1
        have := hn.1
        show p0.real ≤ p.real + n
        omega
      · have h2 : (nextT p n d)[i]? = some x := h2
        have hil := (List.getElem?_eq_some_iff.1 h2).1
        rw [nextT_length] at hil
        have h3 := List.getElem?_eq_getElem hil
        obtain ⟨a1, a2, a3⟩ := h.2 i x0 _ h1 h3
        have h4 := nextT_at p n d h3
        have h5 : x = p.t[i] + stepF n p.rho (dr d (bitAt p.nodes i)) := Option.some.inj (h2.symm.trans h4)
        have h6 := dr_in d (bitAt p.nodes i)
        have h7 := step_drift (hok.tame hn) h6.1 h6.2
        have h8 := step_in (hok.tame hn) h6.1 h6.2
        generalize stepF n p.rho (dr d (bitAt p.nodes i)) = s at *
        generalize p.t[i] = y at *
        subst h5
        show x0 ≤ y + s ∧ (y + s - x0) * 1000000 ≤ (p.real + n - p0.real) * (1000000 + p.rho) ∧ (p.real + n - p0.real) * 1000000 ≤ (y + s - x0) * (1000000 + p.rho)
        rw [show y + s - x0 = (y - x0) + s by omega, show p.real + n - p0.real = (p.real - p0.real) + n by omega, Int.add_mul (y - x0) s (1000000 + p.rho), Int.add_mul (p.real - p0.real) n (1000000 + p.rho)]
        omega
theorem passC_real {c : C9} {n d : Int} {M : Int} (hc : c.real ≤ M) (hn : n ≤ 1000000) : (passC c n d).real ≤ M + 1000000 := by
  unfold passC
  split
  · omega
  · split
    · omega
    · show c.real + n ≤ _
      omega
/-- Whoever counts the guarded time is done no later. -/
theorem trusted {p0 p : C9} {t a b : Int} (h : Drift p0 p) (h0 : p0.real = 0) {i j : Nat} (hi0 : p0.t[i]? = some 0) (hj0 : p0.t[j]? = some 0) (hi : p.t[i]? = some a) (hj : p.t[j]? = some b) (ht : TameT t p.rho) (hb : t ≤ b) : guardF t p.rho ≤ a := by
  obtain ⟨a1, a2, a3⟩ := h.2 i 0 a hi0 hi
  obtain ⟨b1, b2, b3⟩ := h.2 j 0 b hj0 hj
  rw [h0] at a2 a3 b2 b3
  have s1 := (shr_spec ht).1
  have s2 := (shr_spec (shr_good ht)).1
  have hr := ht.2.2.1
  have hK : 0 < 1000000 + p.rho := by omega
  rw [Int.sub_zero, Int.sub_zero] at a2 a3 b2 b3
  have e1 : shrF t p.rho ≤ p.real := by
    refine Int.le_of_mul_le_mul_right (a := 1000000 + p.rho) ?_ hK
    omega
  show shrF (shrF t p.rho) p.rho ≤ a
  refine Int.le_of_mul_le_mul_right (a := 1000000 + p.rho) ?_ hK
  omega
/-- Clocks of the call's own that only pass. -/
structure Runs (w : World) (g : Nat) (N M : Nat) (rho : Int) (k : Nat) (p : C9) (S : Nat → Prop) (wr : World) : Prop where
  clk : ClkIs wr g p S
  s : ∀ b, S b → w.heap.size ≤ b
  below : Below w.heap.size w wr
  nodes : p.nodes = N
  edges : p.edges = M
  rho : p.rho = rho
  still : p.moved = false
  real : p.real ≤ k * 1000000
theorem Runs.step {w wr w2 : World} {g N M k : Nat} {rho n d : Int} {p : C9} {S S2 : Nat → Prop} (h : Runs w g N M rho k p S wr) (hn : n ≤ 1000000) (h2 : ClkIs w2 g (passC p n d) S2) (hs : ∀ b, S2 b → S b ∨ wr.heap.size ≤ b) (hk : Kept S wr w2) : Runs w g N M rho (k + 1) (passC p n d) S2 w2 := by
  have hz := h.below.size
  obtain ⟨a1, a2, a3, a4⟩ := passC_nodes p n d
  refine ⟨h2, fun b hb => ?_, h.below.trans (hk.below hz h.s), a1.trans h.nodes, a2.trans h.edges, a3.trans h.rho, a4.trans h.still, ?_⟩
  · rcases hs b hb with e | e
    · exact h.s b e
    · omega
  · have := passC_real (c := p) (n := n) (d := d) h.real hn
    omega
theorem Runs.skip {w wr w2 : World} {g N M k : Nat} {rho : Int} {p : C9} {S : Nat → Prop} (h : Runs w g N M rho k p S wr) (hb : Below wr.heap.size wr w2) : Runs w g N M rho (k + 1) p S w2 :=
  ⟨h.clk.below hb, h.s, By.ext h.below hb, h.nodes, h.edges, h.rho, h.still, by have := h.real; omega⟩
theorem Runs.more {w wr w2 : World} {g N M k : Nat} {rho : Int} {p : C9} {S : Nat → Prop} (h : Runs w g N M rho k p S wr) (hb : Below wr.heap.size wr w2) : Runs w g N M rho k p S w2 :=
  ⟨h.clk.below hb, h.s, By.ext h.below hb, h.nodes, h.edges, h.rho, h.still, h.real⟩
theorem Runs.born {w w2 : World} {g N M : Nat} {rho : Int} {S : Nat → Prop} (h : ClkIs w2 g (begun N M rho) S) (hs : ∀ b, S b → w.heap.size ≤ b) (hb : Below w.heap.size w w2) : Runs w g N M rho 0 (begun N M rho) S w2 :=
  ⟨h, hs, hb, rfl, rfl, rfl, rfl, by show (0 : Int) ≤ _; omega⟩
end Go.Proofs.Ythpcmcnkiiebkaa.Ck
