/- The reference's clocks: At and Tick, as contracts of calls. -/
import Derived.Test.YthpcmcnkiiebkaaCkF
namespace Go.Proofs.Ythpcmcnkiiebkaa.Ck
open Go.RowKit Go.Maps By Mp SumP SumW

theorem at_any {w : World} {g : Nat} {c : C9} {S : Nat → Prop} (h : RefIs w g c S) (e : Int) (e0 : -9223372036854775808 ≤ e) (e1 : e ≤ 9223372036854775807) :
    Calls Try.prog 23 #[.pointer (some ⟨g, 0, none⟩), .int .i64 e] w (Ret (.int .i64 (atF c.nodes c.edges e)) w) := by
  obtain ⟨q, h⟩ := h
  obtain ⟨c0, c1, -, -, -, -⟩ := h.cells
  have hn := h.ok.n2
  have hm := h.ok.m
  clear h
  obtain ⟨N, hN⟩ : ∃ N, N = c.nodes := ⟨_, rfl⟩
  obtain ⟨M, hM⟩ : ∃ M, M = c.edges := ⟨_, rfl⟩
  rw [← hN] at c0 hn ⊢
  rw [← hM] at c1 hm ⊢
  clear hN hM
  by_cases h1 : 1 ≤ e
  · by_cases h2 : e ≤ (N : Int)
    · have HV := Lib.hid (show atF N M e = e - 1 by unfold atF; rw [if_pos ⟨h1, h2⟩])
      go_enter Try.func23, Try.ntmps23
      go_wp2
      go_ret
      exact ⟨by rw [HV.out]; rfl, rfl⟩
    · have HV := Lib.hid (show atF N M e = -1 by unfold atF; rw [if_neg (by omega), if_neg (by omega)])
      have h3 : ¬ e ≤ -1 := by omega
      go_enter Try.func23, Try.ntmps23
      go_wp2
      go_ret
      exact ⟨by rw [HV.out]; rfl, rfl⟩
  · by_cases h2 : e ≤ -1
    · by_cases h3 : -(M : Int) ≤ e
      · have HV := Lib.hid (show atF N M e = (N : Int) - e - 1 by unfold atF; rw [if_neg (by omega), if_pos ⟨h2, h3⟩])
        go_enter Try.func23, Try.ntmps23
        go_wp2
        go_ret
        exact ⟨by rw [HV.out]; rfl, rfl⟩
      · have HV := Lib.hid (show atF N M e = -1 by unfold atF; rw [if_neg (by omega), if_neg (by omega)])
        go_enter Try.func23, Try.ntmps23
        go_wp2
        go_ret
        exact ⟨by rw [HV.out]; rfl, rfl⟩
    · have HV := Lib.hid (show atF N M e = -1 by unfold atF; rw [if_neg (by omega), if_neg (by omega)])
      go_enter Try.func23, Try.ntmps23
      go_wp2
      go_ret
      exact ⟨by rw [HV.out]; rfl, rfl⟩
theorem RStep.same {val : Value} {g : Nat} {c : C9} {S : Nat → Prop} {w : World} (h : RefIs w g c S) : RStep val g c S w (.returned val) w := ⟨rfl, S, h, fun _ hb => .inl hb, Kept.refl _ _⟩
theorem rtick_bad {w : World} {g : Nat} {c : C9} {S : Nat → Prop} (h : RefIs w g c S) (e n : Int) (e0 : -9223372036854775808 ≤ e) (e1 : e ≤ 9223372036854775807) (hn : atF c.nodes c.edges e < 0 ∨ ¬ okN n) :
    Calls Try.prog 22 #[.pointer (some ⟨g, 0, none⟩), .int .i64 e, .int .i64 n] w (RStep (.int .i64 1) g c S w) := by
  have HC := Lib.hid h
  have HA := Lib.hid (at_any h e e0 e1)
  have hk : n < 0 ∨ (0 ≤ n ∧ 1099511627776 < n) ∨ (0 ≤ n ∧ n ≤ 1099511627776 ∧ atF c.nodes c.edges e < 0) := by
    unfold okN at hn
    omega
  clear hn h
  generalize atF c.nodes c.edges e = i at *
  rcases hk with h1 | ⟨h0, h1⟩ | ⟨h0, h1, h2⟩ <;>
    (go_enter Try.func22, Try.ntmps22
     go_wp2_with (go_at_call 23; refine HA.out.mono ?_; rintro e w1 ⟨rfl, rfl⟩)
     go_ret
     exact RStep.same HC.out)
theorem rtick_over {w : World} {g : Nat} {c : C9} {S : Nat → Prop} (h : RefIs w g c S) (e n : Int) (e0 : -9223372036854775808 ≤ e) (e1 : e ≤ 9223372036854775807) (he : 0 ≤ atF c.nodes c.edges e) (hn : okN n) (ho : top < c.time e + n) :
    Calls Try.prog 22 #[.pointer (some ⟨g, 0, none⟩), .int .i64 e, .int .i64 n] w (RStep (.int .i64 3) g c S w) := by
  have HC := Lib.hid h
  have HA := Lib.hid (at_any h e e0 e1)
  obtain ⟨q, h⟩ := h
  obtain ⟨-, -, -, c3, -, -⟩ := h.cells
  obtain ⟨hx, hx0, hx1⟩ := h.ok.time he
  have hx1 : c.time e ≤ 1152921504606846976 := hx1
  have hc := h.cellAt hx
  have h1 := atF_in he
  obtain ⟨i, hi⟩ : ∃ i : Nat, (i : Int) = atF c.nodes c.edges e := ⟨_, Int.toNat_of_nonneg he⟩
  have hlt : i < c.nodes + c.edges := by omega
  rw [← hi] at HA hc
  rw [Int.toNat_natCast] at hc
  obtain ⟨n0, n1⟩ := hn
  have n2 : ¬ n < 0 := by omega
  have n3 : ¬ 1099511627776 < n := by omega
  have ho : 1152921504606846976 < c.time e + n := ho
  have hlt2 : (i : Int) < (c.nodes + c.edges : Nat) := by omega
  clear h hx h1 hi he
  generalize c.time e = x at *
  obtain ⟨L, hL⟩ : ∃ L, L = c.nodes + c.edges := ⟨_, rfl⟩
  rw [← hL] at hlt hlt2 c3
  clear hL
  go_enter Try.func22, Try.ntmps22
  go_wp2_with (go_at_call 23; refine HA.out.mono ?_; rintro e w1 ⟨rfl, rfl⟩)
  go_ret
  exact RStep.same HC.out
theorem rticked {w : World} {g q : Nat} {c : C9} {S : Nat → Prop} {e n : Int} (h : RAt w g c q S) (he : 0 ≤ atF c.nodes c.edges e) (hn : okN n) (ho : ¬ top < c.time e + n) (m : Bool) (hmv : m = (c.moved || decide (0 < n))) {w1 : World} (hw : w1.heap = w.heap) (h1 : w1.os = w.os) (h2 : w1.tape = w.tape) (h3 : w1.output = w.output) :
    RStep (.int .i64 0) g (tickC c e n) S w (.returned (.int .i64 0)) ((w1.setCell ⟨q, (atF c.nodes c.edges e).toNat, none⟩ (.int .i64 (c.time e + n))).setCell ⟨g, 5, none⟩ (.bool m)) := by
  have a1 : tickC c e n = { c with t := c.t.set (atF c.nodes c.edges e).toNat (c.time e + n), moved := c.moved || decide (0 < n) } := by
    unfold tickC
    rw [if_neg (fun h => h.elim (fun h => by omega) (fun h => h hn)), if_neg ho]
  have hk := h.ok.tick e n
  rw [a1] at hk ⊢
  have hr := h.row
  have ht := h.times
  rw [← hw] at hr ht
  refine ⟨rfl, S, ⟨q, ⟨?_, ?_, h.sg, h.sq, fun x hx => ?_, hk⟩⟩, fun _ hb => .inl hb, ?_⟩
  · have := heap_setCell_same _ g 5 _ _ (.bool m) ((heap_setCell_other w1 ⟨q, (atF c.nodes c.edges e).toNat, none⟩ g (.int .i64 (c.time e + n)) (Ne.symm h.gq)).trans hr)
    rw [this, hmv]; rfl
  · rw [heap_setCell_other _ ⟨g, 5, none⟩ q _ h.gq, heap_setCell_same _ q _ _ _ _ ht]
    simp [iv, List.map_set]
  · simp only [World.setCell, Array.size_modify]
    rw [hw]; exact h.lt x hx
  · have h0 : Kept S w w1 := ⟨h1, h2, h3, by rw [hw]; exact Nat.le_refl _, fun b _ _ => by rw [hw]⟩
    exact (h0.setCell (fun _ => h.sq) _).setCell (fun _ => h.sg) _
set_option maxHeartbeats 1600000 in
theorem rtick_good {w : World} {g : Nat} {c : C9} {S : Nat → Prop} (h : RefIs w g c S) (e n : Int) (e0 : -9223372036854775808 ≤ e) (e1 : e ≤ 9223372036854775807) (he : 0 ≤ atF c.nodes c.edges e) (hn : okN n) (ho : ¬ top < c.time e + n) :
    Calls Try.prog 22 #[.pointer (some ⟨g, 0, none⟩), .int .i64 e, .int .i64 n] w (RStep (.int .i64 0) g (tickC c e n) S w) := by
  have HA := Lib.hid (at_any h e e0 e1)
  obtain ⟨q, h⟩ := h
  have HC := Lib.hid h
  have HP := Lib.hid (And.intro he (And.intro hn ho))
  obtain ⟨-, -, -, c3, -, c5⟩ := h.cells
  obtain ⟨hx, hx0, hx1⟩ := h.ok.time he
  have hx1 : c.time e ≤ 1152921504606846976 := hx1
  have hc := h.cellAt hx
  have h1 := atF_in he
  obtain ⟨i, hi⟩ : ∃ i : Nat, (i : Int) = atF c.nodes c.edges e := ⟨_, Int.toNat_of_nonneg he⟩
  have hlt : i < c.nodes + c.edges := by omega
  rw [← hi] at HA hc
  rw [Int.toNat_natCast] at hc
  have hii : i = (atF c.nodes c.edges e).toNat := by omega
  have HF := Lib.hid (show ∀ (m : Bool), m = (c.moved || decide (0 < n)) → ∀ (w1 : World), w1.heap = w.heap → w1.os = w.os → w1.tape = w.tape → w1.output = w.output → RStep (.int .i64 0) g (tickC c e n) S w (.returned (.int .i64 0)) ((w1.setCell ⟨q, i, none⟩ (.int .i64 (c.time e + n))).setCell ⟨g, 5, none⟩ (.bool m)) from fun m hm w1 a1 a2 a3 a4 => by
    rw [hii]
    exact rticked h he hn ho m hm a1 a2 a3 a4)
  have hft : ∀ j, w.frozen? ⟨q, j, none⟩ = false := fun j => frozen_of_row w q j _ _ h.times
  have hfg : ∀ x, (w.setCell ⟨q, i, none⟩ (.int .i64 x)).frozen? ⟨g, 5, none⟩ = false := fun x => frozen_of_row _ g 5 _ _ ((heap_setCell_other w ⟨q, i, none⟩ g _ (Ne.symm h.gq)).trans h.row)
  have hcg : ∀ x, (w.setCell ⟨q, i, none⟩ (.int .i64 x)).cell? ⟨g, 5, none⟩ = some (.bool c.moved) := fun x => by
    rw [cell_of_row _ g 5 _ _ _ ((heap_setCell_other w ⟨q, i, none⟩ g _ (Ne.symm h.gq)).trans h.row)]; rfl
  obtain ⟨n0, n1⟩ := hn
  have n2 : ¬ n < 0 := by omega
  have n3 : ¬ 1099511627776 < n := by omega
  have ho : ¬ 1152921504606846976 < c.time e + n := ho
  have hlt2 : (i : Int) < (c.nodes + c.edges : Nat) := by omega
  clear h hx h1 hi he hii
  obtain ⟨x, hx⟩ : ∃ x, x = c.time e := ⟨_, rfl⟩
  rw [← hx] at hc HF ho hx0 hx1
  obtain ⟨mv, hmv⟩ : ∃ mv, mv = c.moved := ⟨_, rfl⟩
  rw [← hmv] at hcg c5 HF
  clear hx hmv
  obtain ⟨L, hL⟩ : ∃ L, L = c.nodes + c.edges := ⟨_, rfl⟩
  rw [← hL] at hlt hlt2 c3
  clear hL
  go_enter Try.func22, Try.ntmps22
  go_wp2_with (go_at_call 23; refine HA.out.mono ?_; rintro e w1 ⟨rfl, rfl⟩)
  go_region
  all_goals go_wp2
  all_goals
    go_ret
    refine HF.out _ ?_ w.drew rfl rfl rfl rfl
    simp [*]
/-- Tick. -/
theorem rtick_any {w : World} {g : Nat} {c : C9} {S : Nat → Prop} (h : RefIs w g c S) (e n : Int) (e0 : -9223372036854775808 ≤ e) (e1 : e ≤ 9223372036854775807) :
    Calls Try.prog 22 #[.pointer (some ⟨g, 0, none⟩), .int .i64 e, .int .i64 n] w (RStep (.int .i64 (tickE c e n)) g (tickC c e n) S w) := by
  by_cases hn : atF c.nodes c.edges e < 0 ∨ ¬ okN n
  · have a1 : tickC c e n = c := by
      unfold tickC
      rw [if_pos hn]
    have a2 : tickE c e n = 1 := by
      unfold tickE
      rw [if_pos hn]
    rw [a1, a2]
    exact rtick_bad h e n e0 e1 hn
  · have hat : 0 ≤ atF c.nodes c.edges e := by
      have : ¬ atF c.nodes c.edges e < 0 := fun e => hn (.inl e)
      omega
    have hk : okN n := Decidable.not_not.1 fun e => hn (.inr e)
    by_cases ho : top < c.time e + n
    · have a1 : tickC c e n = c := by
        unfold tickC
        rw [if_neg hn, if_pos ho]
      have a2 : tickE c e n = 3 := by
        unfold tickE
        rw [if_neg hn, if_pos ho]
      rw [a1, a2]
      exact rtick_over h e n e0 e1 hat hk ho
    · have a2 : tickE c e n = 0 := by
        unfold tickE
        rw [if_neg hn, if_neg ho]
      rw [a2]
      exact rtick_good h e n e0 e1 hat hk ho
end Go.Proofs.Ythpcmcnkiiebkaa.Ck
