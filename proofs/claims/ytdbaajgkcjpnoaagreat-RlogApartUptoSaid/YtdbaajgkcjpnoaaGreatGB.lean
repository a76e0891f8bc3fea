/- Package scupperref03's writer in memory, and what its Num, Data and Flag do to it, as contracts of calls. | Package scupperref03's reader in memory, and what its Num, Int, Data and Whole do, as contracts of calls. The reader's state as a plain value: what is left to read; none: bad. | Package scupperref03's writer: lists of numbers, configurations, entries, as contracts of calls. | Package scupperref03's writer: a text, made bytes and written. -/
import Derived.Test.YtdbaajgkcjpnoaaGreatGA
import Derived.Deep.RegionLaw
import Derived.Laws.Rows
import Derived.Lib.ConvBytes
/-! Package scupperref03's writer in memory, and what its Num, Data and Flag do to it, as contracts of calls. -/
namespace Go.Proofs.YtdbaajgkcjpnoaaGreat.Mo
open Go.RowKit By CoP Co

/-- Appending bytes, as a step of a region that draws. -/
theorem step_app {ops : Array Oper} {o : Oper} {a : Act} {w : World} {K : Act → World → Prop} {Q : Exit → Act → World → Prop} {E : Prop}
    (hgd : o.guard = none) (s x : Operand) (hop : o.op = .call { callee := .builtin .append, args := #[s, x], argTypes := #[37, 37] })
    {base : Nat} {v : Value} {l : List UInt8} (hs : a.eval s = v) (hown : Own base w v l) {B : Nat} {A : Option Addr} {m c : Nat} {l2 : List UInt8} (hx : a.eval x = .slice A m c) (hm : m = l2.length) (hr : Lies w B A l2)
    (hsz : l.length + l2.length ≤ 140737488355328) (hbase : base ≤ w.heap.size)
    (hK : ∀ v' w', Own base w' v' (l ++ l2) → Below base w w' → w.grownBy w' v.ownBlock → K (a.put o.dst v') w') :
    if Region.wanted o (yielded ops a.tmps) = true then Oper.wp Tryz.prog o a w K Q else E := by
  have hw : Region.wanted o (yielded ops a.tmps) = true := by simp [Region.wanted, hgd]
  rw [if_pos hw]
  obtain ⟨v', w', hrun, h2, h3, h4⟩ := run_app hown hm hr hsz hbase o.type
  exact wp_app_run s x _ hop hs hx hrun (hK _ _ h2 h3 h4)

/-- A block of other elements is not the slice's. -/
theorem own_ne {base : Nat} {w : World} {v : Value} {l : List UInt8} (h : Own base w v l) {g : Nat} {cs : Array Value} {t : TypeId} {fr : Nat × Nat} (hg : w.heap[g]? = some (.cells cs t fr)) (hne : t ≠ 5) : some g ≠ v.ownBlock := by
  rcases h.2 with ⟨rfl, _⟩ | ⟨k, cap, cur, rfl, _, hk, _⟩
  · intro e; cases e
  · intro e
    have : g = k := by simpa [Value.ownBlock] using e
    subst this
    rw [hg] at hk
    injection hk with hk
    injection hk with _ ht
    exact hne ht
theorem own_other {base : Nat} {w : World} {v : Value} {l : List UInt8} (h : Own base w v l) {p : Addr} (hp : some p.block ≠ v.ownBlock) (u : Value) : Own base (w.setCell p u) v l := by
  refine ⟨h.1, ?_⟩
  rcases h.2 with hn | ⟨k, cap, cur, rfl, hb, hk, rest⟩
  · exact .inl hn
  · refine .inr ⟨k, cap, cur, rfl, hb, ?_, rest⟩
    rw [heap_setCell_other w p k u (fun e => hp (by simp [Value.ownBlock, e]))]
    exact hk
theorem row_lt {w : World} {g : Nat} {o : Obj} (h : w.heap[g]? = some o) : g < w.heap.size := by
  rcases Nat.lt_or_ge g w.heap.size with h1 | h1
  · exact h1
  · rw [Array.getElem?_eq_none h1] at h; cases h

/-- A truth as a number. -/
def flagN (b : Bool) : Nat := if b then 1 else 0
end Go.Proofs.YtdbaajgkcjpnoaaGreat.Mo

/-! Package scupperref03's reader in memory, and what its Num, Int, Data and Whole do, as contracts of calls. The reader's state as a plain value: what is left to read; none: bad. -/
namespace Go.Proofs.YtdbaajgkcjpnoaaGreat.Mo
open Go.RowKit By CoP Co

abbrev St := Option (List UInt8)
/-- A number is read. -/
def pNum : St → Nat × St
  | none => (0, none)
  | some r => if (numR r).2.2 ≠ 0 then (0, none) else ((numR r).1, some (r.drop (numR r).2.1))
/-- A number up to a limit. -/
def pInt (most : Nat) (s : St) : Nat × St := if most < (pNum s).1 then (0, none) else pNum s
/-- A list of bytes. -/
def pData : St → List UInt8 × St
  | none => ([], none)
  | some r => if (bytesR r).2.2 ≠ 0 then ([], none) else ((bytesR r).1, some (r.drop (bytesR r).2.1))

/-- The state's two cells. -/
def StIs (b : List UInt8) (s : St) (at_ : Nat) (bad : Bool) : Prop := at_ ≤ b.length ∧ ((bad = true ∧ s = none) ∨ (bad = false ∧ s = some (b.drop at_)))
/-- The reader at block g, above block B, reads bytes b that lie below B. -/
def InAt (B g : Nat) (w : World) (b : List UInt8) (s : St) : Prop := ∃ A c at_ bad, B ≤ g ∧ b.length ≤ c ∧ b.length ≤ 140737488355328 ∧ w.heap[g]? = some (.cells #[.slice A b.length c, .int .i64 (at_ : Nat), .bool bad] 98 (0, 0)) ∧ Lies w B A b ∧ StIs b s at_ bad
/-- Gives a value; the reader goes on; all else as it was. -/
def Reads (v : Value) (B g : Nat) (b : List UInt8) (s : St) (w : World) (e : Ending) (w' : World) : Prop := e = .returned v ∧ InAt B g w' b s ∧ w.grownBy w' (some g)

theorem grown_of_below {w w' : World} (h : Below w.heap.size w w') (r : Option Nat) : w.grownBy w' r := ⟨h.os, h.tape, h.output, h.size, fun k hk _ => h.block k hk⟩
theorem grown_set {w : World} (g o : Nat) (u : Value) : w.grownBy (w.setCell ⟨g, o, none⟩ u) (some g) := ⟨rfl, rfl, rfl, by simp [World.setCell], fun k _ h => heap_setCell_other w _ k u (fun e => h (by subst e; rfl))⟩
theorem lies_grown {w w' : World} {B g : Nat} {A : Option Addr} {l : List UInt8} (h : Lies w B A l) (hs : B ≤ w.heap.size) (hg : w.grownBy w' (some g)) (hB : B ≤ g) : Lies w' B A l := h.keep fun p hp => World.cell?_of_block (w := w) (hg.block p.block (by omega) (fun e => by injection e; omega))

set_option maxHeartbeats 400000 in
theorem inNum_any (B g : Nat) (b : List UInt8) (s : St) (w : World) (h : InAt B g w b s) :
    Calls Tryz.prog 111 #[.pointer (some ⟨g, 0, none⟩)] w (Reads (.int .u64 ((pNum s).1 : Nat)) B g b (pNum s).2 w) := by
  obtain ⟨A, c, at_, bad, hBg, hbc, hbm, hrow, hr, hat, hst⟩ := h
  have hc0 : w.cell? ⟨g, 0, none⟩ = some (.slice A b.length c) := by rw [cell_of_row w g 0 _ _ _ hrow]; rfl
  have hc1 : w.cell? ⟨g, 1, none⟩ = some (.int .i64 (at_ : Nat)) := by rw [cell_of_row w g 1 _ _ _ hrow]; rfl
  have hc2 : w.cell? ⟨g, 2, none⟩ = some (.bool bad) := by rw [cell_of_row w g 2 _ _ _ hrow]; rfl
  have hgs := row_lt hrow
  rcases hst with ⟨rfl, rfl⟩ | ⟨rfl, rfl⟩
  · have HROW := Lib.hid hrow
    clear hrow
    go_enter Tryz.func111, Tryz.ntmps111
    go_wp2
    go_ret
    exact ⟨rfl, ⟨A, c, at_, true, hBg, hbc, hbm, HROW.out, hr, hat, .inl ⟨rfl, rfl⟩⟩, grown_refl _ _⟩
  · have hnum := rnum_in A b.length c at_ B b rfl hat hbm w.drew hr.drew
    have hp : pNum (some (b.drop at_)) = pNum (some (b.drop at_)) := rfl
    conv at hp => rhs; unfold pNum
    have hfac := numR_facts (b.drop at_)
    rw [List.length_drop] at hfac
    simp only at hp
    rw [List.drop_drop] at hp
    generalize numR (b.drop at_) = N at hnum hp hfac
    obtain ⟨v, used, er⟩ := N
    have hnum2 : Calls Tryz.prog 120 #[.slice A b.length c, .int .i64 (at_ : Nat)] w.drew (GivesN v (nextI at_ used er) (er : Int) w.drew) := hnum
    simp only at hp hfac
    have HROW := Lib.hid hrow
    have HR := Lib.hid hr
    have HATB := Lib.hid hat
    clear hrow hnum hr
    by_cases he : er = 0
    · subst he
      obtain ⟨hu, hv⟩ := hfac rfl
      have hp2 : pNum (some (b.drop at_)) = (v, some (b.drop (at_ + used))) := by rw [hp, if_neg (by simp)]
      rw [nextI_ok, ← Int.natCast_add] at hnum2
      have hat2 : at_ + used ≤ b.length := by have := HATB.out; omega
      obtain ⟨nx, hnx⟩ : ∃ nx, at_ + used = nx := ⟨_, rfl⟩
      rw [hnx] at hnum2 hp2 hat2
      have HP := Lib.hid hp2
      have HNUM := Lib.hid hnum2
      have HAT2 := Lib.hid hat2
      clear hnum2 hfac hp hp2 hat2 hnx hu
      go_enter Tryz.func111, Tryz.ntmps111
      go_wp2
      go_region_law (go_simp; go_at_call 120; refine HNUM.out.mono ?_; rintro e w1 ⟨rfl, hb1⟩
                     have hB1 : Below w.heap.size w w1 := ⟨hb1.os, hb1.tape, hb1.output, hb1.size, hb1.block⟩
                     have hrow1 := (hB1.block g hgs).trans HROW.out
                     have hf1 : w1.frozen? ⟨g, 1, none⟩ = false := frozen_of_row w1 g 1 _ _ hrow1
                     have hk1 : w1.cell? ⟨g, 1, none⟩ = some (.int .i64 (at_ : Nat)) := by rw [cell_of_row w1 g 1 _ _ _ hrow1]; rfl
                     have HROW1 := Lib.hid hrow1
                     have HB1 := Lib.hid hB1
                     clear hb1 hrow1 hB1)
      all_goals
        go_wp2
        go_ret
        rw [HP.out]
        refine ⟨rfl, ⟨A, c, nx, false, hBg, hbc, hbm, ?_, ?_, HAT2.out, .inr ⟨rfl, rfl⟩⟩, ?_⟩
        · have h := heap_setCell_same _ g 1 _ _ (.int .i64 (nx : Nat)) HROW1.out
          simpa using h
        · exact lies_grown (lies_grown HR.out (by omega) (grown_of_below HB1.out _) hBg) (by have := HB1.out.size; omega) (grown_set g 1 _) hBg
        · exact grown_trans (grown_of_below HB1.out _) (grown_set g 1 _)
    · have heb : ((er : Int) != 0) = true := by rw [bne_iff_ne]; omega
      have hp2 : pNum (some (b.drop at_)) = (0, none) := by rw [hp, if_pos he]
      have HP := Lib.hid hp2
      have HNUM := Lib.hid hnum2
      clear hnum2 hfac hp hp2
      go_enter Tryz.func111, Tryz.ntmps111
      go_wp2
      go_region_law (go_simp; go_at_call 120; refine HNUM.out.mono ?_; rintro e w1 ⟨rfl, hb1⟩
                     have hB1 : Below w.heap.size w w1 := ⟨hb1.os, hb1.tape, hb1.output, hb1.size, hb1.block⟩
                     have hrow1 := (hB1.block g hgs).trans HROW.out
                     have hf1 : w1.frozen? ⟨g, 2, none⟩ = false := frozen_of_row w1 g 2 _ _ hrow1
                     have hk1 : w1.cell? ⟨g, 2, none⟩ = some (.bool false) := by rw [cell_of_row w1 g 2 _ _ _ hrow1]; rfl
                     have HROW1 := Lib.hid hrow1
                     have HB1 := Lib.hid hB1
                     clear hb1 hrow1 hB1)
      all_goals
        go_wp2
        go_ret
        rw [HP.out]
        refine ⟨rfl, ⟨A, c, at_, true, hBg, hbc, hbm, ?_, ?_, HATB.out, .inl ⟨rfl, rfl⟩⟩, ?_⟩
        · have h := heap_setCell_same _ g 2 _ _ (.bool true) HROW1.out
          simpa using h
        · exact lies_grown (lies_grown HR.out (by omega) (grown_of_below HB1.out _) hBg) (by have := HB1.out.size; omega) (grown_set g 2 _) hBg
        · exact grown_trans (grown_of_below HB1.out _) (grown_set g 2 _)
end Go.Proofs.YtdbaajgkcjpnoaaGreat.Mo

/-! Package scupperref03's writer: lists of numbers, configurations, entries, as contracts of calls. -/
namespace Go.Proofs.YtdbaajgkcjpnoaaGreat.Mo
open Go.RowKit By CoP Co

/-- An int as the number that stands for it. -/
def u64N (x : Int) : Nat := (x % 18446744073709551616).toNat
theorem u64N_eq (x : Int) : ((u64N x : Nat) : Int) = x % 18446744073709551616 := by unfold u64N; omega
theorem u64N_lt (x : Int) : u64N x < 18446744073709551616 := by unfold u64N; omega
/-- A list of numbers. -/
def putIds (l : List Int) : List UInt8 := putNum l.length ++ l.flatMap fun x => putNum (u64N x)
theorem putNum_len (n : Nat) (h : n < 18446744073709551616) : (putNum n).length ≤ 9 := by rw [putNum_length]; have := nb_le (n := n) (k := 8) (by simpa using h); omega
theorem putIds_take (l : List Int) (k : Nat) : ((l.take k).flatMap fun x => putNum (u64N x)).length ≤ 9 * k := by
  induction k generalizing l with
  | zero => simp
  | succ k ih =>
    cases l with
    | nil => simp
    | cons x t =>
      simp only [List.take_succ_cons, List.flatMap_cons, List.length_append]
      have h1 := ih t
      have h2 := putNum_len (u64N x) (u64N_lt x)
      omega

/-- The cells of a slice that begins at A hold the ints l, and lie below block B. -/
def LiesI (w : World) (B : Nat) (A : Option Addr) (l : List Int) : Prop :=
  0 < l.length → ∃ g o, A = some ⟨g, o, none⟩ ∧ g < B ∧ ∀ j x, l[j]? = some x → w.cell? ⟨g, o + j, none⟩ = some (.int .i64 x) ∧ -9223372036854775808 ≤ x ∧ x ≤ 9223372036854775807
section
variable {w w' : World} {B B' : Nat} {A : Option Addr} {l : List Int}
theorem LiesI.empty (w : World) (B : Nat) (A : Option Addr) : LiesI w B A [] := fun h => absurd h (by simp)
theorem LiesI.keep (h : LiesI w B A l) (hk : ∀ p : Addr, p.block < B → w'.cell? p = w.cell? p) : LiesI w' B A l := fun hn => by
  obtain ⟨g, o, e, hg, hc⟩ := h hn
  exact ⟨g, o, e, hg, fun j x hx => ⟨(hk _ hg).trans (hc j x hx).1, (hc j x hx).2⟩⟩
theorem LiesI.more (h : LiesI w B A l) (hB : B ≤ B') : LiesI w B' A l := fun hn => by
  obtain ⟨g, o, e, hg, hc⟩ := h hn
  exact ⟨g, o, e, by omega, hc⟩
theorem LiesI.below (h : LiesI w B A l) (hb : Below B w w') : LiesI w' B A l := h.keep fun _ hp => hb.cell hp
theorem LiesI.alloc (h : LiesI w B A l) (hB : B ≤ w.heap.size) (o : Obj) : LiesI (w.alloc o) B A l := h.keep fun p hp => World.cell?_alloc_lt w o p (by omega)
theorem LiesI.at_ (h : LiesI w B A l) {k : Nat} (hk : k < l.length) : ∃ g o, A = some ⟨g, o, none⟩ ∧ g < B ∧ w.cell? ⟨g, o + k, none⟩ = some (.int .i64 l[k]) ∧ -9223372036854775808 ≤ l[k] ∧ l[k] ≤ 9223372036854775807 := by
  obtain ⟨g, o, e, hg, hc⟩ := h (by omega)
  exact ⟨g, o, e, hg, hc k _ (List.getElem?_eq_getElem hk)⟩
end

end Go.Proofs.YtdbaajgkcjpnoaaGreat.Mo

/-! Package scupperref03's writer: a text, made bytes and written. -/
namespace Go.Proofs.YtdbaajgkcjpnoaaGreat.Mo
open Go.RowKit By CoP Co

theorem putIds_len (l : List Int) (h : l.length ≤ 140737488355328) : (putIds l).length ≤ 9 * l.length + 9 := by
  unfold putIds
  rw [List.length_append]
  have := putNum_len l.length (by omega)
  have h2 := putIds_take l l.length
  rw [List.take_length] at h2
  omega
theorem conv_any (w : World) (l : List UInt8) : (convert 9 37 (.string (str l))).run Tryz.prog w = .ok (.slice (some ⟨w.heap.size, 0, none⟩) (str l).size (grownCap w (str l).size 0 5)) (Lib.bytesWorld w 5 (str l)) :=
  Lib.run_convert_string_bytes (P := Tryz.prog) w 9 37 5 (str l) Tryz.underlying9 Tryz.underlying37 Tryz.underlying5
theorem below_text (w : World) (l : List UInt8) : Below w.heap.size w (Lib.bytesWorld w 5 (str l)) :=
  ⟨rfl, rfl, rfl, by rw [Lib.bytesWorld_size]; omega, fun k hk => Lib.bytesWorld_at_old w _ _ k hk⟩
theorem lies_text (w : World) (l : List UInt8) : Lies (Lib.bytesWorld w 5 (str l)) (w.heap.size + 1) (some ⟨w.heap.size, 0, none⟩) l := fun _ =>
  ⟨w.heap.size, 0, rfl, Nat.lt_succ_self _, fun j x hx => by
    have hj := (List.getElem?_eq_some_iff.1 hx)
    obtain ⟨hj1, hj2⟩ := hj
    rw [Nat.zero_add, Lib.bytesWorld_cell w _ _ j (by rw [str_size]; exact hj1)]
    have e : (str l).data.toList = l := by simp [str]
    rw [e, bv]
    simp [List.getD, hx]⟩
end Go.Proofs.YtdbaajgkcjpnoaaGreat.Mo
