/- Package scupperref03's writer in memory, and what its Num, Data and Flag do to it, as contracts of calls. -/
import Derived.Test.YtloieecpgndbhaaGreatRfP
import Derived.Deep.RegionLaw
import Derived.Laws.Rows
namespace Go.Proofs.YtloieecpgndbhaaGreat.Mo
open Go.RowKit By CoP Co

/-- Appending bytes, as a step of a region that draws. -/
theorem step_app {ops : Array Oper} {o : Oper} {a : Act} {w : World} {K : Act → World → Prop} {Q : Exit → Act → World → Prop} {E : Prop}
    (hgd : o.guard = none) (s x : Operand) (hop : o.op = .call { callee := .builtin .append, args := #[s, x], argTypes := #[23, 23] })
    {base : Nat} {v : Value} {l : List UInt8} (hs : a.eval s = v) (hown : Own base w v l) {B : Nat} {A : Option Addr} {m c : Nat} {l2 : List UInt8} (hx : a.eval x = .slice A m c) (hm : m = l2.length) (hr : Lies w B A l2)
    (hsz : l.length + l2.length ≤ 140737488355328) (hbase : base ≤ w.heap.size)
    (hK : ∀ v' w', Own base w' v' (l ++ l2) → Below base w w' → w.grownBy w' v.ownBlock → K (a.put o.dst v') w') :
    if Region.wanted o (yielded ops a.tmps) = true then Oper.wp Tryz.prog o a w K Q else E := by
  have hw : Region.wanted o (yielded ops a.tmps) = true := by simp [Region.wanted, hgd]
  rw [if_pos hw]
  obtain ⟨v', w', hrun, h2, h3, h4⟩ := run_app hown hm hr hsz hbase o.type
  exact wp_app_run s x _ hop hs hx hrun (hK _ _ h2 h3 h4)

/-- A block of other elements is not the slice's. -/
theorem own_ne {base : Nat} {w : World} {v : Value} {l : List UInt8} (h : Own base w v l) {g : Nat} {cs : Array Value} {t : TypeId} {fr : Nat × Nat} (hg : w.heap[g]? = some (.cells cs t fr)) (hne : t ≠ 5) : some g ≠ v.ownBlock := by
  rcases h.2 with ⟨rfl, _⟩ | ⟨k, cap, cur, rfl, _, hk, _⟩
  · intro e; cases e
  · intro e
    have : g = k := by simpa [Value.ownBlock] using e
    subst this
    rw [hg] at hk
    injection hk with hk
    injection hk with _ ht
    exact hne ht
theorem own_other {base : Nat} {w : World} {v : Value} {l : List UInt8} (h : Own base w v l) {p : Addr} (hp : some p.block ≠ v.ownBlock) (u : Value) : Own base (w.setCell p u) v l := by
  refine ⟨h.1, ?_⟩
  rcases h.2 with hn | ⟨k, cap, cur, rfl, hb, hk, rest⟩
  · exact .inl hn
  · refine .inr ⟨k, cap, cur, rfl, hb, ?_, rest⟩
    rw [heap_setCell_other w p k u (fun e => hp (by simp [Value.ownBlock, e]))]
    exact hk
theorem row_lt {w : World} {g : Nat} {o : Obj} (h : w.heap[g]? = some o) : g < w.heap.size := by
  rcases Nat.lt_or_ge g w.heap.size with h1 | h1
  · exact h1
  · rw [Array.getElem?_eq_none h1] at h; cases h

/-- The writer at block g holds bytes of the call's own. -/
def OutAt (base g : Nat) (w : World) (l : List UInt8) : Prop := ∃ v, base ≤ g ∧ w.heap[g]? = some (.cells #[v] 152 (0, 0)) ∧ Own base w v l
/-- Blocks of other elements than bytes and the writer's are as they were. -/
def Typed (w w' : World) : Prop := ∀ (k : Nat) (cs : Array Value) (t : TypeId) (fr : Nat × Nat), w.heap[k]? = some (.cells cs t fr) → t ≠ 5 → t ≠ 152 → w'.heap[k]? = some (.cells cs t fr)
theorem Typed.trans {a b c : World} (h : Typed a b) (k : Typed b c) : Typed a c := fun i cs t fr h1 h2 h3 => k i cs t fr (h i cs t fr h1 h2 h3) h2 h3
theorem Typed.below {w w' : World} (h : Below w.heap.size w w') : Typed w w' := fun k _ _ _ h1 _ _ => (h.block k (row_lt h1)).trans h1
theorem Typed.grown {base : Nat} {w w' : World} {v : Value} {l : List UInt8} (h : w.grownBy w' v.ownBlock) (ho : Own base w v l) : Typed w w' := fun k _ _ _ h1 h2 _ => (h.block k (row_lt h1) (own_ne ho h1 h2)).trans h1
theorem Typed.store {w : World} {g : Nat} {cs0 : Array Value} {fr0 : Nat × Nat} (hg : w.heap[g]? = some (.cells cs0 152 fr0)) (o : Nat) (u : Value) : Typed w (w.setCell ⟨g, o, none⟩ u) := fun k cs t fr h1 _ h3 => by
  rw [heap_setCell_other w ⟨g, o, none⟩ k u (fun e => by
    have e' : k = g := e
    subst e'
    rw [hg] at h1
    injection h1 with h1
    injection h1 with _ ht
    exact h3 ht.symm)]
  exact h1
def Wrote (base g : Nat) (l : List UInt8) (w : World) (e : Ending) (w' : World) : Prop := e = .returned (.tuple #[]) ∧ OutAt base g w' l ∧ Below base w w' ∧ Typed w w'

theorem OutAt.kept {base g B : Nat} {w w' : World} {l : List UInt8} (h : OutAt base g w l) (hb : Below B w w') (hB : w.heap.size ≤ B) : OutAt base g w' l := by
  obtain ⟨v, h1, h2, h3⟩ := h
  exact ⟨v, h1, by rw [hb.block g (by have := row_lt h2; omega)]; exact h2, h3.kept hb hB⟩

set_option maxHeartbeats 400000 in
theorem outNum_any (base g n : Nat) (N : Int) (hN : N = n) (hn : n < 18446744073709551616) (l : List UInt8) (w : World) (h : OutAt base g w l) (hb : base ≤ w.heap.size) (hs : l.length + 9 ≤ 140737488355328) :
    Calls Tryz.prog 79 #[.pointer (some ⟨g, 0, none⟩), .int .u64 N] w (Wrote base g (l ++ putNum n) w) := by
  obtain ⟨v, hg, hrow, hown⟩ := h
  have hc : w.cell? ⟨g, 0, none⟩ = some v := by rw [cell_of_row w g 0 _ _ _ hrow]; rfl
  have hlen : (putNum n).length ≤ 9 := by rw [putNum_length]; have := nb_le (n := n) (k := 8) (by simpa using hn); omega
  have HS := Lib.hid hs
  have HLEN := Lib.hid hlen
  have HOWN := Lib.hid hown
  have HROW := Lib.hid hrow
  clear hs hlen hown hrow
  go_enter Tryz.func79, Tryz.ntmps79
  go_wp2
  go_region_law (first
    | (go_simp; go_at_call 151; refine (rputNum_any n _ rfl hn _).mono ?_; rintro e w1 ⟨v1, rfl, ho1, hb1⟩
       obtain ⟨A1, c1, rfl, _, _, _, hr1, _⟩ := ho1.form
       have hB1 : Below w.heap.size w w1 := ⟨hb1.os, hb1.tape, hb1.output, hb1.size, hb1.block⟩
       have HOWN1 := Lib.hid (HOWN.out.kept hB1 (Nat.le_refl _))
       have hrow1 := (hB1.block g (row_lt HROW.out)).trans HROW.out
       have hc1 : w1.cell? ⟨g, 0, none⟩ = some v := by rw [cell_of_row w1 g 0 _ _ _ hrow1]; rfl
       have HROW1 := Lib.hid hrow1
       have HR1 := Lib.hid hr1
       have HZ1 := Lib.hid (Nat.le_trans hb hB1.size)
       have HB1 := Lib.hid (hB1.mono hb)
       have HT1 := Lib.hid (Typed.below hB1)
       clear ho1 hb1 hrow1 hB1 hr1)
    | (refine step_app rfl (.tmp 8) (.tmp 10) rfl (v := v) (by simp [Act.eval]) HOWN1.out (A := A1) (m := (putNum n).length) (c := c1) (by simp [Act.eval]) rfl HR1.out (by have := HS.out; have := HLEN.out; omega) HZ1.out ?_
       intro v2 w2 ho2 hb2 hg2
       have hrow2 := (hg2.block g (row_lt HROW1.out) (own_ne HOWN1.out HROW1.out (by decide))).trans HROW1.out
       have hf2 : w2.frozen? ⟨g, 0, none⟩ = false := frozen_of_row w2 g 0 _ _ hrow2
       have hc2 : w2.cell? ⟨g, 0, none⟩ = some v := by rw [cell_of_row w2 g 0 _ _ _ hrow2]; rfl
       obtain ⟨A2, k2, rfl, _, _, _, _, _⟩ := ho2.form
       rw [List.length_append] at ho2
       have HO2 := Lib.hid ho2
       have HROW2 := Lib.hid hrow2
       have HB2 := Lib.hid (HB1.out.trans hb2)
       have HT2 := Lib.hid (HT1.out.trans (Typed.grown hg2 HOWN1.out))
       clear ho2 hrow2 hb2 hg2 hc1))
  all_goals
    go_end0
    have hne := own_ne HO2.out HROW2.out (by decide)
    exact ⟨rfl, ⟨_, hg, heap_setCell_same _ g 0 _ _ _ HROW2.out, own_other HO2.out hne _⟩, HB2.out.setCell hg _, HT2.out.trans (Typed.store HROW2.out 0 _)⟩
set_option maxHeartbeats 400000 in
theorem outData_any (base g : Nat) (A0 : Option Addr) (m0 c0 B : Nat) (d : List UInt8) (hm : m0 = d.length) (l : List UInt8) (w : World) (hr : Lies w B A0 d) (hB : B ≤ w.heap.size) (h : OutAt base g w l) (hb : base ≤ w.heap.size) (hs : l.length + d.length + 9 ≤ 140737488355328) :
    Calls Tryz.prog 80 #[.pointer (some ⟨g, 0, none⟩), .slice A0 m0 c0] w (Wrote base g (l ++ putBytes d) w) := by
  obtain ⟨v, hg, hrow, hown⟩ := h
  have hc : w.cell? ⟨g, 0, none⟩ = some v := by rw [cell_of_row w g 0 _ _ _ hrow]; rfl
  have hlen : (putBytes d).length ≤ d.length + 9 := by
    unfold putBytes
    rw [List.length_append, putNum_length]; have := nb_le (n := d.length) (k := 8) (by omega); omega
  have HS := Lib.hid hs
  have HM := Lib.hid hm
  have HR := Lib.hid hr
  have HLEN := Lib.hid hlen
  have HOWN := Lib.hid hown
  have HROW := Lib.hid hrow
  clear hs hlen hown hrow hm hr
  go_enter Tryz.func80, Tryz.ntmps80
  go_wp2
  go_region_law (first
    | (go_simp; go_at_call 152; refine (rputBytes_any A0 m0 c0 B d HM.out _ HR.out.drew hB (by have := HS.out; omega)).mono ?_; rintro e w1 ⟨v1, rfl, ho1, hb1⟩
       obtain ⟨A1, c1, rfl, _, _, _, hr1, _⟩ := ho1.form
       have hB1 : Below w.heap.size w w1 := ⟨hb1.os, hb1.tape, hb1.output, hb1.size, hb1.block⟩
       have HOWN1 := Lib.hid (HOWN.out.kept hB1 (Nat.le_refl _))
       have hrow1 := (hB1.block g (row_lt HROW.out)).trans HROW.out
       have hc1 : w1.cell? ⟨g, 0, none⟩ = some v := by rw [cell_of_row w1 g 0 _ _ _ hrow1]; rfl
       have HROW1 := Lib.hid hrow1
       have HR1 := Lib.hid hr1
       have HZ1 := Lib.hid (Nat.le_trans hb hB1.size)
       have HB1 := Lib.hid (hB1.mono hb)
       have HT1 := Lib.hid (Typed.below hB1)
       clear ho1 hb1 hrow1 hB1 hr1)
    | (refine step_app rfl (.tmp 8) (.tmp 10) rfl (v := v) (by simp [Act.eval]) HOWN1.out (A := A1) (m := (putBytes d).length) (c := c1) (by simp [Act.eval]) rfl HR1.out (by have := HS.out; have := HLEN.out; omega) HZ1.out ?_
       intro v2 w2 ho2 hb2 hg2
       have hrow2 := (hg2.block g (row_lt HROW1.out) (own_ne HOWN1.out HROW1.out (by decide))).trans HROW1.out
       have hf2 : w2.frozen? ⟨g, 0, none⟩ = false := frozen_of_row w2 g 0 _ _ hrow2
       have hc2 : w2.cell? ⟨g, 0, none⟩ = some v := by rw [cell_of_row w2 g 0 _ _ _ hrow2]; rfl
       obtain ⟨A2, k2, rfl, _, _, _, _, _⟩ := ho2.form
       rw [List.length_append] at ho2
       have HO2 := Lib.hid ho2
       have HROW2 := Lib.hid hrow2
       have HB2 := Lib.hid (HB1.out.trans hb2)
       have HT2 := Lib.hid (HT1.out.trans (Typed.grown hg2 HOWN1.out))
       clear ho2 hrow2 hb2 hg2 hc1))
  all_goals
    go_end0
    have hne := own_ne HO2.out HROW2.out (by decide)
    exact ⟨rfl, ⟨_, hg, heap_setCell_same _ g 0 _ _ _ HROW2.out, own_other HO2.out hne _⟩, HB2.out.setCell hg _, HT2.out.trans (Typed.store HROW2.out 0 _)⟩
/-- A truth as a number. -/
def flagN (b : Bool) : Nat := if b then 1 else 0
set_option maxHeartbeats 400000 in
theorem outFlag_any (base g : Nat) (b : Bool) (l : List UInt8) (w : World) (h : OutAt base g w l) (hb : base ≤ w.heap.size) (hs : l.length + 9 ≤ 140737488355328) :
    Calls Tryz.prog 83 #[.pointer (some ⟨g, 0, none⟩), .bool b] w (Wrote base g (l ++ putNum (flagN b)) w) := by
  have HS := Lib.hid hs
  have HO := Lib.hid h
  clear hs h
  cases b
  · go_enter Tryz.func83, Tryz.ntmps83
    go_wp2_with fail
    refine (outNum_any base g 0 _ rfl (by decide) l w HO.out hb HS.out).mono ?_
    rintro e w1 ⟨rfl, h1⟩
    go_wp2
    go_end0
    exact ⟨rfl, h1⟩
  · go_enter Tryz.func83, Tryz.ntmps83
    go_wp2_with fail
    refine (outNum_any base g 1 _ rfl (by decide) l w HO.out hb HS.out).mono ?_
    rintro e w1 ⟨rfl, h1⟩
    go_wp2
    go_end0
    exact ⟨rfl, h1⟩
end Go.Proofs.YtloieecpgndbhaaGreat.Mo
