/- Package snap as plain values: what a joiner has, what a piece comes to; its small functions as contracts of calls. -/
import Derived.Test.YtjafgkehkigclaaBy
import Derived.Deep.CutBlock
import Derived.Laws.Rows
import Derived.Laws.Tables
import Derived.Laws.StructEq
import Derived.Lib.ConvBytes
namespace Go.Proofs.Ytjafgkehkigclaa.Sn
open Go.RowKit By

abbrev Bs := List UInt8
theorem row_lt {w : World} {g : Nat} {o : Obj} (h : w.heap[g]? = some o) : g < w.heap.size := (Array.getElem?_eq_some_iff.1 h).1
theorem ownsRow_keep {w w' : World} {base : Nat} {e : TypeId} {size n : Nat} {v : Value} {xs : List Value} (h : w.ownsRow base e size v n xs) (hb : ∀ b, v.ownBlock = some b → w'.heap[b]? = w.heap[b]?) : w'.ownsRow base e size v n xs := by
  refine ⟨h.1, ?_⟩
  rcases h.2 with hn | ⟨g, cap, cur, rfl, h1, h2, h3⟩
  · exact .inl hn
  · exact .inr ⟨g, cap, cur, rfl, h1, (hb g rfl).trans h2, h3⟩
theorem ownsRow_base {w : World} {base base' : Nat} {e : TypeId} {size n : Nat} {v : Value} {xs : List Value} (h : w.ownsRow base e size v n xs) (hb : base' ≤ base) : w.ownsRow base' e size v n xs := by
  refine ⟨h.1, ?_⟩
  rcases h.2 with hn | ⟨g, cap, cur, rfl, h1, h2, h3⟩
  · exact .inl hn
  · exact .inr ⟨g, cap, cur, rfl, by omega, h2, h3⟩
theorem ownsRow_lt {w : World} {base : Nat} {e : TypeId} {size n : Nat} {v : Value} {xs : List Value} (h : w.ownsRow base e size v n xs) {b : Nat} (hb : v.ownBlock = some b) : base ≤ b ∧ b < w.heap.size := by
  rcases h.2 with ⟨rfl, _⟩ | ⟨g, cap, cur, rfl, h1, h2, h3⟩
  · cases hb
  · simp only [Value.ownBlock, Option.some.injEq] at hb
    subst hb
    exact ⟨h1, row_lt h2⟩
/-- Gives a value, all memory as it was but for new blocks. -/
def RetB (v : Value) (w : World) (e : Ending) (w' : World) : Prop := e = .returned v ∧ Below w.heap.size w w'
/-- Gives bytes of the call's own. -/
def Gives (l : Bs) (w : World) (e : Ending) (w' : World) : Prop := ∃ v, e = .returned v ∧ Own w.heap.size w' v l ∧ Below w.heap.size w w'
/-- w' is w but for blocks of M, and new ones. -/
structure Kept (M : Nat → Prop) (w w' : World) : Prop where
  os : w'.os = w.os
  tape : w'.tape = w.tape
  output : w'.output = w.output
  size : w.heap.size ≤ w'.heap.size
  block : ∀ b, b < w.heap.size → ¬ M b → w'.heap[b]? = w.heap[b]?
theorem Kept.refl (M : Nat → Prop) (w : World) : Kept M w w := ⟨rfl, rfl, rfl, Nat.le_refl _, fun _ _ _ => rfl⟩
theorem Kept.step {M M1 : Nat → Prop} {w w1 w2 : World} (h : Kept M w w1) (k : Kept M1 w1 w2) (hm : ∀ b, b < w.heap.size → M1 b → M b) : Kept M w w2 :=
  ⟨k.os.trans h.os, k.tape.trans h.tape, k.output.trans h.output, Nat.le_trans h.size k.size, fun b hb hn => (k.block b (Nat.lt_of_lt_of_le hb h.size) (fun e => hn (hm b hb e))).trans (h.block b hb hn)⟩
theorem Kept.trans {M : Nat → Prop} {w w1 w2 : World} (h : Kept M w w1) (k : Kept M w1 w2) : Kept M w w2 := h.step k fun _ _ e => e
theorem Kept.mono {M M' : Nat → Prop} {w w1 : World} (h : Kept M w w1) (hm : ∀ b, b < w.heap.size → M b → M' b) : Kept M' w w1 := ⟨h.os, h.tape, h.output, h.size, fun b hb hn => h.block b hb (fun e => hn (hm b hb e))⟩
theorem Kept.below {M : Nat → Prop} {w w1 : World} (h : Kept M w w1) {B : Nat} (hB : B ≤ w.heap.size) (hm : ∀ b, M b → B ≤ b) : Below B w w1 := ⟨h.os, h.tape, h.output, h.size, fun b hb => h.block b (Nat.lt_of_lt_of_le hb hB) (fun e => Nat.not_lt_of_le (hm b e) hb)⟩
theorem Kept.of_below {M : Nat → Prop} {w w1 : World} (h : Below w.heap.size w w1) : Kept M w w1 := ⟨h.os, h.tape, h.output, h.size, fun b hb _ => h.block b hb⟩
theorem Kept.alloc {M : Nat → Prop} {w w1 : World} (h : Kept M w w1) (o : Obj) : Kept M w (w1.alloc o) := h.step (M1 := M) (Kept.of_below ((Below.refl _ _).alloc (Nat.le_refl _) o)) (fun _ _ e => e)
theorem Kept.setCell {M : Nat → Prop} {w w1 : World} (h : Kept M w w1) {p : Addr} (hp : p.block < w.heap.size → M p.block) (u : Value) : Kept M w (w1.setCell p u) :=
  h.step (M1 := fun b => b = p.block) ⟨rfl, rfl, rfl, by simp [World.setCell], fun b _ hn => Below.heap_setCell w1 p u b hn⟩ (fun b hb e => by subst e; exact hp hb)
theorem Kept.setRow {M : Nat → Prop} {w w1 : World} (h : Kept M w w1) {g : Nat} (hp : g < w.heap.size → M g) (cs : Array Value) : Kept M w (w1.setRow g cs) :=
  h.step (M1 := fun b => b = g) ⟨rfl, rfl, rfl, by simp [World.setRow], fun b _ hn => setRow_other w1 g b cs hn⟩ (fun b hb e => by subst e; exact hp hb)

theorem step_app {ops : Array Oper} {o : Oper} {a : Act} {w : World} {K : Act → World → Prop} {Q : Exit → Act → World → Prop} {E : Prop}
    (hgd : o.guard = none) (s x : Operand) (hop : o.op = .call { callee := .builtin .append, args := #[s, x], argTypes := #[23, 23] })
    {base : Nat} {v : Value} {l : List UInt8} (hs : a.eval s = v) (hown : Own base w v l) {B : Nat} {A : Option Addr} {m c : Nat} {l2 : List UInt8} (hx : a.eval x = .slice A m c) (hm : m = l2.length) (hr : Lies w B A l2)
    (hsz : l.length + l2.length ≤ 140737488355328) (hbase : base ≤ w.heap.size)
    (hK : ∀ v' w', Own base w' v' (l ++ l2) → Below base w w' → w.grownBy w' v.ownBlock → K (a.put o.dst v') w') :
    if Region.wanted o (yielded ops a.tmps) = true then Oper.wp Try.prog o a w K Q else E := by
  have hw : Region.wanted o (yielded ops a.tmps) = true := by simp [Region.wanted, hgd]
  rw [if_pos hw]
  obtain ⟨v', w', hrun, h2, h3, h4⟩ := run_app hown hm hr hsz hbase o.type
  exact wp_app_run s x _ hop hs hx hrun (hK _ _ h2 h3 h4)
/-- What a joiner has. -/
structure J7 where
  i : Nat
  t : Nat
  d : Bs
/-- A piece. -/
structure P7 where
  i : Nat
  t : Nat
  o : Int
  last : Bool
  d : Bs
def hasD (j : J7) (i t : Nat) : Bs := if j.i = i ∧ j.t = t then j.d else []
def laidD (d : Bs) (o : Nat) (l : Bool) (x : Bs) : Bs := if o + x.length ≤ d.length ∧ l = false then d else d.take o ++ x
abbrev tJ : TypeId := 55
abbrev tPl : TypeId := 53
abbrev tP : TypeId := 25
abbrev jC (j : J7) : Array Value := #[.int .u64 (j.i : Nat), .int .u64 (j.t : Nat), .string (str j.d)]
abbrev pC (p : P7) (A : Option Addr) (c : Nat) : Array Value := #[.int .u64 (p.i : Nat), .int .u64 (p.t : Nat), .int .i64 p.o, .bool p.last, .slice A p.d.length c]
/-- A joiner in memory. -/
def JAt (w : World) (g : Nat) (j : J7) : Prop := w.heap[g]? = some (.cells (jC j) tJ (0, 0))
theorem JAt.cells {w : World} {g : Nat} {j : J7} (h : JAt w g j) : w.cell? ⟨g, 0, none⟩ = some (.int .u64 (j.i : Nat)) ∧ w.cell? ⟨g, 1, none⟩ = some (.int .u64 (j.t : Nat)) ∧ w.cell? ⟨g, 2, none⟩ = some (.string (str j.d)) :=
  ⟨by rw [cell_of_row w g 0 _ _ _ h]; rfl, by rw [cell_of_row w g 1 _ _ _ h]; rfl, by rw [cell_of_row w g 2 _ _ _ h]; rfl⟩
theorem JAt.lt {w : World} {g : Nat} {j : J7} (h : JAt w g j) : g < w.heap.size := row_lt h
theorem JAt.keep {w w' : World} {g : Nat} {j : J7} (h : JAt w g j) (hb : w'.heap[g]? = w.heap[g]?) : JAt w' g j := hb.trans h
theorem JAt.below {w w' : World} {g : Nat} {j : J7} (h : JAt w g j) (hk : Below w.heap.size w w') : JAt w' g j := h.keep (hk.block g h.lt)
structure JOk (j : J7) : Prop where
  i : j.i < 18446744073709551616
  t : j.t < 18446744073709551616
  d : j.d.length ≤ 32768
theorem placeTest (w : World) (a b c d : Int) : (binOp .neq tPl (.agg #[.int .u64 a, .int .u64 b]) (.agg #[.int .u64 c, .int .u64 d])).run Try.prog w = .ok (.bool (!((a == c) && (b == d)))) w := by
  have hu : Try.prog.underlying 22 = some (.int .u64) := Try.underlying22
  have hf : (Try.prog.fieldsOf tPl).toList = [⟨"index", 22, 0, false, "", "scupper/snap", 0⟩, ⟨"term", 22, 1, false, "", "scupper/snap", 8⟩] := by kernel_rfl
  rw [run_neq_struct, run_equalIn_agg w 9999 tPl _ _ (by kernel_rfl) (by kernel_rfl), hf]
  simp [Op.eqFields, run_equalIn_int _ _ _ _ _ _ _ hu, part, go_sem]
  by_cases h1 : a = c <;> by_cases h2 : b = d <;> simp [h1, h2]
end Go.Proofs.Ytjafgkehkigclaa.Sn
