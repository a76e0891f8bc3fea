/- The reference's post in memory; its End and Cut as contracts of calls. -/
import Derived.Test.YtenaecpmmbigdaaPoJ
import Derived.ChangeKeysEq
namespace Go.Proofs.Ytenaecpmmbigdaa.Po
open Go.RowKit Go.Maps By Mp

abbrev tRP : TypeId := 31
abbrev tRL : TypeId := 64
abbrev tRLs : TypeId := 28
abbrev tPair : TypeId := 66
abbrev tPairs : TypeId := 29
theorem rletInfo : (Try.prog.info? tRL).map (fun i => (i.zero, i.size, i.bytes)) = some (some (.agg #[.int .i64 0, .int .i64 0, .slice none 0 0]), 3, 40) := by kernel_rfl
theorem pairInfo : (Try.prog.info? tPair).map (fun i => (i.zero, i.size, i.bytes)) = some (some (.agg #[.int .i64 0, .int .i64 0]), 2, 16) := by kernel_rfl
def rC (x : L8) (v : Value) : List Value := [.int .i64 x.a, .int .i64 x.b, v]
def rRow : List L8 → List Value → List Value
  | x :: l, v :: vs => rC x v ++ rRow l vs
  | _, _ => []
def pRow (cuts : List (Int × Int)) : List Value := cuts.flatMap fun q => [.int .i64 q.1, .int .i64 q.2]
theorem rRow_length : ∀ (l : List L8) (vs : List Value), vs.length = l.length → (rRow l vs).length = l.length * 3
  | [], [], _ => rfl
  | [], _ :: _, h => by simp at h
  | _ :: _, [], h => by simp at h
  | x :: l, v :: vs, h => by
    show (rC x v ++ rRow l vs).length = _
    rw [List.length_append, rRow_length l vs (by simpa using h), List.length_cons, show (rC x v).length = 3 from rfl]; omega
theorem rRow_at : ∀ {l : List L8} {vs : List Value} {k : Nat} {x : L8} {v : Value}, l[k]? = some x → vs[k]? = some v → (rRow l vs)[k * 3]? = some (.int .i64 x.a) ∧ (rRow l vs)[k * 3 + 1]? = some (.int .i64 x.b) ∧ (rRow l vs)[k * 3 + 2]? = some v
  | [], _, _, _, _, h, _ => by cases h
  | _ :: _, [], _, _, _, _, h => by cases h
  | y :: l, u :: vs, 0, x, v, h, h2 => by
    simp only [List.getElem?_cons_zero, Option.some.injEq] at h h2
    subst h h2
    exact ⟨rfl, rfl, rfl⟩
  | y :: l, u :: vs, k + 1, x, v, h, h2 => by
    have ih := rRow_at (l := l) (vs := vs) (k := k) (by simpa using h) (by simpa using h2)
    rw [show (k + 1) * 3 = k * 3 + 3 by omega]
    exact ih
theorem rRow_app : ∀ (l m : List L8) (vs us : List Value), vs.length = l.length → rRow (l ++ m) (vs ++ us) = rRow l vs ++ rRow m us
  | [], m, [], us, _ => rfl
  | [], _, _ :: _, _, h => by simp at h
  | _ :: _, _, [], _, h => by simp at h
  | x :: l, m, v :: vs, us, h => by
    show rC x v ++ rRow (l ++ m) (vs ++ us) = (rC x v ++ rRow l vs) ++ rRow m us
    rw [rRow_app l m vs us (by simpa using h), List.append_assoc]
theorem rRow_take (l : List L8) (vs : List Value) (h : vs.length = l.length) (k : Nat) (hk : k ≤ l.length) : rRow (l.take k) (vs.take k) = (rRow l vs).take (k * 3) := by
  have h1 := rRow_app (l.take k) (l.drop k) (vs.take k) (vs.drop k) (by simp [h])
  rw [List.take_append_drop, List.take_append_drop] at h1
  have h2 := rRow_length (l.take k) (vs.take k) (by simp [h])
  rw [List.length_take, Nat.min_eq_left hk] at h2
  rw [h1, ← h2, List.take_left]
theorem rRow_drop (l : List L8) (vs : List Value) (h : vs.length = l.length) (k : Nat) (hk : k ≤ l.length) : rRow (l.drop k) (vs.drop k) = (rRow l vs).drop (k * 3) := by
  have h1 := rRow_app (l.take k) (l.drop k) (vs.take k) (vs.drop k) (by simp [h])
  rw [List.take_append_drop, List.take_append_drop] at h1
  have h2 := rRow_length (l.take k) (vs.take k) (by simp [h])
  rw [List.length_take, Nat.min_eq_left hk] at h2
  rw [h1, ← h2, List.drop_left]
theorem pRow_length (l : List (Int × Int)) : (pRow l).length = l.length * 2 := by
  induction l with
  | nil => rfl
  | cons x l ih =>
    show ([Value.int .i64 x.1, .int .i64 x.2] ++ pRow l).length = _
    rw [List.length_append, ih, List.length_cons]; simp; omega
theorem pRow_one (l : List (Int × Int)) : ∀ u ∈ pRow l, u.oneCell' = true := by
  intro u hu
  obtain ⟨x, _, hx⟩ := List.mem_flatMap.1 hu
  simp only [List.mem_cons, List.not_mem_nil, or_false] at hx
  rcases hx with rfl | rfl <;> rfl
theorem pRow_app (l m : List (Int × Int)) : pRow (l ++ m) = pRow l ++ pRow m := by simp [pRow]
theorem pRow_at {l : List (Int × Int)} {k : Nat} {x : Int × Int} (h : l[k]? = some x) : (pRow l)[k * 2]? = some (.int .i64 x.1) ∧ (pRow l)[k * 2 + 1]? = some (.int .i64 x.2) := by
  induction l generalizing k with
  | nil => cases h
  | cons y l ih =>
    cases k with
    | zero =>
      simp only [List.getElem?_cons_zero, Option.some.injEq] at h
      subst h
      exact ⟨rfl, rfl⟩
    | succ k =>
      have h2 := ih (k := k) (by simpa using h)
      rw [show (k + 1) * 2 = k * 2 + 2 by omega]
      exact h2
theorem pRow_take (l : List (Int × Int)) (k : Nat) (hk : k ≤ l.length) : pRow (l.take k) = (pRow l).take (k * 2) := by
  have h1 := pRow_app (l.take k) (l.drop k)
  rw [List.take_append_drop] at h1
  have h2 := pRow_length (l.take k)
  rw [List.length_take, Nat.min_eq_left hk] at h2
  rw [h1, ← h2, List.take_left]
theorem pRow_drop (l : List (Int × Int)) (k : Nat) (hk : k ≤ l.length) : pRow (l.drop k) = (pRow l).drop (k * 2) := by
  have h1 := pRow_app (l.take k) (l.drop k)
  rw [List.take_append_drop] at h1
  have h2 := pRow_length (l.take k)
  rw [List.length_take, Nat.min_eq_left hk] at h2
  rw [h1, ← h2, List.drop_left]
/-- The reference's post in memory; S: the blocks that it may write. -/
structure RAt (w : World) (g : Nat) (p : P8) (lv cv : Value) (dv : List Value) (S : Nat → Prop) : Prop where
  row : w.heap[g]? = some (.cells #[.int .i64 p.room, lv, cv] tRP (0, 0))
  list : w.ownsRow 0 tRL 3 lv p.l.length (rRow p.l dv)
  len : dv.length = p.l.length
  data : ∀ (k : Nat) x v, p.l[k]? = some x → dv[k]? = some v → Own 0 w v x.d ∧ ∀ b, v.ownBlock = some b → S b
  cuts : w.ownsRow 0 tPair 2 cv p.cuts.length (pRow p.cuts)
  sg : S g
  sl : ∀ b, lv.ownBlock = some b → S b
  sc : ∀ b, cv.ownBlock = some b → S b
  lt : ∀ b, S b → b < w.heap.size
  ok : p.Ok
def RefIs (w : World) (g : Nat) (p : P8) (S : Nat → Prop) : Prop := ∃ lv cv dv, RAt w g p lv cv dv S
theorem RAt.keep {w w' : World} {g : Nat} {p : P8} {lv cv : Value} {dv : List Value} {S : Nat → Prop} (h : RAt w g p lv cv dv S) (hb : ∀ b, S b → w'.heap[b]? = w.heap[b]?) (hz : w.heap.size ≤ w'.heap.size) : RAt w' g p lv cv dv S :=
  ⟨(hb g h.sg).trans h.row, ownsRow_keep h.list (fun b e => hb b (h.sl b e)), h.len, fun k x v h1 h2 => ⟨ownsRow_keep (h.data k x v h1 h2).1 (fun b e => hb b ((h.data k x v h1 h2).2 b e)), (h.data k x v h1 h2).2⟩, ownsRow_keep h.cuts (fun b e => hb b (h.sc b e)), h.sg, h.sl, h.sc, fun b e => Nat.lt_of_lt_of_le (h.lt b e) hz, h.ok⟩
theorem RefIs.keep {w w' : World} {g : Nat} {p : P8} {S : Nat → Prop} (h : RefIs w g p S) (hb : ∀ b, S b → w'.heap[b]? = w.heap[b]?) (hz : w.heap.size ≤ w'.heap.size) : RefIs w' g p S := by
  obtain ⟨lv, cv, dv, h⟩ := h
  exact ⟨lv, cv, dv, h.keep hb hz⟩
theorem RAt.below {w w' : World} {g : Nat} {p : P8} {lv cv : Value} {dv : List Value} {S : Nat → Prop} (h : RAt w g p lv cv dv S) (hb : Below w.heap.size w w') : RAt w' g p lv cv dv S := h.keep (fun b hs => hb.block b (h.lt b hs)) hb.size
theorem RefIs.below {w w' : World} {g : Nat} {p : P8} {S : Nat → Prop} (h : RefIs w g p S) (hb : Below w.heap.size w w') : RefIs w' g p S := by
  obtain ⟨lv, cv, dv, h⟩ := h
  exact ⟨lv, cv, dv, h.below hb⟩
theorem RAt.cells {w : World} {g : Nat} {p : P8} {lv cv : Value} {dv : List Value} {S : Nat → Prop} (h : RAt w g p lv cv dv S) : w.cell? ⟨g, 0, none⟩ = some (.int .i64 p.room) ∧ w.cell? ⟨g, 1, none⟩ = some lv ∧ w.cell? ⟨g, 2, none⟩ = some cv := lcells h.row
theorem tRP_neL : tRP ≠ tRL := by decide
theorem tRP_neP : tRP ≠ tPair := by decide
theorem tRP_ne8 : tRP ≠ 5 := by decide
theorem tRL_neP : tRL ≠ tPair := by decide
theorem tRL_ne8 : tRL ≠ 5 := by decide
theorem tPair_ne8 : tPair ≠ 5 := by decide
theorem rows_apart {w : World} {e e' : TypeId} {base base' sz sz' n n' : Nat} {v v' : Value} {xs xs' : List Value} (h : w.ownsRow base e sz v n xs) (h' : w.ownsRow base' e' sz' v' n' xs') (hne : e ≠ e') {b : Nat} (hb : v.ownBlock = some b) : v'.ownBlock ≠ some b := fun e => by
  obtain ⟨c1, h1⟩ := ownsRow_type h hb
  obtain ⟨c2, h2⟩ := ownsRow_type h' e
  rw [h1] at h2
  injection h2 with h2
  injection h2 with _ h2
  exact hne h2
theorem row_apart {w : World} {e e' : TypeId} {base sz n g : Nat} {v : Value} {xs : List Value} {cs : Array Value} (h : w.ownsRow base e sz v n xs) (hg : w.heap[g]? = some (.cells cs e' (0, 0))) (hne : e' ≠ e) : v.ownBlock ≠ some g := fun q => by
  obtain ⟨c1, h1⟩ := ownsRow_type h q
  rw [hg] at h1
  injection h1 with h1
  injection h1 with _ h1
  exact hne h1
/-- What a call on the reference's post comes to. -/
def RStep (val : Value) (g : Nat) (p' : P8) (S : Nat → Prop) (w : World) (e : Ending) (w' : World) : Prop :=
  e = .returned val ∧ ∃ S', RefIs w' g p' S' ∧ (∀ b, S' b → S b ∨ w.heap.size ≤ b) ∧ Kept S w w'
theorem rstep_same {g : Nat} {p : P8} {S : Nat → Prop} {w w' : World} {val : Value} (h : RefIs w g p S) (hb : Below w.heap.size w w') : RStep val g p S w (.returned val) w' := ⟨rfl, S, h.below hb, fun _ hb => .inl hb, Kept.of_below hb⟩
theorem RStep.lift {val : Value} {g : Nat} {p' : P8} {S : Nat → Prop} {w w3 : World} (hb : Below w.heap.size w w3) {e : Ending} {w' : World} (h : RStep val g p' S w3 e w') : RStep val g p' S w e w' := by
  obtain ⟨rfl, S', h1, h2, h3⟩ := h
  exact ⟨rfl, S', h1, fun b hb' => (h2 b hb').imp id (fun h => Nat.le_trans hb.size h), (Kept.of_below hb).trans h3⟩
theorem rEnd_any (n : Int) (w : World) : Calls Try.prog 16 #[.int .i64 n] w (RetB (.bool (decide (End8 n))) w) := by
  by_cases h1 : 1 ≤ n
  · by_cases h2 : n ≤ 16
    · rw [decide_eq_true (show End8 n from ⟨by omega, by omega, h2⟩)]
      go_enter Try.func16, Try.ntmps16
      go_wp2
      go_ret
      exact ⟨rfl, Below.refl _ _⟩
    · rw [decide_eq_false (fun h : End8 n => h2 h.2.2)]
      have h3 : ¬ n ≤ -1 := by omega
      go_enter Try.func16, Try.ntmps16
      go_wp2
      go_ret
      exact ⟨rfl, Below.refl _ _⟩
  · by_cases h2 : n ≤ -1
    · by_cases h3 : -16 ≤ n
      · rw [decide_eq_true (show End8 n from ⟨by omega, h3, by omega⟩)]
        go_enter Try.func16, Try.ntmps16
        go_wp2
        go_ret
        exact ⟨rfl, Below.refl _ _⟩
      · rw [decide_eq_false (fun h : End8 n => h3 h.2.1)]
        go_enter Try.func16, Try.ntmps16
        go_wp2
        go_ret
        exact ⟨rfl, Below.refl _ _⟩
    · rw [decide_eq_false (fun h : End8 n => h.1 (by omega))]
      go_enter Try.func16, Try.ntmps16
      go_wp2
      go_ret
      exact ⟨rfl, Below.refl _ _⟩
theorem pairTest (w : World) (a b c d : Int) : (binOp .eql tPair (.agg #[.int .i64 a, .int .i64 b]) (.agg #[.int .i64 c, .int .i64 d])).run Try.prog w = .ok (.bool (decide ((a, b) = (c, d)))) w := by
  have hu : Try.prog.underlying 3 = some (.int .i64) := Try.underlying3
  obtain ⟨i, hi⟩ : ∃ i, Try.prog.info? 3 = some i := by
    cases h : Try.prog.info? 3 with
    | some i => exact ⟨i, rfl⟩
    | none =>
      have : (Try.prog.info? 3).isSome = true := by kernel_rfl
      rw [h] at this; cases this
  have hc : Try.prog.cellsOf 3 = 1 := by kernel_rfl
  rw [run_eql_struct, run_equalIn_array w 9999 _ _ Try.underlying66 hi, hc]
  simp [Op.eqItems, run_equalIn_int _ _ _ _ _ _ _ hu, part, go_sem, List.range, List.range.loop]
  by_cases h1 : a = c <;> by_cases h2 : b = d <;> simp [h1, h2]
end Go.Proofs.Ytenaecpmmbigdaa.Po
