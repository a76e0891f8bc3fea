/- Package post as plain values: what is on the way, which ways are cut; what it is in memory; keys of its map. Nothing here speaks of one law. -/
import Derived.Test.YtenaecpmmbigdaaEA
import Derived.Deep.CutBlock
import Derived.Laws.Rows
import Derived.Laws.Tables
import Derived.Laws.StructEq
import Derived.Lib.ConvBytes
import Derived.DeepKeys4
import Derived.Maps.AppendAt
import Derived.Deep.RegionLaw
import Derived.Deep.RegionHeld3
namespace Go.Proofs.Ytenaecpmmbigdaa.Po
open Go.RowKit Go.Maps By Mp

abbrev Bs := List UInt8
theorem row_lt {w : World} {g : Nat} {o : Obj} (h : w.heap[g]? = some o) : g < w.heap.size := (Array.getElem?_eq_some_iff.1 h).1
theorem ownsRow_keep {w w' : World} {base : Nat} {e : TypeId} {size n : Nat} {v : Value} {xs : List Value} (h : w.ownsRow base e size v n xs) (hb : ∀ b, v.ownBlock = some b → w'.heap[b]? = w.heap[b]?) : w'.ownsRow base e size v n xs := by
  refine ⟨h.1, ?_⟩
  rcases h.2 with hn | ⟨g, cap, cur, rfl, h1, h2, h3⟩
  · exact .inl hn
  · exact .inr ⟨g, cap, cur, rfl, h1, (hb g rfl).trans h2, h3⟩
theorem ownsRow_base {w : World} {base base' : Nat} {e : TypeId} {size n : Nat} {v : Value} {xs : List Value} (h : w.ownsRow base e size v n xs) (hb : base' ≤ base) : w.ownsRow base' e size v n xs := by
  refine ⟨h.1, ?_⟩
  rcases h.2 with hn | ⟨g, cap, cur, rfl, h1, h2, h3⟩
  · exact .inl hn
  · exact .inr ⟨g, cap, cur, rfl, by omega, h2, h3⟩
theorem ownsRow_lt {w : World} {base : Nat} {e : TypeId} {size n : Nat} {v : Value} {xs : List Value} (h : w.ownsRow base e size v n xs) {b : Nat} (hb : v.ownBlock = some b) : base ≤ b ∧ b < w.heap.size := by
  rcases h.2 with ⟨rfl, _⟩ | ⟨g, cap, cur, rfl, h1, h2, h3⟩
  · cases hb
  · simp only [Value.ownBlock, Option.some.injEq] at hb
    subst hb
    exact ⟨h1, row_lt h2⟩
/-- Gives a value, all memory as it was but for new blocks. -/
def RetB (v : Value) (w : World) (e : Ending) (w' : World) : Prop := e = .returned v ∧ Below w.heap.size w w'
/-- w' is w but for blocks of M, and new ones. -/
structure Kept (M : Nat → Prop) (w w' : World) : Prop where
  os : w'.os = w.os
  tape : w'.tape = w.tape
  output : w'.output = w.output
  size : w.heap.size ≤ w'.heap.size
  block : ∀ b, b < w.heap.size → ¬ M b → w'.heap[b]? = w.heap[b]?
theorem Kept.refl (M : Nat → Prop) (w : World) : Kept M w w := ⟨rfl, rfl, rfl, Nat.le_refl _, fun _ _ _ => rfl⟩
theorem Kept.step {M M1 : Nat → Prop} {w w1 w2 : World} (h : Kept M w w1) (k : Kept M1 w1 w2) (hm : ∀ b, b < w.heap.size → M1 b → M b) : Kept M w w2 :=
  ⟨k.os.trans h.os, k.tape.trans h.tape, k.output.trans h.output, Nat.le_trans h.size k.size, fun b hb hn => (k.block b (Nat.lt_of_lt_of_le hb h.size) (fun e => hn (hm b hb e))).trans (h.block b hb hn)⟩
theorem Kept.trans {M : Nat → Prop} {w w1 w2 : World} (h : Kept M w w1) (k : Kept M w1 w2) : Kept M w w2 := h.step k fun _ _ e => e
theorem Kept.mono {M M' : Nat → Prop} {w w1 : World} (h : Kept M w w1) (hm : ∀ b, b < w.heap.size → M b → M' b) : Kept M' w w1 := ⟨h.os, h.tape, h.output, h.size, fun b hb hn => h.block b hb (fun e => hn (hm b hb e))⟩
theorem Kept.below {M : Nat → Prop} {w w1 : World} (h : Kept M w w1) {B : Nat} (hB : B ≤ w.heap.size) (hm : ∀ b, M b → B ≤ b) : Below B w w1 := ⟨h.os, h.tape, h.output, h.size, fun b hb => h.block b (Nat.lt_of_lt_of_le hb hB) (fun e => Nat.not_lt_of_le (hm b e) hb)⟩
theorem Kept.of_below {M : Nat → Prop} {w w1 : World} (h : Below w.heap.size w w1) : Kept M w w1 := ⟨h.os, h.tape, h.output, h.size, fun b hb _ => h.block b hb⟩
theorem Kept.alloc {M : Nat → Prop} {w w1 : World} (h : Kept M w w1) (o : Obj) : Kept M w (w1.alloc o) := h.step (M1 := M) (Kept.of_below ((Below.refl _ _).alloc (Nat.le_refl _) o)) (fun _ _ e => e)
theorem Kept.setCell {M : Nat → Prop} {w w1 : World} (h : Kept M w w1) {p : Addr} (hp : p.block < w.heap.size → M p.block) (u : Value) : Kept M w (w1.setCell p u) :=
  h.step (M1 := fun b => b = p.block) ⟨rfl, rfl, rfl, by simp [World.setCell], fun b _ hn => Below.heap_setCell w1 p u b hn⟩ (fun b hb e => by subst e; exact hp hb)
theorem Kept.setRow {M : Nat → Prop} {w w1 : World} (h : Kept M w w1) {g : Nat} (hp : g < w.heap.size → M g) (cs : Array Value) : Kept M w (w1.setRow g cs) :=
  h.step (M1 := fun b => b = g) ⟨rfl, rfl, rfl, by simp [World.setRow], fun b _ hn => setRow_other w1 g b cs hn⟩ (fun b hb e => by subst e; exact hp hb)

theorem ownsRow_form {w : World} {base : Nat} {e : TypeId} {size n : Nat} {v : Value} {xs : List Value} (h : w.ownsRow base e size v n xs) : ∃ A c, v = .slice A n c := by
  rcases h.2 with ⟨rfl, rfl⟩ | ⟨g, cap, cur, rfl, _⟩
  · exact ⟨none, 0, rfl⟩
  · exact ⟨_, _, rfl⟩
theorem ownsRow_type {w : World} {base : Nat} {e : TypeId} {size n : Nat} {v : Value} {xs : List Value} (h : w.ownsRow base e size v n xs) {b : Nat} (hb : v.ownBlock = some b) : ∃ cur, w.heap[b]? = some (.cells cur e (0, 0)) := by
  rcases h.2 with ⟨rfl, _⟩ | ⟨g, cap, cur, rfl, h1, h2, h3⟩
  · cases hb
  · simp only [Value.ownBlock, Option.some.injEq] at hb
    subst hb
    exact ⟨cur, h2⟩
/-- Appending to a row of the call's own, and where the row is then. -/
theorem run_appG {tes te : TypeId} {z : Value} {sz by_ : Nat} (ht : Try.prog.underlying tes = some (.slice te)) (hinfo : (Try.prog.info? te).map (fun i => (i.zero, i.size, i.bytes)) = some (some z, sz, by_)) (hzs : z.cells.size = sz) (hsz : 0 < sz)
    (w : World) (ty : TypeId) (base : Nat) (v : Value) (n : Nat) (xs : List Value) (hown : w.ownsRow base te sz v n xs) (ad : Option Addr) (m c : Nat) (news : List Value) (hl : news.length = m * sz)
    (hnews : 0 < m → ∃ a, ad = some a ∧ ∀ j u, news[j]? = some u → w.cell? (a.add j) = some u) (h1 : ∀ u ∈ news, u.oneCell' = true)
    (hn : (n + m) * by_ ≤ 140737488355328) (hn2 : n + m ≤ 140737488355328) (hbase : base ≤ w.heap.size) : ∃ v' w', (Builtin.append_ #[tes, tes] ty #[v, .slice ad m c]).run Try.prog w = .ok v' w' ∧ w'.ownsRow base te sz v' (n + m) (xs ++ news) ∧ w.grownBy w' v.ownBlock ∧ ∀ b, v'.ownBlock = some b → v.ownBlock = some b ∨ w.heap.size ≤ b := by
  obtain ⟨i0, hi, hz0, hz1, hz2⟩ := info_parts hinfo
  rcases ad with _ | ad
  · have hm0 : m = 0 := by
      rcases Nat.eq_zero_or_pos m with h | h
      · exact h
      · obtain ⟨a, e, _⟩ := hnews h
        cases e
    subst hm0
    obtain rfl : news = [] := List.eq_nil_of_length_eq_zero (by rw [hl, Nat.zero_mul])
    exact ⟨v, w, run_append_none w base _ ty _ i0 sz ht hi v _ _ hown c, by simpa using hown, ⟨rfl, rfl, rfl, Nat.le_refl _, fun _ _ _ => rfl⟩, fun b hb => .inl hb⟩
  · have hcells : ∀ j u, news[j]? = some u → w.cell? (ad.add j) = some u := by
      intro j u hu
      have hjl := (List.getElem?_eq_some_iff.1 hu).1
      have hm : 0 < m := by
        rcases Nat.eq_zero_or_pos m with h | h
        · rw [hl, h, Nat.zero_mul] at hjl; omega
        · exact h
      obtain ⟨a, e, h⟩ := hnews hm
      injection e with e
      rw [e]
      exact h j u hu
    rcases hown.2 with ⟨rfl, rfl⟩ | ⟨g, cap, cur, rfl, hbg, hg, hnc, hcm, hcs, htake⟩
    · have hxs : xs = [] := List.eq_nil_of_length_eq_zero (by simpa using hown.1)
      subst hxs
      obtain ⟨v', w', hrun, h2, h3, _⟩ := run_append_own (P := Try.prog) w w.heap.size tes ty te i0 _ sz by_ ht hi hz0 hz1 hz2 hzs hsz (.slice none 0 0) 0 [] (World.ownsRow_nil w _ _ sz) ad m c news hl hcells h1 (by unfold maxLen; omega) hn (Nat.le_refl _)
      exact ⟨v', w', hrun, ownsRow_base h2 hbase, h3, fun b hb => .inr (ownsRow_lt h2 hb).1⟩
    · by_cases hroom : n + m ≤ cap
      · obtain ⟨w', hrun, h2, h3⟩ := run_append_fits (P := Try.prog) w base tes ty te i0 sz ht hi hz1 g n cap xs hown ad m c news hl hcells h1 hroom
        exact ⟨_, w', hrun, h2, h3, fun b hb => .inl hb⟩
      · obtain ⟨v', w', hrun, h2, h3⟩ := run_append_arg_grows (P := Try.prog) w tes ty te i0 _ sz by_ ht hi hz0 hz1 hz2 hzs hsz ⟨g, 0, none⟩ n cap xs hown.1
          (fun j u hj => by
            rw [plainAdd, Nat.zero_add, cell_of_row w g j _ _ _ hg]
            rw [← htake, List.getElem?_take] at hj
            split at hj
            · simpa using hj
            · cases hj) ad m c news hl hcells (by omega) (by unfold maxLen; omega) hn
        exact ⟨v', w', hrun, ownsRow_base h2 hbase, h3.but _, fun b hb => .inr (ownsRow_lt h2 hb).1⟩
theorem step_appG {tes te : TypeId} {z : Value} {sz by_ : Nat} (ht : Try.prog.underlying tes = some (.slice te)) (hinfo : (Try.prog.info? te).map (fun i => (i.zero, i.size, i.bytes)) = some (some z, sz, by_)) (hzs : z.cells.size = sz) (hsz : 0 < sz) (hby : by_ ≤ 64)
    {ops : Array Oper} {o : Oper} {a : Act} {w : World} {K : Act → World → Prop} {Q : Exit → Act → World → Prop} {E : Prop} (hgd : o.guard = none) (s x : Operand) (hop : o.op = .call { callee := .builtin .append, args := #[s, x], argTypes := #[tes, tes] })
    (base : Nat) (v : Value) (n : Nat) (xs : List Value) (hs : a.eval s = v) (hown : w.ownsRow base te sz v n xs) (ad : Option Addr) (m c : Nat) (hx : a.eval x = .slice ad m c) (news : List Value) (hl : news.length = m * sz)
    (hnews : 0 < m → ∃ a, ad = some a ∧ ∀ j u, news[j]? = some u → w.cell? (a.add j) = some u) (h1 : ∀ u ∈ news, u.oneCell' = true)
    (hn : n + m ≤ 1073741824) (hbase : base ≤ w.heap.size)
    (hK : ∀ v' w', w'.ownsRow base te sz v' (n + m) (xs ++ news) → w.grownBy w' v.ownBlock → (∀ b, v'.ownBlock = some b → v.ownBlock = some b ∨ w.heap.size ≤ b) → K (a.put o.dst v') w') : if Region.wanted o (yielded ops a.tmps) = true then Oper.wp Try.prog o a w K Q else E := by
  have hw : Region.wanted o (yielded ops a.tmps) = true := by simp [Region.wanted, hgd]
  rw [if_pos hw]
  obtain ⟨v', w', hrun, h2, h3, h4⟩ := run_appG ht hinfo hzs hsz w o.type base v n xs hown ad m c news hl hnews h1 (Nat.le_trans (Nat.mul_le_mul hn hby) (by decide)) (by omega) hbase
  exact wp_app_run s x _ hop hs hx hrun (hK v' w' h2 h3 h4)
theorem wpList_appG {tes te : TypeId} {z : Value} {sz by_ : Nat} (ht : Try.prog.underlying tes = some (.slice te)) (hinfo : (Try.prog.info? te).map (fun i => (i.zero, i.size, i.bytes)) = some (some z, sz, by_)) (hzs : z.cells.size = sz) (hsz : 0 < sz) (hby : by_ ≤ 64)
    {ops : Array Oper} {rest : List Oper} {o : Oper} {a : Act} {Q : Exit → Act → World → Prop} {w : World} (hgd : o.guard = none) (s x : Operand) (hop : o.op = .call { callee := .builtin .append, args := #[s, x], argTypes := #[tes, tes] })
    (base : Nat) (v : Value) (n : Nat) (xs : List Value) (hs : a.eval s = v) (hown : w.ownsRow base te sz v n xs) (ad : Option Addr) (m c : Nat) (hx : a.eval x = .slice ad m c) (news : List Value) (hl : news.length = m * sz)
    (hnews : 0 < m → ∃ a, ad = some a ∧ ∀ j u, news[j]? = some u → w.cell? (a.add j) = some u) (h1 : ∀ u ∈ news, u.oneCell' = true)
    (hn : n + m ≤ 1073741824) (hbase : base ≤ w.heap.size)
    (h : ∀ v' w', w'.ownsRow base te sz v' (n + m) (xs ++ news) → w.grownBy w' v.ownBlock → (∀ b, v'.ownBlock = some b → v.ownBlock = some b ∨ w.heap.size ≤ b) → wpList Try.prog ops Q rest (a.put o.dst v') w') : wpList Try.prog ops Q (o :: rest) a w :=
  wpList_plain hgd fun K hK => by
    obtain ⟨v', w', hrun, h2, h3, h4⟩ := run_appG ht hinfo hzs hsz w o.type base v n xs hown ad m c news hl hnews h1 (Nat.le_trans (Nat.mul_le_mul hn hby) (by decide)) (by omega) hbase
    exact wp_app_run s x _ hop hs hx hrun (hK _ _ (h v' w' h2 h3 h4))

abbrev tPost : TypeId := 54
abbrev tLet : TypeId := 59
abbrev tWay : TypeId := 57
theorem letInfo : (Try.prog.info? tLet).map (fun i => (i.zero, i.size, i.bytes)) = some (some (.agg #[.int .i64 0, .int .i64 0, .string ⟨#[]⟩]), 3, 32) := by kernel_rfl
theorem ptrTest (w : World) (a : Option Addr) : (binOp .eql 23 (.pointer a) (.pointer none)).run Try.prog w = .ok (.bool a.isNone) w := by
  cases a with
  | none => kernel_rfl
  | some a => kernel_rfl
/-- A letter on its way. -/
structure L8 where
  a : Int
  b : Int
  d : Bs
/-- A post: what is on the way, which ways are cut, the room. -/
structure P8 where
  l : List L8
  cuts : List (Int × Int)
  room : Int
/-- An end's number. -/
def End8 (n : Int) : Prop := n ≠ 0 ∧ -16 ≤ n ∧ n ≤ 16
instance (n : Int) : Decidable (End8 n) := inferInstanceAs (Decidable (_ ∧ _ ∧ _))
structure LOk (x : L8) : Prop where
  a : End8 x.a
  b : End8 x.b
  d : x.d.length ≤ 65536
structure P8.Ok (p : P8) : Prop where
  room : 0 ≤ p.room ∧ p.room ≤ 4096
  few : (p.l.length : Int) ≤ p.room
  lets : ∀ x ∈ p.l, LOk x
  nodup : p.cuts.Nodup
  ends : ∀ q ∈ p.cuts, End8 q.1 ∧ End8 q.2
abbrev wayV (a b : Int) : Value := .agg #[.int .i64 a, .int .i64 b]
abbrev wayK (a b : Int) : Lit := .string (keyBytes [.int .i64 a, .int .i64 b])
def lC (x : L8) : List Value := [.int .i64 x.a, .int .i64 x.b, .string (str x.d)]
def lRow (l : List L8) : List Value := l.flatMap lC
theorem lRow_length (l : List L8) : (lRow l).length = l.length * 3 := by
  induction l with
  | nil => rfl
  | cons x l ih =>
    show (lC x ++ lRow l).length = _
    rw [List.length_append, ih, List.length_cons, show (lC x).length = 3 from rfl]; omega
theorem lRow_one (l : List L8) : ∀ u ∈ lRow l, u.oneCell' = true := by
  intro u hu
  obtain ⟨x, _, hx⟩ := List.mem_flatMap.1 hu
  simp only [lC, List.mem_cons, List.not_mem_nil, or_false] at hx
  rcases hx with rfl | rfl | rfl <;> rfl
theorem lRow_at {l : List L8} {k : Nat} {x : L8} (h : l[k]? = some x) : (lRow l)[k * 3]? = some (.int .i64 x.a) ∧ (lRow l)[k * 3 + 1]? = some (.int .i64 x.b) ∧ (lRow l)[k * 3 + 2]? = some (.string (str x.d)) := by
  induction l generalizing k with
  | nil => cases h
  | cons y l ih =>
    cases k with
    | zero =>
      simp only [List.getElem?_cons_zero, Option.some.injEq] at h
      subst h
      exact ⟨rfl, rfl, rfl⟩
    | succ k =>
      have h2 := ih (k := k) (by simpa using h)
      rw [show (k + 1) * 3 = k * 3 + 3 by omega]
      exact h2
theorem lRow_app (l m : List L8) : lRow (l ++ m) = lRow l ++ lRow m := by simp [lRow]
theorem lRow_take (l : List L8) : ∀ k, k ≤ l.length → lRow (l.take k) = (lRow l).take (k * 3) := by
  induction l with
  | nil => intro k hk; simp [lRow]
  | cons x l ih =>
    intro k hk
    cases k with
    | zero => simp [lRow]
    | succ k =>
      rw [List.take_succ_cons]
      show lC x ++ lRow (l.take k) = (lC x ++ lRow l).take ((k + 1) * 3)
      rw [ih k (by simpa using hk), show (k + 1) * 3 = (lC x).length + k * 3 by show _ = 3 + _; omega, List.take_length_add_append]
theorem lRow_drop (l : List L8) : ∀ k, k ≤ l.length → lRow (l.drop k) = (lRow l).drop (k * 3) := by
  induction l with
  | nil => intro k hk; simp [lRow]
  | cons x l ih =>
    intro k hk
    cases k with
    | zero => simp
    | succ k =>
      rw [List.drop_succ_cons]
      show _ = (lC x ++ lRow l).drop ((k + 1) * 3)
      rw [ih k (by simpa using hk), show (k + 1) * 3 = (lC x).length + k * 3 by show _ = 3 + _; omega, List.drop_length_add_append]

theorem laidOut : laidOutB Try.prog = true := by kernel_rfl
theorem wayLaw : Keyed Try.prog tWay := Keyed.of_law (deep_law_laid laidOut (m := 2) (by omega) (of_decide_eq_true (by kernel_rfl)) (by kernel_rfl) (by kernel_rfl))
theorem wayKeyType : Try.prog.keyType tWay = true := by kernel_rfl
theorem wayCells : Try.prog.cellsOf tWay = 2 := by kernel_rfl
theorem intCells : Try.prog.cellsOf 3 = 1 := by kernel_rfl
theorem i64_fits {n : Int} (h : End8 n) : (Lit.int .i64 n).wf = true := by
  obtain ⟨_, h1, h2⟩ := h
  simp only [Lit.wf, Bool.and_eq_true, decide_eq_true_eq]
  exact ⟨by simp [IntKind.min, IntKind.signed, IntKind.bits]; omega, by simp [IntKind.max, IntKind.signed, IntKind.bits]; omega⟩
theorem way_key {a b : Int} (ha : End8 a) (hb : End8 b) : keyOf Try.prog tWay (wayV a b) = some (wayK a b) := by
  have h1 := i64_fits ha
  have h2 := i64_fits hb
  obtain ⟨m, hm⟩ : ∃ m, Try.prog.types.size + 1 = m + 2 := ⟨Try.prog.types.size - 1, by
    have : 1 < Try.prog.types.size := of_decide_eq_true (by kernel_rfl)
    omega⟩
  have hk : ∀ n, (Lit.int .i64 n).wf = true → Try.prog.keyLits (m + 1) 3 [.int .i64 n] = some [.int .i64 n] := fun n hn => by
    simp only [Program.keyLits, Try.underlying3, hn]
    simp
  unfold keyOf
  rw [hm]
  simp only [Try.underlying57, wayKeyType, Value.formed, Value.cells, Program.keyLits, wayCells]
  simp [intCells, h1, h2]
theorem way_inj {a b c d : Int} (ha : End8 a) (hb : End8 b) (hc : End8 c) (hd : End8 d) (h : wayK a b = wayK c d) : a = c ∧ b = d := by
  have h1 := way_key ha hb
  have h2 := way_key hc hd
  rw [← h] at h2
  have e := wayLaw.inj h1 h2
  simpa using e
def unitV : Value := .agg #[]
/-- What the map of cut ways answers. -/
def getOf (cuts : List (Int × Int)) : Lit → Option Value := fun l => if cuts.any (fun q => l.sameKey (wayK q.1 q.2)) = true then some unitV else none
theorem getOf_nil : getOf [] = fun _ => none := rfl
theorem same_way {a b c d : Int} (ha : End8 a) (hb : End8 b) (hc : End8 c) (hd : End8 d) : (wayK a b).sameKey (wayK c d) = decide ((a, b) = (c, d)) := by
  by_cases h : (a, b) = (c, d)
  · injection h with h1 h2
    subst h1 h2
    rw [decide_eq_true rfl]
    exact WideAt.sameKey_self trivial
  · rw [decide_eq_false h]
    cases hs : (wayK a b).sameKey (wayK c d) with
    | false => rfl
    | true =>
      obtain ⟨h1, h2⟩ := way_inj ha hb hc hd (WideAt.sameKey_eq hs)
      exact absurd (by rw [h1, h2]) h
theorem getOf_at {cuts : List (Int × Int)} (he : ∀ q ∈ cuts, End8 q.1 ∧ End8 q.2) {a b : Int} (ha : End8 a) (hb : End8 b) : (getOf cuts (wayK a b)).isSome = decide ((a, b) ∈ cuts) := by
  have e : cuts.any (fun q => (wayK a b).sameKey (wayK q.1 q.2)) = decide ((a, b) ∈ cuts) := by
    rw [Bool.eq_iff_iff, List.any_eq_true, decide_eq_true_iff]
    constructor
    · rintro ⟨q, hq, hs⟩
      rw [same_way ha hb (he q hq).1 (he q hq).2, decide_eq_true_iff] at hs
      rw [hs]; exact hq
    · intro h
      exact ⟨_, h, WideAt.sameKey_self trivial⟩
  unfold getOf
  rw [e]
  by_cases h : (a, b) ∈ cuts <;> simp [h]
/-- A way is cut. -/
def cutP (p : P8) (a b : Int) : P8 := { p with cuts := if (a, b) ∈ p.cuts then p.cuts else p.cuts ++ [(a, b)] }
def healP (p : P8) (a b : Int) : P8 := { p with cuts := p.cuts.filter (fun q => decide (q ≠ (a, b))) }
theorem get_put {cuts : List (Int × Int)} (a b : Int) (l : Lit) : getOf (if (a, b) ∈ cuts then cuts else cuts ++ [(a, b)]) l = upd (getOf cuts) (wayK a b) (some unitV) l := by
  unfold upd getOf
  by_cases hs : l.sameKey (wayK a b) = true
  · rw [if_pos hs]
    split
    · rename_i h
      rw [if_pos]
      exact List.any_eq_true.2 ⟨_, h, hs⟩
    · rw [if_pos]
      exact List.any_eq_true.2 ⟨(a, b), by simp, hs⟩
  · rw [if_neg hs]
    split
    · rfl
    · have hf : l.sameKey (wayK a b) = false := Bool.eq_false_iff.2 hs
      rw [List.any_append, List.any_cons, List.any_nil, Bool.or_false, hf, Bool.or_false]
theorem get_del {cuts : List (Int × Int)} (he : ∀ q ∈ cuts, End8 q.1 ∧ End8 q.2) {a b : Int} (ha : End8 a) (hb : End8 b) (l : Lit) (hl : WideAt.IsKeyLit l) : getOf (cuts.filter (fun q => decide (q ≠ (a, b)))) l = upd (getOf cuts) (wayK a b) none l := by
  unfold upd getOf
  by_cases hs : l.sameKey (wayK a b) = true
  · rw [if_pos hs, if_neg]
    obtain rfl := WideAt.sameKey_eq hs
    intro h
    obtain ⟨q, hq, hs⟩ := List.any_eq_true.1 h
    obtain ⟨h1, h2⟩ := List.mem_filter.1 hq
    rw [same_way ha hb (he q h1).1 (he q h1).2, decide_eq_true_iff] at hs
    exact (of_decide_eq_true h2) hs.symm
  · rw [if_neg hs]
    have e : (cuts.filter (fun q => decide (q ≠ (a, b)))).any (fun q => l.sameKey (wayK q.1 q.2)) = cuts.any (fun q => l.sameKey (wayK q.1 q.2)) := by
      rw [Bool.eq_iff_iff, List.any_eq_true, List.any_eq_true]
      constructor
      · rintro ⟨q, hq, h⟩
        exact ⟨q, (List.mem_filter.1 hq).1, h⟩
      · rintro ⟨q, hq, h⟩
        refine ⟨q, List.mem_filter.2 ⟨hq, decide_eq_true fun e => ?_⟩, h⟩
        rw [e] at h
        exact hs h
    rw [e]
/-- The map of cut ways in memory. -/
def CutAt (w : World) (mb : Option Nat) (cuts : List (Int × Int)) : Prop := match mb with
  | none => cuts = []
  | some b => MapIs Try.prog tWay w b (getOf cuts) cuts.length
theorem CutAt.keep {w w' : World} {mb : Option Nat} {cuts : List (Int × Int)} (h : CutAt w mb cuts) (hb : ∀ b, mb = some b → w'.heap[b]? = w.heap[b]?) : CutAt w' mb cuts := by
  cases mb with
  | none => exact h
  | some b => exact MapIs.keep h (hb b rfl)
theorem nodup_map {α β : Type} (f : α → β) : ∀ (l : List α), (∀ x ∈ l, ∀ y ∈ l, f x = f y → x = y) → l.Nodup → (l.map f).Nodup
  | [], _, _ => List.nodup_nil
  | x :: l, hf, hn => by
    obtain ⟨h1, h2⟩ := List.nodup_cons.1 hn
    rw [List.map_cons, List.nodup_cons]
    refine ⟨fun h => ?_, nodup_map f l (fun a ha b hb => hf a (List.mem_cons_of_mem _ ha) b (List.mem_cons_of_mem _ hb)) h2⟩
    obtain ⟨y, hy, e⟩ := List.mem_map.1 h
    have := hf y (List.mem_cons_of_mem _ hy) x List.mem_cons_self e
    exact h1 (this ▸ hy)
theorem few_cuts {cuts : List (Int × Int)} (hn : cuts.Nodup) (he : ∀ q ∈ cuts, End8 q.1 ∧ End8 q.2) : cuts.length ≤ 1089 := by
  have h1 : (cuts.map fun q => ((q.1 + 16).toNat * 33 + (q.2 + 16).toNat)).Nodup := by
    refine nodup_map _ _ (fun x hx y hy e => ?_) hn
    obtain ⟨⟨_, a1, a2⟩, ⟨_, a3, a4⟩⟩ := he x hx
    obtain ⟨⟨_, b1, b2⟩, ⟨_, b3, b4⟩⟩ := he y hy
    obtain ⟨x1, x2⟩ := x
    obtain ⟨y1, y2⟩ := y
    simp only at *
    have e1 : x1 = y1 := by omega
    have e2 : x2 = y2 := by omega
    rw [e1, e2]
  have h2 := pigeon 1089 _ h1 (fun x hx => by
    obtain ⟨q, hq, rfl⟩ := List.mem_map.1 hx
    obtain ⟨⟨_, a1, a2⟩, ⟨_, a3, a4⟩⟩ := he q hq
    omega)
  rwa [List.length_map] at h2
theorem filter_length {cuts : List (Int × Int)} (hn : cuts.Nodup) (q : Int × Int) : (cuts.filter (fun x => decide (x ≠ q))).length = if q ∈ cuts then cuts.length - 1 else cuts.length := by
  induction cuts with
  | nil => rfl
  | cons x l ih =>
    obtain ⟨h1, h2⟩ := List.nodup_cons.1 hn
    have h3 := ih h2
    by_cases e : x = q
    · subst e
      rw [List.filter_cons_of_neg (by simp), h3, if_neg h1, if_pos List.mem_cons_self]; rfl
    · rw [List.filter_cons_of_pos (by simpa using e), List.length_cons, h3]
      by_cases hm : q ∈ l
      · rw [if_pos hm, if_pos (List.mem_cons_of_mem _ hm)]
        have := List.length_pos_of_mem hm
        simp only [List.length_cons]; omega
      · rw [if_neg hm, if_neg (by rw [List.mem_cons]; rintro (h | h); exact e h.symm; exact hm h)]; rfl
/-- A post in memory; S: the blocks that it may write. -/
structure PAt (w : World) (g : Nat) (p : P8) (v : Value) (mb : Option Nat) (S : Nat → Prop) : Prop where
  row : w.heap[g]? = some (.cells #[v, .map mb, .int .i64 p.room] tPost (0, 0))
  own : w.ownsRow 0 tLet 3 v p.l.length (lRow p.l)
  map : CutAt w mb p.cuts
  sg : S g
  sv : ∀ b, v.ownBlock = some b → S b
  sm : ∀ b, mb = some b → S b
  lt : ∀ b, S b → b < w.heap.size
  ok : p.Ok
def PostIs (w : World) (g : Nat) (p : P8) (S : Nat → Prop) : Prop := ∃ v mb, PAt w g p v mb S
theorem PAt.keep {w w' : World} {g : Nat} {p : P8} {v : Value} {mb : Option Nat} {S : Nat → Prop} (h : PAt w g p v mb S) (hb : ∀ b, S b → w'.heap[b]? = w.heap[b]?) (hz : w.heap.size ≤ w'.heap.size) : PAt w' g p v mb S :=
  ⟨(hb g h.sg).trans h.row, ownsRow_keep h.own (fun b e => hb b (h.sv b e)), h.map.keep (fun b e => hb b (h.sm b e)), h.sg, h.sv, h.sm, fun b e => Nat.lt_of_lt_of_le (h.lt b e) hz, h.ok⟩
theorem PostIs.keep {w w' : World} {g : Nat} {p : P8} {S : Nat → Prop} (h : PostIs w g p S) (hb : ∀ b, S b → w'.heap[b]? = w.heap[b]?) (hz : w.heap.size ≤ w'.heap.size) : PostIs w' g p S := by
  obtain ⟨v, mb, h⟩ := h
  exact ⟨v, mb, h.keep hb hz⟩
theorem PostIs.below {w w' : World} {g : Nat} {p : P8} {S : Nat → Prop} (h : PostIs w g p S) (hb : Below w.heap.size w w') : PostIs w' g p S := h.keep (fun b hs => hb.block b (by obtain ⟨v, mb, h⟩ := h; exact h.lt b hs)) hb.size
theorem PAt.below {w w' : World} {g : Nat} {p : P8} {v : Value} {mb : Option Nat} {S : Nat → Prop} (h : PAt w g p v mb S) (hb : Below w.heap.size w w') : PAt w' g p v mb S := h.keep (fun b hs => hb.block b (h.lt b hs)) hb.size
theorem PAt.glt {w : World} {g : Nat} {p : P8} {v : Value} {mb : Option Nat} {S : Nat → Prop} (h : PAt w g p v mb S) : g < w.heap.size := row_lt h.row
theorem PAt.cells {w : World} {g : Nat} {p : P8} {v : Value} {mb : Option Nat} {S : Nat → Prop} (h : PAt w g p v mb S) : w.cell? ⟨g, 0, none⟩ = some v ∧ w.cell? ⟨g, 1, none⟩ = some (.map mb) ∧ w.cell? ⟨g, 2, none⟩ = some (.int .i64 p.room) :=
  ⟨by rw [cell_of_row w g 0 _ _ _ h.row]; rfl, by rw [cell_of_row w g 1 _ _ _ h.row]; rfl, by rw [cell_of_row w g 2 _ _ _ h.row]; rfl⟩
theorem tPost_neL : tPost ≠ tLet := by decide
theorem PAt.vg {w : World} {g : Nat} {p : P8} {v : Value} {mb : Option Nat} {S : Nat → Prop} (h : PAt w g p v mb S) : v.ownBlock ≠ some g := fun e => by
  obtain ⟨cur, h3⟩ := ownsRow_type h.own e
  rw [h.row] at h3
  injection h3 with h3
  injection h3 with _ h3
  exact tPost_neL h3
theorem MapIs.obj {w : World} {b n : Nat} {get : Lit → Option Value} (h : MapIs Try.prog tWay w b get n) : ∃ es c, w.heap[b]? = some (.map es c) := by
  obtain ⟨D, ⟨es, clock, hb, _⟩, _⟩ := h
  exact ⟨es, clock, hb⟩
theorem PAt.mg {w : World} {g : Nat} {p : P8} {v : Value} {mb : Option Nat} {S : Nat → Prop} (h : PAt w g p v mb S) : mb ≠ some g := fun e => by
  have hm := h.map
  rw [e] at hm
  obtain ⟨es, c, hb⟩ := MapIs.obj hm
  rw [h.row] at hb
  injection hb with hb
  cases hb
theorem PAt.mv {w : World} {g : Nat} {p : P8} {v : Value} {mb : Option Nat} {S : Nat → Prop} (h : PAt w g p v mb S) {b : Nat} (hb : mb = some b) : v.ownBlock ≠ some b := fun e => by
  have hm := h.map
  rw [hb] at hm
  obtain ⟨es, c, hb⟩ := MapIs.obj hm
  obtain ⟨cur, h3⟩ := ownsRow_type h.own e
  rw [hb] at h3
  cases h3
/-- What a call on a post comes to: the answer, the post behind it. -/
def PStep (val : Value) (g : Nat) (p' : P8) (S : Nat → Prop) (w : World) (e : Ending) (w' : World) : Prop :=
  e = .returned val ∧ ∃ S', PostIs w' g p' S' ∧ (∀ b, S' b → S b ∨ w.heap.size ≤ b) ∧ Kept S w w'
theorem pstep_same {g : Nat} {p : P8} {S : Nat → Prop} {w w' : World} {val : Value} (h : PostIs w g p S) (hb : Below w.heap.size w w') : PStep val g p S w (.returned val) w' := ⟨rfl, S, h.below hb, fun _ hb => .inl hb, Kept.of_below hb⟩
end Go.Proofs.Ytenaecpmmbigdaa.Po
