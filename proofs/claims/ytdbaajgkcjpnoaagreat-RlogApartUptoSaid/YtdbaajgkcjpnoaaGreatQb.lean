/- Package rlog: logs as plain values, what each call comes to, and logs in memory. Nothing here speaks of one function. | Package rlog's New, behind, Base, Last, Term, Fits, Fresh, as contracts of calls. | Package rlog's told and From, as contracts of calls. | Package rlog's From, as a contract of a call. -/
import Derived.Test.YtdbaajgkcjpnoaaGreatQa
import Derived.Test.YtdbaajgkcjpnoaaGreatGP
import Derived.Test.YtdbaajgkcjpnoaaGreatGO
import Derived.Deep.CutBlock
import Derived.Laws.Rows
import Derived.Laws.Tables
import Derived.Laws.StructEq
import Derived.Lib.ConvBytes
import Derived.Deep.RegionLaw
import Derived.Deep.RegionHeld3
import Derived.Laws.CopyRow
import Derived.BigQuiet
import Derived.Deep.QuietTactic
import Derived.Lib.AppendStr
/-! Package rlog: logs as plain values, what each call comes to, and logs in memory. Nothing here speaks of one function. -/
namespace Go.Proofs.YtdbaajgkcjpnoaaGreat.Rg
open Go.RowKit By CoP Co Mo Kd

theorem row_lt {w : World} {g : Nat} {o : Obj} (h : w.heap[g]? = some o) : g < w.heap.size := (Array.getElem?_eq_some_iff.1 h).1
theorem ownsRow_keep {w w' : World} {base : Nat} {e : TypeId} {size n : Nat} {v : Value} {xs : List Value} (h : w.ownsRow base e size v n xs) (hb : ∀ b, v.ownBlock = some b → w'.heap[b]? = w.heap[b]?) : w'.ownsRow base e size v n xs := by
  refine ⟨h.1, ?_⟩
  rcases h.2 with hn | ⟨g, cap, cur, rfl, h1, h2, h3⟩
  · exact .inl hn
  · exact .inr ⟨g, cap, cur, rfl, h1, (hb g rfl).trans h2, h3⟩
theorem ownsRow_base {w : World} {base base' : Nat} {e : TypeId} {size n : Nat} {v : Value} {xs : List Value} (h : w.ownsRow base e size v n xs) (hb : base' ≤ base) : w.ownsRow base' e size v n xs := by
  refine ⟨h.1, ?_⟩
  rcases h.2 with hn | ⟨g, cap, cur, rfl, h1, h2, h3⟩
  · exact .inl hn
  · exact .inr ⟨g, cap, cur, rfl, by omega, h2, h3⟩
theorem ownsRow_lt {w : World} {base : Nat} {e : TypeId} {size n : Nat} {v : Value} {xs : List Value} (h : w.ownsRow base e size v n xs) {b : Nat} (hb : v.ownBlock = some b) : base ≤ b ∧ b < w.heap.size := by
  rcases h.2 with ⟨rfl, _⟩ | ⟨g, cap, cur, rfl, h1, h2, h3⟩
  · cases hb
  · simp only [Value.ownBlock, Option.some.injEq] at hb
    subst hb
    exact ⟨h1, row_lt h2⟩
/-- Gives a value, all memory as it was but for new blocks. -/
def RetB (v : Value) (w : World) (e : Ending) (w' : World) : Prop := e = .returned v ∧ Below w.heap.size w w'
/-- w' is w but for blocks of M, and new ones. -/
structure Kept (M : Nat → Prop) (w w' : World) : Prop where
  os : w'.os = w.os
  tape : w'.tape = w.tape
  output : w'.output = w.output
  size : w.heap.size ≤ w'.heap.size
  block : ∀ b, b < w.heap.size → ¬ M b → w'.heap[b]? = w.heap[b]?
theorem Kept.refl (M : Nat → Prop) (w : World) : Kept M w w := ⟨rfl, rfl, rfl, Nat.le_refl _, fun _ _ _ => rfl⟩
theorem Kept.step {M M1 : Nat → Prop} {w w1 w2 : World} (h : Kept M w w1) (k : Kept M1 w1 w2) (hm : ∀ b, b < w.heap.size → M1 b → M b) : Kept M w w2 :=
  ⟨k.os.trans h.os, k.tape.trans h.tape, k.output.trans h.output, Nat.le_trans h.size k.size, fun b hb hn => (k.block b (Nat.lt_of_lt_of_le hb h.size) (fun e => hn (hm b hb e))).trans (h.block b hb hn)⟩
theorem Kept.trans {M : Nat → Prop} {w w1 w2 : World} (h : Kept M w w1) (k : Kept M w1 w2) : Kept M w w2 := h.step k fun _ _ e => e
theorem Kept.mono {M M' : Nat → Prop} {w w1 : World} (h : Kept M w w1) (hm : ∀ b, b < w.heap.size → M b → M' b) : Kept M' w w1 := ⟨h.os, h.tape, h.output, h.size, fun b hb hn => h.block b hb (fun e => hn (hm b hb e))⟩
theorem Kept.below {M : Nat → Prop} {w w1 : World} (h : Kept M w w1) {B : Nat} (hB : B ≤ w.heap.size) (hm : ∀ b, M b → B ≤ b) : Below B w w1 := ⟨h.os, h.tape, h.output, h.size, fun b hb => h.block b (Nat.lt_of_lt_of_le hb hB) (fun e => Nat.not_lt_of_le (hm b e) hb)⟩
theorem Kept.of_below {M : Nat → Prop} {w w1 : World} (h : Below w.heap.size w w1) : Kept M w w1 := ⟨h.os, h.tape, h.output, h.size, fun b hb _ => h.block b hb⟩
theorem Kept.alloc {M : Nat → Prop} {w w1 : World} (h : Kept M w w1) (o : Obj) : Kept M w (w1.alloc o) := h.step (M1 := M) (Kept.of_below ((Below.refl _ _).alloc (Nat.le_refl _) o)) (fun _ _ e => e)
theorem Kept.setCell {M : Nat → Prop} {w w1 : World} (h : Kept M w w1) {p : Addr} (hp : p.block < w.heap.size → M p.block) (u : Value) : Kept M w (w1.setCell p u) :=
  h.step (M1 := fun b => b = p.block) ⟨rfl, rfl, rfl, by simp [World.setCell], fun b _ hn => Below.heap_setCell w1 p u b hn⟩ (fun b hb e => by subst e; exact hp hb)
theorem Kept.setRow {M : Nat → Prop} {w w1 : World} (h : Kept M w w1) {g : Nat} (hp : g < w.heap.size → M g) (cs : Array Value) : Kept M w (w1.setRow g cs) :=
  h.step (M1 := fun b => b = g) ⟨rfl, rfl, rfl, by simp [World.setRow], fun b _ hn => setRow_other w1 g b cs hn⟩ (fun b hb e => by subst e; exact hp hb)

theorem ownsRow_form {w : World} {base : Nat} {e : TypeId} {size n : Nat} {v : Value} {xs : List Value} (h : w.ownsRow base e size v n xs) : ∃ A c, v = .slice A n c := by
  rcases h.2 with ⟨rfl, rfl⟩ | ⟨g, cap, cur, rfl, _⟩
  · exact ⟨none, 0, rfl⟩
  · exact ⟨_, _, rfl⟩
theorem ownsRow_type {w : World} {base : Nat} {e : TypeId} {size n : Nat} {v : Value} {xs : List Value} (h : w.ownsRow base e size v n xs) {b : Nat} (hb : v.ownBlock = some b) : ∃ cur, w.heap[b]? = some (.cells cur e (0, 0)) := by
  rcases h.2 with ⟨rfl, _⟩ | ⟨g, cap, cur, rfl, h1, h2, h3⟩
  · cases hb
  · simp only [Value.ownBlock, Option.some.injEq] at hb
    subst hb
    exact ⟨cur, h2⟩
/-- Appending to a row of the call's own, and where the row is then. -/
theorem run_appG {tes te : TypeId} {z : Value} {sz by_ : Nat} (ht : Tryz.prog.underlying tes = some (.slice te)) (hinfo : (Tryz.prog.info? te).map (fun i => (i.zero, i.size, i.bytes)) = some (some z, sz, by_)) (hzs : z.cells.size = sz) (hsz : 0 < sz)
    (w : World) (ty : TypeId) (base : Nat) (v : Value) (n : Nat) (xs : List Value) (hown : w.ownsRow base te sz v n xs) (ad : Option Addr) (m c : Nat) (news : List Value) (hl : news.length = m * sz)
    (hnews : 0 < m → ∃ a, ad = some a ∧ ∀ j u, news[j]? = some u → w.cell? (a.add j) = some u) (h1 : ∀ u ∈ news, u.oneCell' = true)
    (hn : (n + m) * by_ ≤ 140737488355328) (hn2 : n + m ≤ 140737488355328) (hbase : base ≤ w.heap.size) : ∃ v' w', (Builtin.append_ #[tes, tes] ty #[v, .slice ad m c]).run Tryz.prog w = .ok v' w' ∧ w'.ownsRow base te sz v' (n + m) (xs ++ news) ∧ w.grownBy w' v.ownBlock ∧ ∀ b, v'.ownBlock = some b → v.ownBlock = some b ∨ w.heap.size ≤ b := by
  obtain ⟨i0, hi, hz0, hz1, hz2⟩ := info_parts hinfo
  rcases ad with _ | ad
  · have hm0 : m = 0 := by
      rcases Nat.eq_zero_or_pos m with h | h
      · exact h
      · obtain ⟨a, e, _⟩ := hnews h
        cases e
    subst hm0
    obtain rfl : news = [] := List.eq_nil_of_length_eq_zero (by rw [hl, Nat.zero_mul])
    exact ⟨v, w, run_append_none w base _ ty _ i0 sz ht hi v _ _ hown c, by simpa using hown, ⟨rfl, rfl, rfl, Nat.le_refl _, fun _ _ _ => rfl⟩, fun b hb => .inl hb⟩
  · have hcells : ∀ j u, news[j]? = some u → w.cell? (ad.add j) = some u := by
      intro j u hu
      have hjl := (List.getElem?_eq_some_iff.1 hu).1
      have hm : 0 < m := by
        rcases Nat.eq_zero_or_pos m with h | h
        · rw [hl, h, Nat.zero_mul] at hjl; omega
        · exact h
      obtain ⟨a, e, h⟩ := hnews hm
      have e := Option.some.inj e
      rw [e]
      exact h j u hu
    rcases hown.2 with ⟨rfl, rfl⟩ | ⟨g, cap, cur, rfl, hbg, hg, hnc, hcm, hcs, htake⟩
    · have hxs : xs = [] := List.eq_nil_of_length_eq_zero (by simpa using hown.1)
      subst hxs
      obtain ⟨v', w', hrun, h2, h3, _⟩ := run_append_own (P := Tryz.prog) w w.heap.size tes ty te i0 _ sz by_ ht hi hz0 hz1 hz2 hzs hsz (.slice none 0 0) 0 [] (World.ownsRow_nil w _ _ sz) ad m c news hl hcells h1 (by unfold maxLen; omega) hn (Nat.le_refl _)
      exact ⟨v', w', hrun, ownsRow_base h2 hbase, h3, fun b hb => .inr (ownsRow_lt h2 hb).1⟩
    · by_cases hroom : n + m ≤ cap
      · obtain ⟨w', hrun, h2, h3⟩ := run_append_fits (P := Tryz.prog) w base tes ty te i0 sz ht hi hz1 g n cap xs hown ad m c news hl hcells h1 hroom
        exact ⟨_, w', hrun, h2, h3, fun b hb => .inl hb⟩
      · obtain ⟨v', w', hrun, h2, h3⟩ := run_append_arg_grows (P := Tryz.prog) w tes ty te i0 _ sz by_ ht hi hz0 hz1 hz2 hzs hsz ⟨g, 0, none⟩ n cap xs hown.1
          (fun j u hj => by
            rw [plainAdd, Nat.zero_add, cell_of_row w g j _ _ _ hg]
            rw [← htake, List.getElem?_take] at hj
            split at hj
            · simpa using hj
            · cases hj) ad m c news hl hcells (by omega) (by unfold maxLen; omega) hn
        exact ⟨v', w', hrun, ownsRow_base h2 hbase, h3.but _, fun b hb => .inr (ownsRow_lt h2 hb).1⟩
theorem step_appG {tes te : TypeId} {z : Value} {sz by_ : Nat} (ht : Tryz.prog.underlying tes = some (.slice te)) (hinfo : (Tryz.prog.info? te).map (fun i => (i.zero, i.size, i.bytes)) = some (some z, sz, by_)) (hzs : z.cells.size = sz) (hsz : 0 < sz) (hby : by_ ≤ 64)
    {ops : Array Oper} {o : Oper} {a : Act} {w : World} {K : Act → World → Prop} {Q : Exit → Act → World → Prop} {E : Prop} (hgd : o.guard = none) (s x : Operand) (hop : o.op = .call { callee := .builtin .append, args := #[s, x], argTypes := #[tes, tes] })
    (base : Nat) (v : Value) (n : Nat) (xs : List Value) (hs : a.eval s = v) (hown : w.ownsRow base te sz v n xs) (ad : Option Addr) (m c : Nat) (hx : a.eval x = .slice ad m c) (news : List Value) (hl : news.length = m * sz)
    (hnews : 0 < m → ∃ a, ad = some a ∧ ∀ j u, news[j]? = some u → w.cell? (a.add j) = some u) (h1 : ∀ u ∈ news, u.oneCell' = true)
    (hn : n + m ≤ 1073741824) (hbase : base ≤ w.heap.size)
    (hK : ∀ v' w', w'.ownsRow base te sz v' (n + m) (xs ++ news) → w.grownBy w' v.ownBlock → (∀ b, v'.ownBlock = some b → v.ownBlock = some b ∨ w.heap.size ≤ b) → K (a.put o.dst v') w') : if Region.wanted o (yielded ops a.tmps) = true then Oper.wp Tryz.prog o a w K Q else E := by
  have hw : Region.wanted o (yielded ops a.tmps) = true := by simp [Region.wanted, hgd]
  rw [if_pos hw]
  obtain ⟨v', w', hrun, h2, h3, h4⟩ := run_appG ht hinfo hzs hsz w o.type base v n xs hown ad m c news hl hnews h1 (Nat.le_trans (Nat.mul_le_mul hn hby) (by decide)) (by omega) hbase
  exact wp_app_run s x _ hop hs hx hrun (hK v' w' h2 h3 h4)
theorem wpList_appG {tes te : TypeId} {z : Value} {sz by_ : Nat} (ht : Tryz.prog.underlying tes = some (.slice te)) (hinfo : (Tryz.prog.info? te).map (fun i => (i.zero, i.size, i.bytes)) = some (some z, sz, by_)) (hzs : z.cells.size = sz) (hsz : 0 < sz) (hby : by_ ≤ 64)
    {ops : Array Oper} {rest : List Oper} {o : Oper} {a : Act} {Q : Exit → Act → World → Prop} {w : World} (hgd : o.guard = none) (s x : Operand) (hop : o.op = .call { callee := .builtin .append, args := #[s, x], argTypes := #[tes, tes] })
    (base : Nat) (v : Value) (n : Nat) (xs : List Value) (hs : a.eval s = v) (hown : w.ownsRow base te sz v n xs) (ad : Option Addr) (m c : Nat) (hx : a.eval x = .slice ad m c) (news : List Value) (hl : news.length = m * sz)
    (hnews : 0 < m → ∃ a, ad = some a ∧ ∀ j u, news[j]? = some u → w.cell? (a.add j) = some u) (h1 : ∀ u ∈ news, u.oneCell' = true)
    (hn : n + m ≤ 1073741824) (hbase : base ≤ w.heap.size)
    (h : ∀ v' w', w'.ownsRow base te sz v' (n + m) (xs ++ news) → w.grownBy w' v.ownBlock → (∀ b, v'.ownBlock = some b → v.ownBlock = some b ∨ w.heap.size ≤ b) → wpList Tryz.prog ops Q rest (a.put o.dst v') w') : wpList Tryz.prog ops Q (o :: rest) a w :=
  wpList_plain hgd fun K hK => by
    obtain ⟨v', w', hrun, h2, h3, h4⟩ := run_appG ht hinfo hzs hsz w o.type base v n xs hown ad m c news hl hnews h1 (Nat.le_trans (Nat.mul_le_mul hn hby) (by decide)) (by omega) hbase
    exact wp_app_run s x _ hop hs hx hrun (hK _ _ (h v' w' h2 h3 h4))

theorem ownsRow_take {w : World} {base : Nat} {e : TypeId} {sz n m cap : Nat} {g : Nat} {xs : List Value} (h : w.ownsRow base e sz (.slice (some ⟨g, 0, none⟩) n cap) n xs) (hm : m ≤ n) : w.ownsRow base e sz (.slice (some ⟨g, 0, none⟩) m cap) m (xs.take (m * sz)) := by
  have hms : m * sz ≤ n * sz := Nat.mul_le_mul_right _ hm
  refine ⟨by rw [List.length_take, h.1]; omega, ?_⟩
  rcases h.2 with ⟨h1, h2⟩ | ⟨q, cap', cur, hv, hb, hg, hn, hc, hs, ht⟩
  · cases h1
  · injection hv with e1 e2 e3
    subst e3
    refine .inr ⟨q, cap, cur, by rw [e1], hb, hg, by omega, hc, hs, ?_⟩
    rw [← ht, List.take_take]
    congr 1
    omega
theorem step_fits {tes te : TypeId} {z : Value} {sz by_ : Nat} (ht : Tryz.prog.underlying tes = some (.slice te)) (hinfo : (Tryz.prog.info? te).map (fun i => (i.zero, i.size, i.bytes)) = some (some z, sz, by_))
    {ops : Array Oper} {o : Oper} {a : Act} {w : World} {K : Act → World → Prop} {Q : Exit → Act → World → Prop} {E : Prop} (hgd : o.guard = none) (s x : Operand) (hop : o.op = .call { callee := .builtin .append, args := #[s, x], argTypes := #[tes, tes] })
    (base g n cap : Nat) (xs : List Value) (hs : a.eval s = .slice (some ⟨g, 0, none⟩) n cap) (hown : w.ownsRow base te sz (.slice (some ⟨g, 0, none⟩) n cap) n xs) (ad : Addr) (m c : Nat) (hx : a.eval x = .slice (some ad) m c) (news : List Value) (hl : news.length = m * sz)
    (hnews : ∀ j u, news[j]? = some u → w.cell? (ad.add j) = some u) (h1 : ∀ u ∈ news, u.oneCell' = true)
    (hroom : n + m ≤ cap) (nm : Nat) (hnm : nm = n + m)
    (hK : ∀ w', w'.ownsRow base te sz (.slice (some ⟨g, 0, none⟩) nm cap) nm (xs ++ news) → w.grownBy w' (some g) → K (a.put o.dst (.slice (some ⟨g, 0, none⟩) nm cap)) w') : if Region.wanted o (yielded ops a.tmps) = true then Oper.wp Tryz.prog o a w K Q else E := by
  have hw : Region.wanted o (yielded ops a.tmps) = true := by simp [Region.wanted, hgd]
  rw [if_pos hw]
  subst hnm
  obtain ⟨i0, hi, hz0, hz1, hz2⟩ := info_parts hinfo
  obtain ⟨w', hrun, h2, h3⟩ := run_append_fits (P := Tryz.prog) w base tes o.type te i0 sz ht hi hz1 g n cap xs hown ad m c news hl hnews h1 hroom
  exact wp_app_run s x _ hop hs hx hrun (hK w' h2 h3)
theorem grown_below {w w1 : World} {r : Option Nat} (h : w.grownBy w1 r) {B : Nat} (hB : B ≤ w.heap.size) (hr : ∀ q, r = some q → B ≤ q) : Below B w w1 :=
  ⟨h.os, h.tape, h.output, h.size, fun b hb => h.block b (by omega) (fun e => by have := hr b e.symm; omega)⟩

theorem wanted_of {o : Oper} (hgd : o.guard = none) {ops : Array Oper} {a : Act} : Region.wanted o (yielded ops a.tmps) = true := by simp [Region.wanted, hgd]
theorem step_store_row {P : Program} {ops : Array Oper} {o : Oper} {a : Act} {w : World} {K : Act → World → Prop} {Q : Exit → Act → World → Prop} {E : Prop} (hgd : o.guard = none) (ty : TypeId) (x y : Operand) (ho : o.op = .store ty x y)
    (g : Nat) (cells : Array Value) (hx : a.eval x = .pointer (some ⟨g, 0, none⟩)) (hy : a.eval y = .agg cells)
    (t : TypeId) (old : Array Value) (hg : w.heap[g]? = some (.cells old t (0, 0))) (hi : (P.info? ty).map (·.size) = some cells.size)
    (hold : old.size = cells.size) (h1 : cells.all (·.oneCell') = true)
    (h : K (a.put o.dst undef) (w.setRow g cells)) : if Region.wanted o (yielded ops a.tmps) = true then Oper.wp P o a w K Q else E := by
  rw [if_pos (wanted_of hgd)]
  exact wp_store_row ty x y ho g cells hx hy t old hg hi hold h1 h

/-- Five cells stored one after the other. -/
def set5 (w : World) (g : Nat) (a b c d e : Value) : World := ((((w.setCell ⟨g, 0, none⟩ a).setCell ⟨g, 1, none⟩ b).setCell ⟨g, 2, none⟩ c).setCell ⟨g, 3, none⟩ d).setCell ⟨g, 4, none⟩ e
theorem set5_row {w : World} {g : Nat} {x0 x1 x2 x3 x4 : Value} {t : TypeId} (h : w.heap[g]? = some (.cells #[x0, x1, x2, x3, x4] t (0, 0))) (a b c d e : Value) : (set5 w g a b c d e).heap[g]? = some (.cells #[a, b, c, d, e] t (0, 0)) := by
  unfold set5
  obtain ⟨w1, e1⟩ : ∃ w1, w1 = w.setCell ⟨g, 0, none⟩ a := ⟨_, rfl⟩
  have h1 : w1.heap[g]? = some (.cells #[a, x1, x2, x3, x4] t (0, 0)) := by rw [e1]; exact heap_setCell_same w g 0 _ _ _ h
  rw [← e1]
  obtain ⟨w2, e2⟩ : ∃ w2, w2 = w1.setCell ⟨g, 1, none⟩ b := ⟨_, rfl⟩
  have h2 : w2.heap[g]? = some (.cells #[a, b, x2, x3, x4] t (0, 0)) := by rw [e2]; exact heap_setCell_same w1 g 1 _ _ _ h1
  rw [← e2]
  obtain ⟨w3, e3⟩ : ∃ w3, w3 = w2.setCell ⟨g, 2, none⟩ c := ⟨_, rfl⟩
  have h3 : w3.heap[g]? = some (.cells #[a, b, c, x3, x4] t (0, 0)) := by rw [e3]; exact heap_setCell_same w2 g 2 _ _ _ h2
  rw [← e3]
  obtain ⟨w4, e4⟩ : ∃ w4, w4 = w3.setCell ⟨g, 3, none⟩ d := ⟨_, rfl⟩
  have h4 : w4.heap[g]? = some (.cells #[a, b, c, d, x4] t (0, 0)) := by rw [e4]; exact heap_setCell_same w3 g 3 _ _ _ h3
  rw [← e4]
  exact heap_setCell_same w4 g 4 _ _ _ h4
theorem set5_other (w : World) (g : Nat) (a b c d e : Value) (q : Nat) (hq : q ≠ g) : (set5 w g a b c d e).heap[q]? = w.heap[q]? := by
  unfold set5
  rw [Below.heap_setCell _ _ _ _ hq, Below.heap_setCell _ _ _ _ hq, Below.heap_setCell _ _ _ _ hq, Below.heap_setCell _ _ _ _ hq, Below.heap_setCell _ _ _ _ hq]
theorem set5_size (w : World) (g : Nat) (a b c d e : Value) : (set5 w g a b c d e).heap.size = w.heap.size := by simp [set5, World.setCell]
theorem set5_below {B : Nat} {w0 w : World} (h : Below B w0 w) {g : Nat} (hg : B ≤ g) (a b c d e : Value) : Below B w0 (set5 w g a b c d e) :=
  ((((h.setCell (p := ⟨g, 0, none⟩) hg a).setCell (p := ⟨g, 1, none⟩) hg b).setCell (p := ⟨g, 2, none⟩) hg c).setCell (p := ⟨g, 3, none⟩) hg d).setCell (p := ⟨g, 4, none⟩) hg e

theorem wrap_u {x : Int} (h0 : 0 ≤ x) (h1 : x < 18446744073709551616) : IntKind.u64.wrap x = x := by simp [IntKind.wrap, IntKind.bits, IntKind.signed]; omega

abbrev tLog : TypeId := 67
abbrev tEnt : TypeId := 70
abbrev tEnts : TypeId := 65
abbrev tApi : TypeId := 39
abbrev tApis : TypeId := 29
abbrev tRef : TypeId := 51
theorem entInfo : (Tryz.prog.info? tEnt).map (fun i => (i.zero, i.size, i.bytes)) = some (some (.agg #[.int .u64 0, .int .i64 0, .int .i64 0, .string ⟨#[]⟩]), 4, 40) := by kernel_rfl
theorem apiInfo : (Tryz.prog.info? tApi).map (fun i => (i.zero, i.size, i.bytes)) = some (some (.agg #[.int .u64 0, .int .u64 0, .int .i64 0, .int .i64 0, .slice none 0 0]), 5, 56) := by kernel_rfl
theorem logTest (w : World) (a : Option Addr) : (binOp .eql 24 (.pointer a) (.pointer none)).run Tryz.prog w = .ok (.bool a.isNone) w := by
  cases a with
  | none => kernel_rfl
  | some a => kernel_rfl
/-- An entry's cells in the log. -/
def eC (x : En) : List Value := [.int .u64 (x.tm : Int), .int .i64 x.kd, .int .i64 x.dl, .string (str x.da)]
def eRow (l : List En) : List Value := l.flatMap eC
theorem eRow_length (l : List En) : (eRow l).length = l.length * 4 := by
  induction l with
  | nil => rfl
  | cons x l ih =>
    show (eC x ++ eRow l).length = _
    rw [List.length_append, ih, List.length_cons, show (eC x).length = 4 from rfl]; omega
theorem eRow_one (l : List En) : ∀ u ∈ eRow l, u.oneCell' = true := by
  intro u hu
  obtain ⟨x, _, hx⟩ := List.mem_flatMap.1 hu
  simp only [eC, List.mem_cons, List.not_mem_nil, or_false] at hx
  rcases hx with rfl | rfl | rfl | rfl <;> rfl
theorem eRow_at {l : List En} {k : Nat} {x : En} (h : l[k]? = some x) : (eRow l)[k * 4]? = some (.int .u64 (x.tm : Int)) ∧ (eRow l)[k * 4 + 1]? = some (.int .i64 x.kd) ∧ (eRow l)[k * 4 + 2]? = some (.int .i64 x.dl) ∧ (eRow l)[k * 4 + 3]? = some (.string (str x.da)) := by
  induction l generalizing k with
  | nil => cases h
  | cons y l ih =>
    cases k with
    | zero =>
      simp only [List.getElem?_cons_zero, Option.some.injEq] at h
      subst h
      exact ⟨rfl, rfl, rfl, rfl⟩
    | succ k =>
      have h2 := ih (k := k) (by simpa using h)
      rw [show (k + 1) * 4 = k * 4 + 4 by omega]
      exact h2
theorem eRow_app (l m : List En) : eRow (l ++ m) = eRow l ++ eRow m := by simp [eRow]
theorem eRow_take (l : List En) : ∀ k, k ≤ l.length → eRow (l.take k) = (eRow l).take (k * 4) := by
  induction l with
  | nil => intro k hk; simp [eRow]
  | cons x l ih =>
    intro k hk
    cases k with
    | zero => simp [eRow]
    | succ k =>
      rw [List.take_succ_cons]
      show eC x ++ eRow (l.take k) = (eC x ++ eRow l).take ((k + 1) * 4)
      rw [ih k (by simpa using hk), show (k + 1) * 4 = (eC x).length + k * 4 by show _ = 4 + _; omega, List.take_length_add_append]
theorem eRow_drop (l : List En) : ∀ k, k ≤ l.length → eRow (l.drop k) = (eRow l).drop (k * 4) := by
  induction l with
  | nil => intro k hk; simp [eRow]
  | cons x l ih =>
    intro k hk
    cases k with
    | zero => simp
    | succ k =>
      rw [List.drop_succ_cons]
      show _ = (eC x ++ eRow l).drop ((k + 1) * 4)
      rw [ih k (by simpa using hk), show (k + 1) * 4 = (eC x).length + k * 4 by show _ = 4 + _; omega, List.drop_length_add_append]

/-! What each call comes to. -/
def eD (e : En) : Data := entryD e.ix e.tm e.kd e.dl e.da
def eB (e : En) : Bool := entryB e.ix e.tm e.kd e.dl e.da
structure EnOk (e : En) : Prop where
  ix : 1 ≤ e.ix ∧ e.ix ≤ 4611686018427387904
  tm : 1 ≤ e.tm ∧ e.tm ≤ 4611686018427387904
  kd : 1 ≤ e.kd ∧ e.kd ≤ 3
  dl : 0 ≤ e.dl ∧ e.dl ≤ 1099511627776
  da : e.da.length ≤ 4096
theorem eB_ok {e : En} (h : eB e = true) : EnOk e := by
  unfold eB entryB at h
  simp only [Bool.and_eq_true, decide_eq_true_eq] at h
  obtain ⟨⟨⟨⟨⟨⟨⟨h1, h2⟩, h3⟩, h4⟩, h5⟩, h6⟩, h7⟩, h8⟩ := h
  refine ⟨⟨h1, h2⟩, ⟨h3, h4⟩, ?_, ⟨h5, h6⟩, h7⟩
  by_cases k1 : e.kd = 1
  · omega
  · rw [if_neg k1] at h8
    by_cases k3 : e.kd = 3
    · omega
    · rw [if_neg k3, decide_eq_true_eq] at h8
      omega
/-- A log that may be. -/
structure Ok (s : Lg) : Prop where
  inv : Inv s
  ix : s.ix ≤ 4611686018427387904
  tm : s.tm ≤ 4611686018427387904
  ents : ∀ e ∈ s.es, eB e = true
theorem Ok.at_ {s : Lg} (h : Ok s) {k : Nat} {e : En} (hk : s.es[k]? = some e) : e.ix = s.ix + 1 + k ∧ s.tm ≤ e.tm ∧ EnOk e :=
  ⟨chain_at h.inv hk, chain_term h.inv e (List.mem_of_getElem? hk), eB_ok (h.ents e (List.mem_of_getElem? hk))⟩
theorem Ok.end_ {s : Lg} (h : Ok s) : s.ix + s.es.length ≤ 4611686018427387904 := by
  have h0 := h.ix
  rcases Nat.eq_zero_or_pos s.es.length with h1 | h1
  · omega
  · have hk : s.es.length - 1 < s.es.length := by omega
    obtain ⟨h2, _, h3⟩ := h.at_ (List.getElem?_eq_getElem hk)
    have := h3.ix.2
    omega
/-- The place so many behind the base, and its term. -/
def behindL (s : Lg) (n : Nat) : Nat × Nat := match n with | 0 => (s.ix, s.tm) | k + 1 => (s.ix + (k + 1), (s.es[k]?.map (·.tm)).getD 0)
/-- A place's term, and an error's number. -/
def termR (s : Lg) (i : Nat) : Nat × Int := if i < s.ix then (0, 13) else if s.ix + s.es.length < i then (0, 8) else ((behindL s (i - s.ix)).2, 0)
theorem behind_last {s : Lg} (h : Inv s) : lastL s = behindL s s.es.length := by
  have h1 := last_eq h
  unfold lastL behindL at *
  cases hl : s.es.getLast? with
  | none =>
    have h0 : s.es = [] := by simpa using hl
    rw [h0]; rfl
  | some e =>
    rw [hl] at h1
    dsimp only at h1
    obtain ⟨k, hk⟩ : ∃ k, s.es.length = k + 1 := ⟨s.es.length - 1, by
      rcases Nat.eq_zero_or_pos s.es.length with h0 | h0
      · rw [List.length_eq_zero_iff.1 h0] at hl; cases hl
      · omega⟩
    rw [List.getLast?_eq_getElem?, hk, Nat.add_sub_cancel] at hl
    rw [hk]
    dsimp only
    rw [hl]
    simp [h1.1, hk]
theorem fits_term {s : Lg} (h : Inv s) (i t : Nat) : fits s i t = (decide ((termR s i).2 = 0) && decide ((termR s i).1 = t)) := by
  rw [Bool.eq_iff_iff, fits_iff h, Bool.and_eq_true, decide_eq_true_iff, decide_eq_true_iff]
  unfold termR
  by_cases h1 : i < s.ix
  · rw [if_pos h1]
    constructor
    · rintro (⟨h2, _⟩ | ⟨h2, _⟩) <;> omega
    · rintro ⟨h2, _⟩; exact absurd h2 (by decide)
  · rw [if_neg h1]
    by_cases h2 : s.ix + s.es.length < i
    · rw [if_pos h2]
      constructor
      · rintro (⟨h3, _⟩ | ⟨_, e, h3, _⟩)
        · omega
        · have := (List.getElem?_eq_some_iff.1 h3).1; omega
      · rintro ⟨h3, _⟩; exact absurd h3 (by decide)
    · rw [if_neg h2]
      by_cases h3 : i = s.ix
      · subst h3
        rw [Nat.sub_self]
        constructor
        · rintro (⟨_, h4⟩ | ⟨h4, _⟩)
          · exact ⟨rfl, h4.symm⟩
          · omega
        · rintro ⟨_, h4⟩; exact .inl ⟨rfl, h4.symm⟩
      · obtain ⟨k, hk⟩ : ∃ k, i - s.ix = k + 1 := ⟨i - s.ix - 1, by omega⟩
        have hkl : k < s.es.length := by omega
        rw [hk, show i - (s.ix + 1) = k by omega]
        simp only [behindL, List.getElem?_eq_getElem hkl, Option.map_some, Option.getD_some]
        constructor
        · rintro (⟨h4, _⟩ | ⟨_, e, h4, h5⟩)
          · exact absurd h4 h3
          · injection h4 with h4
            rw [h4]; exact ⟨trivial, h5⟩
        · rintro ⟨_, h5⟩; exact .inr ⟨by omega, _, rfl, h5⟩
/-- May this list follow? -/
def okL : Nat → Nat → List En → Bool
  | _, _, [] => true
  | i, t, e :: r => (eB e && decide (e.ix = i + 1)) && (decide (t ≤ e.tm) && okL e.ix e.tm r)
theorem okL_chain : ∀ {l : List En} {i t : Nat}, okL i t l = true → chain i t l ∧ ∀ e ∈ l, eB e = true
  | [], _, _, _ => ⟨trivial, fun e he => absurd he List.not_mem_nil⟩
  | e :: r, i, t, h => by
    simp only [okL, Bool.and_eq_true, decide_eq_true_eq] at h
    obtain ⟨⟨h1, h2⟩, h3, h4⟩ := h
    obtain ⟨h5, h6⟩ := okL_chain h4
    refine ⟨⟨h2, h3, h5⟩, fun x hx => ?_⟩
    rcases List.mem_cons.1 hx with rfl | hx
    · exact h1
    · exact h6 x hx
/-- What an append answers, and the log behind it. -/
def appA (s : Lg) (i t : Nat) (l : List En) : Nat × Nat × Int := if okL i t l = true then (if fits s i t = true then (i + l.length, fromA s l, 0) else (0, 0, 12)) else (0, 0, 2)
def appS (s : Lg) (i t : Nat) (l : List En) : Lg := if okL i t l = true ∧ fits s i t = true then appendL s l else s
def shrS (s : Lg) (i : Nat) : Lg := if (termR s i).2 = 0 then shrinkL s i (termR s i).1 else s
def fromR (s : Lg) (i : Nat) (most : Int) : List En × Int := if i ≤ s.ix then ([], 13) else if s.ix + s.es.length + 1 < i then ([], 8) else if most < 0 then ([], 1) else ((s.es.drop (i - (s.ix + 1))).take most.toNat, 0)
theorem fits_bound {s : Lg} (h : Ok s) {i t : Nat} (hf : fits s i t = true) : i ≤ 4611686018427387904 ∧ t ≤ 4611686018427387904 := by
  rcases (fits_iff h.inv).1 hf with ⟨rfl, rfl⟩ | ⟨h1, e, h2, rfl⟩
  · exact ⟨h.ix, h.tm⟩
  · obtain ⟨h3, _, h4⟩ := h.at_ h2
    have h5 := h4.ix.2
    exact ⟨by omega, h4.tm.2⟩
theorem new_mem {s : Lg} {l : List En} {e : En} (h : e ∈ newOnes s l) : e ∈ l := by
  obtain ⟨pre, hl, _⟩ := new_split s l
  rw [hl]
  exact List.mem_append_right _ h
theorem Ok.append {s : Lg} (h : Ok s) {i t : Nat} {l : List En} (ho : okL i t l = true) (hf : fits s i t = true) : Ok (appendL s l) := by
  obtain ⟨hc, hl⟩ := okL_chain ho
  cases hn : newOnes s l with
  | nil => rw [appendL_none hn]; exact h
  | cons e r =>
    obtain ⟨p, pre, ha⟩ := app_of h.inv hf hc hn
    refine ⟨ha.inv, by rw [ha.ix]; exact h.ix, by rw [ha.tm]; exact h.tm, fun x hx => ?_⟩
    rw [ha.es] at hx
    rcases List.mem_append.1 hx with hx | hx
    · exact h.ents x (List.mem_of_mem_take hx)
    · exact hl x (new_mem (s := s) (by rw [hn]; exact hx))
theorem Ok.appS {s : Lg} (h : Ok s) (i t : Nat) (l : List En) : Ok (appS s i t l) := by
  unfold Rg.appS
  split
  · next hh => exact h.append hh.1 hh.2
  · exact h
theorem appendL_len {s : Lg} (l : List En) : (appendL s l).es.length ≤ s.es.length + l.length := by
  unfold appendL
  cases hn : newOnes s l with
  | nil => exact Nat.le_add_right _ _
  | cons e r =>
    dsimp only
    rw [List.length_append]
    have h1 := List.length_filter_le (fun x : En => decide (x.ix < e.ix)) s.es
    have h2 : (newOnes s l).length ≤ l.length := (List.dropWhile_sublist _).length_le
    rw [hn] at h2
    omega
theorem appS_len (s : Lg) (i t : Nat) (l : List En) : (Rg.appS s i t l).es.length ≤ s.es.length + l.length := by
  unfold Rg.appS
  split
  · exact appendL_len l
  · omega
theorem fits_of_term {s : Lg} (h : Inv s) {i : Nat} (ht : (termR s i).2 = 0) : fits s i (termR s i).1 = true := by
  rw [fits_term h, decide_eq_true ht, decide_eq_true rfl]; rfl
theorem Ok.shr {s : Lg} (h : Ok s) (i : Nat) : Ok (shrS s i) := by
  unfold shrS
  by_cases ht : (termR s i).2 = 0
  · rw [if_pos ht]
    have hf := fits_of_term h.inv ht
    have hb := fits_bound h hf
    refine ⟨inv_shrink h.inv hf, hb.1, hb.2, fun x hx => ?_⟩
    exact h.ents x ((List.mem_filter.1 hx).1)
  · rw [if_neg ht]; exact h
theorem shr_len (s : Lg) (i : Nat) : (shrS s i).es.length ≤ s.es.length := by
  unfold shrS
  split
  · exact List.length_filter_le _ _
  · exact Nat.le_refl _
theorem appS_ix (s : Lg) (i t : Nat) (l : List En) : (Rg.appS s i t l).ix = s.ix ∧ (Rg.appS s i t l).tm = s.tm := by
  unfold Rg.appS
  split
  · unfold appendL; split <;> exact ⟨rfl, rfl⟩
  · exact ⟨rfl, rfl⟩

/-! The log in memory. -/
structure LogIs (w : World) (g : Nat) (s : Lg) (v : Value) (S : Nat → Prop) : Prop where
  row : w.heap[g]? = some (.cells #[.int .u64 (s.ix : Int), .int .u64 (s.tm : Int), v] tLog (0, 0))
  own : w.ownsRow 0 tEnt 4 v s.es.length (eRow s.es)
  ing : S g
  inv : ∀ b, v.ownBlock = some b → S b ∧ b ≠ g
  lt : ∀ b, S b → b < w.heap.size
  ok : Ok s
theorem LogIs.keep {w w' : World} {g : Nat} {s : Lg} {v : Value} {S : Nat → Prop} (h : LogIs w g s v S) (hz : w.heap.size ≤ w'.heap.size) (hb : ∀ b, S b → w'.heap[b]? = w.heap[b]?) : LogIs w' g s v S :=
  ⟨(hb g h.ing).trans h.row, ownsRow_keep h.own (fun b e => hb b (h.inv b e).1), h.ing, h.inv, fun b e => Nat.lt_of_lt_of_le (h.lt b e) hz, h.ok⟩
theorem LogIs.below {w w' : World} {g : Nat} {s : Lg} {v : Value} {S : Nat → Prop} (h : LogIs w g s v S) (hb : Below w.heap.size w w') : LogIs w' g s v S :=
  h.keep hb.size (fun b e => hb.block b (h.lt b e))
theorem LogIs.cells {w : World} {g : Nat} {s : Lg} {v : Value} {S : Nat → Prop} (h : LogIs w g s v S) : w.cell? ⟨g, 0, none⟩ = some (.int .u64 (s.ix : Int)) ∧ w.cell? ⟨g, 1, none⟩ = some (.int .u64 (s.tm : Int)) ∧ w.cell? ⟨g, 2, none⟩ = some v := by
  refine ⟨?_, ?_, ?_⟩ <;> (rw [cell_of_row w g _ _ _ _ h.row]; rfl)
theorem LogIs.ent {w : World} {g : Nat} {s : Lg} {v : Value} {S : Nat → Prop} (h : LogIs w g s v S) {k : Nat} {e : En} (hk : s.es[k]? = some e) : ∃ b c, v = .slice (some ⟨b, 0, none⟩) s.es.length c ∧ s.es.length ≤ c ∧ b < w.heap.size ∧
    w.cell? ⟨b, k * 4, none⟩ = some (.int .u64 (e.tm : Int)) ∧ w.cell? ⟨b, k * 4 + 1, none⟩ = some (.int .i64 e.kd) ∧ w.cell? ⟨b, k * 4 + 2, none⟩ = some (.int .i64 e.dl) ∧ w.cell? ⟨b, k * 4 + 3, none⟩ = some (.string (str e.da)) := by
  have hlt := (List.getElem?_eq_some_iff.1 hk).1
  obtain ⟨h0, h1, h2, h3⟩ := eRow_at hk
  have ho := h.own
  rcases ho.2 with ⟨rfl, h4⟩ | ⟨b, cap, cur, rfl, _, hg, hc, _⟩
  · omega
  · have hcell : ∀ j u, (eRow s.es)[j]? = some u → w.cell? ⟨b, j, none⟩ = some u := fun j u hu => by
      have := World.ownsRow.cells ho (g := b) rfl j u hu
      rwa [plainAdd, Nat.zero_add] at this
    exact ⟨b, cap, rfl, hc, row_lt hg, hcell _ _ h0, hcell _ _ h1, hcell _ _ h2, hcell _ _ h3⟩
/-- A list of entries in memory. -/
structure EntAt (w : World) (g o : Nat) (e : En) (Ad : Option Addr) (cd : Nat) : Prop where
  c0 : w.cell? ⟨g, o, none⟩ = some (.int .u64 (e.ix : Int))
  c1 : w.cell? ⟨g, o + 1, none⟩ = some (.int .u64 (e.tm : Int))
  c2 : w.cell? ⟨g, o + 2, none⟩ = some (.int .i64 e.kd)
  c3 : w.cell? ⟨g, o + 3, none⟩ = some (.int .i64 e.dl)
  c4 : w.cell? ⟨g, o + 4, none⟩ = some (.slice Ad e.da.length cd)
def entV (e : En) (Ad : Option Addr) (cd : Nat) : List Value := [.int .u64 (e.ix : Int), .int .u64 (e.tm : Int), .int .i64 e.kd, .int .i64 e.dl, .slice Ad e.da.length cd]
/-- What an entry's values are. -/
structure EnV (w : World) (S : Nat → Prop) (e : En) (Ad : Option Addr) (cd : Nat) : Prop where
  ix : e.ix < 18446744073709551616
  tm : e.tm < 18446744073709551616
  kd : -9223372036854775808 ≤ e.kd ∧ e.kd ≤ 9223372036854775807
  dl : -9223372036854775808 ≤ e.dl ∧ e.dl ≤ 9223372036854775807
  cap : e.da.length ≤ cd
  few : e.da.length ≤ 140737488355328
  lies : LiesS w S Ad e.da
theorem EnV.rep {w : World} {S : Nat → Prop} {e : En} {Ad : Option Addr} {cd : Nat} (h : EnV w S e Ad cd) : entryK.rep w S (entV e Ad cd) (eD e) := entry_rep h.ix h.tm h.kd h.dl h.cap h.few h.lies
theorem enV_of {w : World} {S : Nat → Prop} {vs : List Value} {e : En} (h : entryK.rep w S vs (eD e)) : ∃ Ad cd, vs = entV e Ad cd ∧ EnV w S e Ad cd := by
  obtain ⟨ix, tm, kd, dl, A, c, da, rfl, he, h1, h2, h3, h4, h5, h6, h7⟩ := entry_shape h
  simp only [eD, entryD, Data.agg.injEq, List.cons.injEq, Data.lit.injEq, Lit.int.injEq, Lit.string.injEq, true_and, and_true] at he
  obtain ⟨e1, e2, e3, e4, e5⟩ := he
  obtain rfl : e = ⟨ix, tm, kd, dl, da⟩ := by
    cases e
    simp only at e1 e2 e3 e4 e5
    simp only [En.mk.injEq]
    exact ⟨by omega, by omega, e3, e4, e5⟩
  exact ⟨A, c, rfl, h1, h2, h3, h4, h5, h6, h7⟩
theorem en_of {w : World} {S : Nat → Prop} {vs : List Value} {d : Data} (h : entryK.rep w S vs d) : ∃ e : En, d = eD e := by
  obtain ⟨ix, tm, kd, dl, A, c, da, rfl, rfl, _⟩ := entry_shape h
  exact ⟨⟨ix, tm, kd, dl, da⟩, rfl⟩
theorem EnV.below {w w' : World} {e : En} {Ad : Option Addr} {cd : Nat} (h : EnV w (Old w) e Ad cd) (hb : Below w.heap.size w w') : EnV w' (Old w') e Ad cd :=
  ⟨h.ix, h.tm, h.kd, h.dl, h.cap, h.few, h.lies.keep (fun b hB => hb.block b hB) (fun _ hB => Nat.lt_of_lt_of_le hB hb.size)⟩
/-- What a slice of entries in memory says. -/
theorem ents_at {w : World} {S : Nat → Prop} {A : Option Addr} {n c : Nat} {es : List En} {most : Int} (h : (listK entryK most).rep w S [.slice A n c] (.agg (es.map eD))) : n = es.length ∧ n ≤ c ∧ n ≤ 140737488355328 ∧ (0 < n → ∃ g o, A = some ⟨g, o, none⟩ ∧ S g ∧
    ∀ j e, es[j]? = some e → ∃ Ad cd, EntAt w g (o + j * 5) e Ad cd ∧ EnV w S e Ad cd) := by
  obtain ⟨A', c', ds, e1, e2, h1, h2, h3⟩ := h
  obtain rfl := Data.agg.inj e2
  simp only [List.cons.injEq, Value.slice.injEq, and_true, List.length_map] at e1 h1 h2 h3
  obtain ⟨rfl, rfl, rfl⟩ := e1
  refine ⟨rfl, h1, h2, fun hp => ?_⟩
  obtain ⟨g, o, e4, h5, h6⟩ := h3 hp
  refine ⟨g, o, e4, h5, fun j e he => ?_⟩
  obtain ⟨vs, h7, h8⟩ := h6 j (eD e) (by rw [List.getElem?_map, he]; rfl)
  obtain ⟨Ad, cd, rfl, h9⟩ := enV_of h7
  exact ⟨Ad, cd, ⟨h8 0 _ rfl, h8 1 _ rfl, h8 2 _ rfl, h8 3 _ rfl, h8 4 _ rfl⟩, h9⟩
theorem ents_of {w : World} {A : Option Addr} {n c : Nat} {ds : List Data} {most : Int} {S : Nat → Prop} (h : (listK entryK most).rep w S [.slice A n c] (.agg ds)) : ∃ es : List En, ds = es.map eD := by
  obtain ⟨A', c', ds', e1, e2, h1, h2, h3⟩ := h
  obtain rfl := Data.agg.inj e2
  have : ∀ (l : List Data), (∀ d ∈ l, ∃ e : En, d = eD e) → ∃ es : List En, l = es.map eD := by
    intro l
    induction l with
    | nil => intro _; exact ⟨[], rfl⟩
    | cons d l ih =>
      intro hl
      obtain ⟨e, rfl⟩ := hl d (by simp)
      obtain ⟨es, rfl⟩ := ih (fun x hx => hl x (by simp [hx]))
      exact ⟨e :: es, rfl⟩
  refine this ds (fun d hd => ?_)
  obtain ⟨j, hj⟩ := List.mem_iff_getElem?.1 hd
  have hp : 0 < ds.length := by have := (List.getElem?_eq_some_iff.1 hj).1; omega
  obtain ⟨g, o, _, _, h6⟩ := h3 hp
  obtain ⟨vs, h7, _⟩ := h6 j d hj
  exact en_of h7
/-- The reference's log in memory: D is where its entries' bytes lie. -/
structure RefIs (w : World) (g : Nat) (s : Lg) (v : Value) (T D : Nat → Prop) : Prop where
  row : w.heap[g]? = some (.cells #[.int .u64 (s.ix : Int), .int .u64 (s.tm : Int), v] tRef (0, 0))
  own : ∃ rows, w.ownsRow 0 tApi 5 v s.es.length rows ∧ ∀ i e, s.es[i]? = some e → ∃ Ad cd, EnV w D e Ad cd ∧ ∀ q x, (entV e Ad cd)[q]? = some x → rows[i * 5 + q]? = some x
  ing : T g
  inv : ∀ b, v.ownBlock = some b → T b ∧ b ≠ g
  lt : ∀ b, T b → b < w.heap.size
  dat : ∀ b, D b → b < w.heap.size ∧ ¬ T b
  ok : Ok s
theorem EnV.keep {w w' : World} {S S' : Nat → Prop} {e : En} {Ad : Option Addr} {cd : Nat} (h : EnV w S e Ad cd) (hb : ∀ b, S b → w'.heap[b]? = w.heap[b]?) (hs : ∀ b, S b → S' b) : EnV w' S' e Ad cd :=
  ⟨h.ix, h.tm, h.kd, h.dl, h.cap, h.few, h.lies.keep hb hs⟩
theorem RefIs.keep {w w' : World} {g : Nat} {s : Lg} {v : Value} {T D : Nat → Prop} (h : RefIs w g s v T D) (hz : w.heap.size ≤ w'.heap.size) (hb : ∀ b, T b ∨ D b → w'.heap[b]? = w.heap[b]?) : RefIs w' g s v T D := by
  obtain ⟨rows, h1, h2⟩ := h.own
  refine ⟨(hb g (.inl h.ing)).trans h.row, ⟨rows, ownsRow_keep h1 (fun b e => hb b (.inl (h.inv b e).1)), fun i e he => ?_⟩, h.ing, h.inv, fun b e => Nat.lt_of_lt_of_le (h.lt b e) hz, fun b e => ⟨Nat.lt_of_lt_of_le (h.dat b e).1 hz, (h.dat b e).2⟩, h.ok⟩
  obtain ⟨Ad, cd, h3, h4⟩ := h2 i e he
  exact ⟨Ad, cd, h3.keep (fun b e => hb b (.inr e)) (fun _ e => e), h4⟩
theorem RefIs.below {w w' : World} {g : Nat} {s : Lg} {v : Value} {T D : Nat → Prop} (h : RefIs w g s v T D) (hb : Below w.heap.size w w') : RefIs w' g s v T D :=
  h.keep hb.size (fun b e => hb.block b (by rcases e with e | e; exact h.lt b e; exact (h.dat b e).1))
theorem RefIs.cells {w : World} {g : Nat} {s : Lg} {v : Value} {T D : Nat → Prop} (h : RefIs w g s v T D) : w.cell? ⟨g, 0, none⟩ = some (.int .u64 (s.ix : Int)) ∧ w.cell? ⟨g, 1, none⟩ = some (.int .u64 (s.tm : Int)) ∧ w.cell? ⟨g, 2, none⟩ = some v := by
  refine ⟨?_, ?_, ?_⟩ <;> (rw [cell_of_row w g _ _ _ _ h.row]; rfl)
theorem RefIs.form {w : World} {g : Nat} {s : Lg} {v : Value} {T D : Nat → Prop} (h : RefIs w g s v T D) : ∃ A c, v = .slice A s.es.length c := by
  obtain ⟨rows, h1, _⟩ := h.own
  exact ownsRow_form h1
/-- Its entries, as a list of entries. -/
theorem RefIs.rep {w : World} {g : Nat} {s : Lg} {v : Value} {T D : Nat → Prop} (h : RefIs w g s v T D) (hm : s.es.length ≤ 140737488355328) (most : Int) : (listK entryK most).rep w (Old w) [v] (.agg (s.es.map eD)) := by
  obtain ⟨rows, h1, h2⟩ := h.own
  obtain ⟨A, c, rfl, hc, _, hn⟩ := owns_form h1
  refine ⟨A, c, _, by rw [List.length_map], rfl, by rw [List.length_map]; exact hc, by rw [List.length_map]; exact hm, fun hp => ?_⟩
  rw [List.length_map] at hp
  obtain ⟨b, rfl, hb, _, h4, h5⟩ := hn hp
  refine ⟨b, 0, rfl, h4, fun j d hd => ?_⟩
  rw [List.getElem?_map, Option.map_eq_some_iff] at hd
  obtain ⟨e, he, rfl⟩ := hd
  obtain ⟨Ad, cd, h6, h7⟩ := h2 j e he
  refine ⟨_, (h6.keep (fun _ _ => rfl) (fun b e => (h.dat b e).1)).rep, fun i u hu => ?_⟩
  have := h5 _ u (h7 i u hu)
  rw [show entryK.size = 5 from rfl, Nat.zero_add]
  exact this
/-- One entry of it. -/
theorem RefIs.ent {w : World} {g : Nat} {s : Lg} {v : Value} {T D : Nat → Prop} (h : RefIs w g s v T D) {k : Nat} {e : En} (hk : s.es[k]? = some e) : ∃ b c Ad cd, v = .slice (some ⟨b, 0, none⟩) s.es.length c ∧ s.es.length ≤ c ∧ b < w.heap.size ∧ EntAt w b (k * 5) e Ad cd ∧ EnV w D e Ad cd := by
  obtain ⟨rows, h1, h2⟩ := h.own
  have hlt := (List.getElem?_eq_some_iff.1 hk).1
  obtain ⟨A, c, rfl, hc, _, hn⟩ := owns_form h1
  obtain ⟨b, rfl, _, _, h4, h5⟩ := hn (by omega)
  obtain ⟨Ad, cd, h6, h7⟩ := h2 k e hk
  exact ⟨b, c, Ad, cd, rfl, hc, h4, ⟨h5 _ _ (h7 0 _ rfl), h5 _ _ (h7 1 _ rfl), h5 _ _ (h7 2 _ rfl), h5 _ _ (h7 3 _ rfl), h5 _ _ (h7 4 _ rfl)⟩, h6⟩
theorem termR_at {s : Lg} (h : Ok s) {k : Nat} {e : En} (hk : s.es[k]? = some e) : termR s e.ix = (e.tm, 0) := by
  obtain ⟨h1, _, _⟩ := h.at_ hk
  have hlt := (List.getElem?_eq_some_iff.1 hk).1
  unfold termR
  rw [if_neg (by omega), if_neg (by omega), show e.ix - s.ix = k + 1 by omega]
  simp [behindL, hk]
theorem termR_out {s : Lg} (h : Ok s) {i : Nat} (hi : s.ix < i) (hno : ∀ j e, j < s.es.length → s.es[j]? = some e → e.ix ≠ i) : termR s i = (0, 8) := by
  unfold termR
  rw [if_neg (by omega)]
  by_cases hl : s.ix + s.es.length < i
  · rw [if_pos hl]
  · have hk : i - s.ix - 1 < s.es.length := by omega
    have he := List.getElem?_eq_getElem hk
    exact absurd (by have := (h.at_ he).1; omega) (hno _ _ hk he)
theorem termR_base (s : Lg) : termR s s.ix = (s.tm, 0) := by
  unfold termR
  rw [if_neg (by omega), if_neg (by omega), Nat.sub_self]; rfl
theorem termR_low {s : Lg} {i : Nat} (h : i < s.ix) : termR s i = (0, 13) := by unfold termR; rw [if_pos h]
end Go.Proofs.YtdbaajgkcjpnoaaGreat.Rg

/-! Package rlog's New, behind, Base, Last, Term, Fits, Fresh, as contracts of calls. -/
namespace Go.Proofs.YtdbaajgkcjpnoaaGreat.Rg
open Go.RowKit By CoP Co Mo Kd

/-- A pair of numbers. -/
def pairV (p : Nat × Nat) : Value := .tuple #[.int .u64 (p.1 : Int), .int .u64 (p.2 : Int)]
abbrev ptr (g : Nat) : Value := .pointer (some ⟨g, 0, none⟩)
theorem new_bad (i t : Nat) (w : World) (h : 4611686018427387904 < i ∨ 4611686018427387904 < t) : Calls Tryz.prog 22 #[.int .u64 (i : Int), .int .u64 (t : Int)] w (RetB (.pointer none) w) := by
  by_cases hi : 4611686018427387904 < i
  · have hi' : (4611686018427387904 : Int) < (i : Int) := by omega
    clear h
    go_enter Tryz.func22, Tryz.ntmps22
    go_wp2
    go_ret
    exact ⟨rfl, Below.refl _ _⟩
  · have hi' : ¬ (4611686018427387904 : Int) < (i : Int) := by omega
    have ht' : (4611686018427387904 : Int) < (t : Int) := by omega
    clear h hi
    go_enter Tryz.func22, Tryz.ntmps22
    go_wp2
    go_ret
    exact ⟨rfl, Below.refl _ _⟩
/-- New gives a log of the call's own, without entries. -/
def NewPost (i t : Nat) (w : World) (e : Ending) (w' : World) : Prop := e = .returned (ptr w.heap.size) ∧ LogIs w' w.heap.size ⟨i, t, []⟩ (.slice none 0 0) (fun b => b = w.heap.size) ∧ Below w.heap.size w w'
theorem new_ok (i t : Nat) (w : World) (hi : i ≤ 4611686018427387904) (ht : t ≤ 4611686018427387904) : Calls Tryz.prog 22 #[.int .u64 (i : Int), .int .u64 (t : Int)] w (NewPost i t w) := by
  have hi' : ¬ (4611686018427387904 : Int) < (i : Int) := by omega
  have ht' : ¬ (4611686018427387904 : Int) < (t : Int) := by omega
  have HI := Lib.hid hi
  have HT := Lib.hid ht
  clear hi ht
  go_enter Tryz.func22, Tryz.ntmps22
  go_wp2
  go_ret
  refine ⟨rfl, ⟨heap_alloc_new w _, World.ownsRow_nil _ _ _ _, rfl, (fun b h => by cases h), (fun b h => ?_), ⟨trivial, HI.out, HT.out, (fun e h => by cases h)⟩⟩, (Below.refl _ _).alloc (Nat.le_refl _) _⟩
  have h : b = w.heap.size := h
  rw [World.size_alloc]; omega
section
variable {g : Nat} {s : Lg} {v : Value} {S : Nat → Prop} (w : World)
set_option maxRecDepth 100000 in
set_option maxHeartbeats 800000 in
theorem behind_any (h : LogIs w g s v S) (n : Nat) (hn : n ≤ s.es.length) (N : Int) (hN : N = n) : Calls Tryz.prog 40 #[ptr g, .int .i64 N] w (RetB (pairV (behindL s n)) w) := by
  subst hN
  have hend := h.ok.end_
  obtain ⟨c0, c1, c2⟩ := h.cells
  cases n with
  | zero =>
    show Calls _ _ _ _ (RetB (pairV (s.ix, s.tm)) w)
    unfold pairV
    dsimp only
    generalize s.ix = a at *
    generalize s.tm = b at *
    clear h hn hend
    go_enter Tryz.func40, Tryz.ntmps40
    go_wp2
    go_quiet (fail)
    go_wp2
    go_ret2
    exact ⟨rfl, below_drewN (Below.refl _ _) _⟩
  | succ k =>
    have hk : k < s.es.length := by omega
    have he := List.getElem?_eq_getElem hk
    obtain ⟨b, c, rfl, hc, hb, e0, e1, e2, e3⟩ := h.ent he
    have hp : pairV (behindL s (k + 1)) = .tuple #[.int .u64 ((s.ix + (k + 1) : Nat) : Int), .int .u64 (s.es[k].tm : Int)] := by
      simp [pairV, behindL, he]
    rw [hp]
    generalize s.es[k] = x at *
    generalize s.es.length = m at *
    generalize s.ix = a at *
    obtain ⟨K, hK⟩ : ∃ K : Int, K = ((k + 1 : Nat) : Int) := ⟨_, rfl⟩
    have hx1 : ((a + (k + 1) : Nat) : Int) = (a : Int) + K := by omega
    have hx2 : (a : Int) + K ≤ 4611686018427387904 := by omega
    have hx3 : K - 1 = k := by omega
    have hx4 : (k : Int) < (m : Int) := by omega
    have hx5 : 0 < K := by omega
    have hx6 : (K = 0) = False := by simp; omega
    rw [hx1, ← hK]
    clear h hp he c1 hx1 hend hn hk hK
    go_enter Tryz.func40, Tryz.ntmps40
    go_wp2
    go_quiet (fail)
    go_wp2
    go_ret2
    exact ⟨rfl, below_drewN (Below.refl _ _) _⟩
theorem base_any (h : LogIs w g s v S) : Calls Tryz.prog 34 #[ptr g] w (RetB (pairV (s.ix, s.tm)) w) := by
  obtain ⟨c0, c1, c2⟩ := h.cells
  have q := logTest
  unfold pairV
  dsimp only
  generalize s.ix = a at *
  generalize s.tm = b at *
  clear h
  go_enter Tryz.func34, Tryz.ntmps34
  go_wp2
  go_quiet (fail)
  go_wp2
  go_ret2
  exact ⟨rfl, below_drewN (Below.refl _ _) _⟩
theorem last_any (h : LogIs w g s v S) : Calls Tryz.prog 23 #[ptr g] w (RetB (pairV (lastL s)) w) := by
  obtain ⟨c0, c1, c2⟩ := h.cells
  obtain ⟨A, c, rfl⟩ := ownsRow_form h.own
  have HB := Lib.hid (behind_any w h s.es.length (Nat.le_refl _) _ rfl)
  rw [← behind_last h.ok.inv] at HB
  have q := logTest
  generalize lastL s = p at *
  unfold pairV at *
  clear h
  go_enter Tryz.func23, Tryz.ntmps23
  go_wp2_with (go_at_call 40; refine HB.out.mono ?_; rintro e w1 ⟨rfl, hb⟩)
  go_ret2
  exact ⟨rfl, hb⟩
/-- Answers a number and an error's number. -/
def errV (p : Nat × Int) : Value := .tuple #[.int .u64 (p.1 : Int), .int .i64 p.2]
theorem term_any (h : LogIs w g s v S) (i : Nat) : Calls Tryz.prog 19 #[ptr g, .int .u64 (i : Int)] w (RetB (errV (termR s i)) w) := by
  obtain ⟨c0, c1, c2⟩ := h.cells
  have q := logTest
  by_cases h1 : i < s.ix
  · rw [termR_low h1]
    unfold errV
    have h1' : (i : Int) < (s.ix : Int) := by omega
    generalize s.ix = a at *
    clear h h1
    go_enter Tryz.func19, Tryz.ntmps19
    go_wp2
    go_ret2
    exact ⟨rfl, Below.refl _ _⟩
  · have HL := Lib.hid (last_any w h)
    obtain ⟨p, hp⟩ : ∃ p, p = lastL s := ⟨_, rfl⟩
    have hp1 : p.1 = s.ix + s.es.length := by rw [hp]; exact (last_eq h.ok.inv).1
    have h1' : ¬ (i : Int) < (s.ix : Int) := by omega
    rw [← hp] at HL
    unfold pairV at HL
    have HH := Lib.hid h
    by_cases h2 : s.ix + s.es.length < i
    · have e : termR s i = (0, 8) := by unfold termR; rw [if_neg h1, if_pos h2]
      rw [e]
      unfold errV
      have h2' : (p.1 : Int) < (i : Int) := by omega
      generalize s.ix = a at *
      obtain ⟨p1, p2⟩ := p
      clear h h1 h2 hp hp1 e
      dsimp only at HL h2'
      go_enter Tryz.func19, Tryz.ntmps19
      go_wp2_with (go_at_call 23; refine HL.out.mono ?_; rintro e w1 ⟨rfl, hb⟩)
      go_ret2
      exact ⟨rfl, hb⟩
    · have e : termR s i = ((behindL s (i - s.ix)).2, 0) := by unfold termR; rw [if_neg h1, if_neg h2]
      rw [e]
      unfold errV
      have h2' : ¬ (p.1 : Int) < (i : Int) := by omega
      have hend := h.ok.end_
      obtain ⟨k, hk⟩ : ∃ k, i = s.ix + k := ⟨i - s.ix, by omega⟩
      have HB := Lib.hid (fun w1 (hb : Below w.heap.size w w1) => behind_any w1 (h.below hb) k (by omega) _ rfl)
      rw [show i - s.ix = k by omega]
      have hk' : (i : Int) - (s.ix : Int) = (k : Int) := by omega
      have HC := Lib.hid (fun w1 (hb : Below w.heap.size w w1) => (h.below hb).cells.1)
      have hk2 : (k : Int) ≤ 4611686018427387904 := by omega
      obtain ⟨p1, p2⟩ := p
      generalize behindL s k = r at *
      unfold pairV at HB
      obtain ⟨r1, r2⟩ := r
      generalize s.ix = a at *
      clear h h1 h2 hp hp1 e hk hend c1 c2 HH
      dsimp only at HL h2' HB ⊢
      go_enter Tryz.func19, Tryz.ntmps19
      go_wp2_with (first
        | (go_at_call 23; refine HL.out.mono ?_; rintro e w1 ⟨rfl, hb⟩; have HB1 := Lib.hid hb; have c1 := HC.out w1 hb; clear hb c0)
        | (go_at_call 40; refine (HB.out _ HB1.out).mono ?_; rintro e w2 ⟨rfl, hb⟩; have HB2 := Lib.hid (ext HB1.out hb); clear hb c1))
      go_ret2
      exact ⟨rfl, HB2.out⟩
theorem fits_any (h : LogIs w g s v S) (i t : Nat) : Calls Tryz.prog 21 #[ptr g, .int .u64 (i : Int), .int .u64 (t : Int)] w (RetB (.bool (fits s i t)) w) := by
  have HT := Lib.hid (term_any w h i)
  rw [fits_term h.ok.inv]
  unfold errV at HT
  generalize termR s i = r at *
  obtain ⟨r1, r2⟩ := r
  clear h
  dsimp only at HT ⊢
  by_cases h2 : r2 = 0
  · subst h2
    by_cases h1 : r1 = t
    · subst h1
      go_enter Tryz.func21, Tryz.ntmps21
      go_wp2_with (go_at_call 19; refine HT.out.mono ?_; rintro e w1 ⟨rfl, hb⟩)
      go_ret
      exact ⟨rfl, hb⟩
    · have h1' : ((r1 : Int) = (t : Int)) = False := by simp; omega
      have h1b : ((r1 : Int) == (t : Int)) = false := beq_eq_false_iff_ne.2 (by omega)
      rw [decide_eq_false h1]
      clear h1
      go_enter Tryz.func21, Tryz.ntmps21
      go_wp2_with (go_at_call 19; refine HT.out.mono ?_; rintro e w1 ⟨rfl, hb⟩)
      go_ret
      exact ⟨rfl, hb⟩
  · have h1b : (r2 == (0 : Int)) = false := beq_eq_false_iff_ne.2 h2
    rw [decide_eq_false h2]
    go_enter Tryz.func21, Tryz.ntmps21
    go_wp2_with (go_at_call 19; refine HT.out.mono ?_; rintro e w1 ⟨rfl, hb⟩)
    go_ret
    exact ⟨rfl, hb⟩
theorem fresh_any (h : LogIs w g s v S) (i t : Nat) : Calls Tryz.prog 24 #[ptr g, .int .u64 (i : Int), .int .u64 (t : Int)] w (RetB (.bool (fresh s i t)) w) := by
  have HT := Lib.hid (last_any w h)
  have q := logTest
  unfold fresh
  unfold pairV at HT
  generalize lastL s = r at *
  obtain ⟨r1, r2⟩ := r
  clear h
  dsimp only at HT ⊢
  by_cases h1 : r2 < t
  · have h1' : (r2 : Int) < (t : Int) := by omega
    rw [decide_eq_true h1]
    clear h1
    go_enter Tryz.func24, Tryz.ntmps24
    go_wp2_with (go_at_call 23; refine HT.out.mono ?_; rintro e w1 ⟨rfl, hb⟩)
    go_ret
    exact ⟨rfl, hb⟩
  · have h1' : ¬ (r2 : Int) < (t : Int) := by omega
    rw [decide_eq_false h1]
    by_cases h2 : t = r2
    · subst h2
      rw [decide_eq_true rfl]
      clear h1
      go_enter Tryz.func24, Tryz.ntmps24
      go_wp2_with (go_at_call 23; refine HT.out.mono ?_; rintro e w1 ⟨rfl, hb⟩)
      go_ret
      exact ⟨rfl, hb⟩
    · have h2b : ((t : Int) == (r2 : Int)) = false := beq_eq_false_iff_ne.2 (by omega)
      have h2c : ((t : Int) = (r2 : Int)) = False := by simp; omega
      rw [decide_eq_false h2]
      clear h2
      go_enter Tryz.func24, Tryz.ntmps24
      go_wp2_with (go_at_call 23; refine HT.out.mono ?_; rintro e w1 ⟨rfl, hb⟩)
      go_ret
      exact ⟨rfl, hb⟩
theorem last_nil : Calls Tryz.prog 23 #[.pointer none] w (RetB (pairV (0, 0)) w) := by
  have q := logTest
  go_enter Tryz.func23, Tryz.ntmps23
  go_wp2
  go_ret2
  exact ⟨rfl, Below.refl _ _⟩
theorem term_nil (i : Int) : Calls Tryz.prog 19 #[.pointer none, .int .u64 i] w (RetB (errV (0, 1)) w) := by
  have q := logTest
  go_enter Tryz.func19, Tryz.ntmps19
  go_wp2
  go_ret2
  exact ⟨rfl, Below.refl _ _⟩
theorem fits_nil (i t : Int) : Calls Tryz.prog 21 #[.pointer none, .int .u64 i, .int .u64 t] w (RetB (.bool false) w) := by
  go_enter Tryz.func21, Tryz.ntmps21
  go_wp2_with (go_at_call 19; refine (term_nil _ _).mono ?_; unfold errV; rintro e w1 ⟨rfl, hb⟩)
  go_ret
  exact ⟨rfl, hb⟩
theorem fresh_nil (i t : Int) : Calls Tryz.prog 24 #[.pointer none, .int .u64 i, .int .u64 t] w (RetB (.bool false) w) := by
  have q := logTest
  go_enter Tryz.func24, Tryz.ntmps24
  go_wp2
  go_ret
  exact ⟨rfl, Below.refl _ _⟩
end
end Go.Proofs.YtdbaajgkcjpnoaaGreat.Rg

/-! Package rlog's told and From, as contracts of calls. -/
namespace Go.Proofs.YtdbaajgkcjpnoaaGreat.Rg
open Go.RowKit By CoP Co Mo Kd

theorem strCells_str (l : List UInt8) : Lib.strCells (str l) = bvs l := rfl
theorem wp_app_run2 {P : Program} {w w' : World} {o : Oper} {a : Act} {K : Act → World → Prop} {Q : Exit → Act → World → Prop} (s x : Operand) (t u : TypeId)
    (ho : o.op = .call { callee := .builtin .append, args := #[s, x], argTypes := #[t, u] }) {v v2 v' : Value} (hs : a.eval s = v) (hx : a.eval x = v2)
    (hrun : (Builtin.append_ #[t, u] o.type #[v, v2]).run P w = .ok v' w') (h : K (a.put o.dst v') w') : o.wp P a w K Q := by
  unfold Oper.wp execOp
  simp only [ho, resolve, invoke, builtin, Sem.run_bind, Sem.run_pure, Result.andThen_ok, List.map_toArray, List.map_cons, List.map_nil, hs, hx, hrun]
  exact h
/-- An entry, in new memory. -/
def ToldPost (x : En) (w : World) (e : Ending) (w' : World) : Prop := ∃ Ad cd, e = .returned (.agg (entV x Ad cd).toArray) ∧ EnV w' (NewF w w') x Ad cd ∧ Below w.heap.size w w'
theorem step_text {ops : Array Oper} {o : Oper} {a : Act} {w : World} {K : Act → World → Prop} {Q : Exit → Act → World → Prop} {E : Prop} (hgd : o.guard = none) (s x : Operand) (hop : o.op = .call { callee := .builtin .append, args := #[s, x], argTypes := #[37, 9] })
    (hs : a.eval s = .slice none 0 0) (l : List UInt8) (hx : a.eval x = .string (str l)) (hl : l.length ≤ 140737488355328)
    (hK : ∀ v' w', Own w.heap.size w' v' l → Below w.heap.size w w' → K (a.put o.dst v') w') : if Region.wanted o (yielded ops a.tmps) = true then Oper.wp Tryz.prog o a w K Q else E := by
  have hw : Region.wanted o (yielded ops a.tmps) = true := by simp [Region.wanted, hgd]
  rw [if_pos hw]
  obtain ⟨i0, hi, hz0, hz1, hz2⟩ := info_parts u8Info
  have hsz : (str l).size = l.length := rfl
  obtain ⟨v', w', hrun, h2, h3, _⟩ := Lib.run_append_own_string (P := Tryz.prog) w w.heap.size 37 9 o.type 5 i0 Tryz.underlying37 Tryz.underlying9 hi hz0 hz1 hz2 (.slice none 0 0) 0 [] (World.ownsRow_nil w _ _ 1) (str l) (by rw [hsz]; unfold maxLen; omega) (by rw [hsz]; omega) (Nat.le_refl _)
  rw [List.nil_append, strCells_str, hsz, Nat.zero_add] at h2
  have hbl : Below w.heap.size w w' := grown_below h3 (Nat.le_refl _) (fun q hq => by cases hq)
  have hown : Own w.heap.size w' v' l := h2
  exact wp_app_run2 s x _ _ hop hs hx hrun (hK v' w' hown hbl)
set_option maxHeartbeats 400000 in
theorem ltold_any (x : En) (hx : EnOk x) (w : World) : Calls Tryz.prog 43 #[.agg #[.int .u64 (x.tm : Int), .int .i64 x.kd, .int .i64 x.dl, .string (str x.da)], .int .u64 (x.ix : Int)] w (ToldPost x w) := by
  have HX := Lib.hid hx
  have hl : x.da.length ≤ 140737488355328 := by have := hx.da; omega
  have HL := Lib.hid hl
  clear hx hl
  go_enter Tryz.func43, Tryz.ntmps43
  go_upto_region 1 with fail
  obtain ⟨w1, hw1⟩ : ∃ w1, w1 = w.alloc (.cells #[.int .u64 (x.tm : Int), .int .i64 x.kd, .int .i64 x.dl, .string (str x.da)] tEnt) := ⟨_, rfl⟩
  have hb1 : Below w.heap.size w w1 := by rw [hw1]; exact (Below.refl _ _).alloc (Nat.le_refl _) _
  have hr1 : w1.heap[w.heap.size]? = some (.cells #[.int .u64 (x.tm : Int), .int .i64 x.kd, .int .i64 x.dl, .string (str x.da)] tEnt (0, 0)) := by rw [hw1]; exact heap_alloc_new _ _
  have hz1 : w1.heap.size = w.heap.size + 1 := by rw [hw1, World.size_alloc]
  rw [← hw1]
  obtain ⟨w2, hw2⟩ : ∃ w2, w2 = w1.alloc (.cells #[.int .u64 0, .int .u64 0, .int .i64 0, .int .i64 0, .slice none 0 0] tApi) := ⟨_, rfl⟩
  have hb2 : Below w.heap.size w w2 := by rw [hw2]; exact hb1.alloc (by omega) _
  have hr2 : w2.heap[w.heap.size + 1]? = some (.cells #[.int .u64 0, .int .u64 0, .int .i64 0, .int .i64 0, .slice none 0 0] tApi (0, 0)) := by rw [hw2, ← hz1]; exact heap_alloc_new _ _
  have hr1' : w2.heap[w.heap.size]? = some (.cells #[.int .u64 (x.tm : Int), .int .i64 x.kd, .int .i64 x.dl, .string (str x.da)] tEnt (0, 0)) := by rw [hw2, heap_alloc_old _ _ (by omega)]; exact hr1
  have hz2 : w2.heap.size = w.heap.size + 2 := by rw [hw2, World.size_alloc, hz1]
  rw [← hw2]
  clear hw2 hw1 hb1 hr1 hz1
  have c0 : w2.drew.cell? ⟨w.heap.size, 0, none⟩ = some (.int .u64 (x.tm : Int)) := by rw [cell_of_row w2.drew w.heap.size 0 _ _ _ hr1']; rfl
  have c1 : w2.drew.cell? ⟨w.heap.size, 1, none⟩ = some (.int .i64 x.kd) := by rw [cell_of_row w2.drew w.heap.size 1 _ _ _ hr1']; rfl
  have c2 : w2.drew.cell? ⟨w.heap.size, 2, none⟩ = some (.int .i64 x.dl) := by rw [cell_of_row w2.drew w.heap.size 2 _ _ _ hr1']; rfl
  have c3 : w2.drew.cell? ⟨w.heap.size, 3, none⟩ = some (.string (str x.da)) := by rw [cell_of_row w2.drew w.heap.size 3 _ _ _ hr1']; rfl
  have HB2 := Lib.hid hb2
  have HR2 := Lib.hid (show w2.drew.heap[w.heap.size + 1]? = _ from hr2)
  have HZ2 := Lib.hid hz2
  clear hb2 hr2 hr1' hz2
  have HZ := Lib.hid (show ∀ w', Below (w.heap.size + 1) w2.drew w' → w'.cell? ⟨w.heap.size, 0, none⟩ = some (.int .u64 (x.tm : Int)) ∧ w'.cell? ⟨w.heap.size, 1, none⟩ = some (.int .i64 x.kd) ∧ w'.cell? ⟨w.heap.size, 2, none⟩ = some (.int .i64 x.dl) ∧ w'.cell? ⟨w.heap.size, 3, none⟩ = some (.string (str x.da)) from fun w' hb => by
    have hlt : w.heap.size < w.heap.size + 1 := by omega
    exact ⟨(hb.cell (p := ⟨w.heap.size, 0, none⟩) hlt).trans c0, (hb.cell (p := ⟨w.heap.size, 1, none⟩) hlt).trans c1, (hb.cell (p := ⟨w.heap.size, 2, none⟩) hlt).trans c2, (hb.cell (p := ⟨w.heap.size, 3, none⟩) hlt).trans c3⟩)
  have HBz := Lib.hid (Below.refl (w.heap.size + 1) w2.drew)
  clear c0 c1 c2 c3
  go_region_held3 (fun w' => w'.cell? ⟨w.heap.size, 0, none⟩ = some (.int .u64 (x.tm : Int)) ∧ w'.cell? ⟨w.heap.size, 1, none⟩ = some (.int .i64 x.kd) ∧ w'.cell? ⟨w.heap.size, 2, none⟩ = some (.int .i64 x.dl) ∧ w'.cell? ⟨w.heap.size, 3, none⟩ = some (.string (str x.da)))
    (first
      | with_reducible assumption
      | with_reducible exact HZ.out _ HBz.out
      | with_reducible exact HZ.out _ HB3'.out
      | with_reducible exact HZ.out _ (((((HB3'.out.setCell (p := ⟨w.heap.size + 1, 0, none⟩) (Nat.le_refl _) _).setCell (p := ⟨w.heap.size + 1, 1, none⟩) (Nat.le_refl _) _).setCell (p := ⟨w.heap.size + 1, 2, none⟩) (Nat.le_refl _) _).setCell (p := ⟨w.heap.size + 1, 3, none⟩) (Nat.le_refl _) _).setCell (p := ⟨w.heap.size + 1, 4, none⟩) (Nat.le_refl _) _))
    (first
     | (refine step_text rfl (.const (.slice none 0 0)) (.tmp 13) rfl rfl x.da rfl HL.out ?_
        intro v3 w3 ho3 hb3
        obtain ⟨A3, k3, rfl, hk3, -, -, -, -⟩ := ho3.form
        have HC3 := Lib.hid hk3
        have HO3 := Lib.hid ho3
        have HB3 := Lib.hid hb3
        have HB3' := Lib.hid (hb3.mono (show w.heap.size + 1 ≤ w2.heap.size by have := HZ2.out; omega))
        have HR3 := Lib.hid ((hb3.block (w.heap.size + 1) (show w.heap.size + 1 < w2.heap.size by have := HZ2.out; omega)).trans HR2.out)
        have hr3 := HR3.out
        have y0 : w3.cell? ⟨w.heap.size + 1, 0, none⟩ = some (.int .u64 0) := by rw [cell_of_row w3 _ 0 _ _ _ hr3]; rfl
        have y1 : w3.cell? ⟨w.heap.size + 1, 1, none⟩ = some (.int .u64 0) := by rw [cell_of_row w3 _ 1 _ _ _ hr3]; rfl
        have y2 : w3.cell? ⟨w.heap.size + 1, 2, none⟩ = some (.int .i64 0) := by rw [cell_of_row w3 _ 2 _ _ _ hr3]; rfl
        have y3 : w3.cell? ⟨w.heap.size + 1, 3, none⟩ = some (.int .i64 0) := by rw [cell_of_row w3 _ 3 _ _ _ hr3]; rfl
        have y4 : w3.cell? ⟨w.heap.size + 1, 4, none⟩ = some (.slice none 0 0) := by rw [cell_of_row w3 _ 4 _ _ _ hr3]; rfl
        have f0 := frozen_of_row w3 _ 0 _ _ hr3
        have f1 := frozen_of_row w3 _ 1 _ _ hr3
        have f2 := frozen_of_row w3 _ 2 _ _ hr3
        have f3 := frozen_of_row w3 _ 3 _ _ hr3
        have f4 := frozen_of_row w3 _ 4 _ _ hr3
        clear hk3 ho3 hb3 hr3))
  go_wp2
  have hrow := set5_row HR3.out (.int .u64 (x.ix : Int)) (.int .u64 (x.tm : Int)) (.int .i64 x.kd) (.int .i64 x.dl) (.slice A3 x.da.length k3)
  have hbl : Below w.heap.size w (set5 w3 (w.heap.size + 1) (.int .u64 (x.ix : Int)) (.int .u64 (x.tm : Int)) (.int .i64 x.kd) (.int .i64 x.dl) (.slice A3 x.da.length k3)) :=
    set5_below (HB2.out.drew.trans ((HB3'.out.mono (Nat.le_succ _)))) (Nat.le_succ _) _ _ _ _ _
  have hfin : EnV (set5 w3 (w.heap.size + 1) (.int .u64 (x.ix : Int)) (.int .u64 (x.tm : Int)) (.int .i64 x.kd) (.int .i64 x.dl) (.slice A3 x.da.length k3)) (NewF w (set5 w3 (w.heap.size + 1) (.int .u64 (x.ix : Int)) (.int .u64 (x.tm : Int)) (.int .i64 x.kd) (.int .i64 x.dl) (.slice A3 x.da.length k3))) x A3 k3 := by
    have hx := HX.out
    refine ⟨by have := hx.ix.2; omega, by have := hx.tm.2; omega, by have := hx.kd; omega, by have := hx.dl; omega, HC3.out, HL.out, (LiesS.ownF HO3.out).keep (fun b hb => set5_other _ _ _ _ _ _ _ b (by have h1 := hb.1.1; have := HZ2.out; have h1 : w2.heap.size ≤ b := h1; omega)) (fun b hb => ?_)⟩
    have h1 : w2.heap.size ≤ b := hb.1.1
    have hz := HZ2.out
    refine ⟨⟨by omega, by rw [set5_size]; exact hb.1.2⟩, ?_⟩
    obtain ⟨cs, t, h2⟩ := hb.2
    exact ⟨cs, t, (set5_other _ _ _ _ _ _ _ b (by omega)).trans h2⟩
  change bodyPost Tryz.prog _ _ _ _ (set5 w3 (w.heap.size + 1) (.int .u64 (x.ix : Int)) (.int .u64 (x.tm : Int)) (.int .i64 x.kd) (.int .i64 x.dl) (.slice A3 x.da.length k3))
  generalize set5 w3 (w.heap.size + 1) (.int .u64 (x.ix : Int)) (.int .u64 (x.tm : Int)) (.int .i64 x.kd) (.int .i64 x.dl) (.slice A3 x.da.length k3) = w5 at hrow hbl hfin ⊢
  exact bodyPost_ret (v := .agg (entV x A3 k3).toArray) (results_cell_row rfl _ _ (w.heap.size + 1) tApi _ (0, 0) _ rfl hrow Tryz.underlying39 rfl (by kernel_rfl)) rfl ⟨A3, k3, rfl, hfin, hbl⟩
end Go.Proofs.YtdbaajgkcjpnoaaGreat.Rg

/-! Package rlog's From, as a contract of a call. -/
namespace Go.Proofs.YtdbaajgkcjpnoaaGreat.Rg
open Go.RowKit By CoP Co Mo Kd

/-- Entries of the log from a place in memory on. -/
def LiesR (w : World) (B : Nat) (A : Option Addr) (l : List En) : Prop :=
  0 < l.length → ∃ g o, A = some ⟨g, o, none⟩ ∧ g < B ∧ ∀ j e, l[j]? = some e → w.cell? ⟨g, o + j * 4, none⟩ = some (.int .u64 (e.tm : Int)) ∧ w.cell? ⟨g, o + j * 4 + 1, none⟩ = some (.int .i64 e.kd) ∧ w.cell? ⟨g, o + j * 4 + 2, none⟩ = some (.int .i64 e.dl) ∧ w.cell? ⟨g, o + j * 4 + 3, none⟩ = some (.string (str e.da))
theorem LiesR.below {w w' : World} {B : Nat} {A : Option Addr} {l : List En} (h : LiesR w B A l) (hb : Below B w w') : LiesR w' B A l := fun hn => by
  obtain ⟨g, o, e, hg, hc⟩ := h hn
  refine ⟨g, o, e, hg, fun j x hx => ?_⟩
  obtain ⟨h0, h1, h2, h3⟩ := hc j x hx
  exact ⟨(hb.cell (p := ⟨g, _, none⟩) hg).trans h0, (hb.cell (p := ⟨g, _, none⟩) hg).trans h1, (hb.cell (p := ⟨g, _, none⟩) hg).trans h2, (hb.cell (p := ⟨g, _, none⟩) hg).trans h3⟩
/-- Where a slice begins that leaves k out. -/
def cutA (A : Option Addr) (c k sz : Nat) : Option Addr := match A with | none => none | some a => if c = k then some a else some (a.add (k * sz))
theorem LogIs.lies {w : World} {g : Nat} {s : Lg} {A : Option Addr} {n c : Nat} {S : Nat → Prop} (h : LogIs w g s (.slice A n c) S) : n = s.es.length ∧ n ≤ c ∧ LiesR w w.heap.size A s.es := by
  obtain ⟨A', c', e1⟩ := ownsRow_form h.own
  simp only [Value.slice.injEq] at e1
  obtain ⟨rfl, rfl, rfl⟩ := e1
  have hc : s.es.length ≤ c := by
    rcases h.own.2 with ⟨e, h0⟩ | ⟨g', cap, cur, e, _, _, h1, _⟩
    · omega
    · simp only [Value.slice.injEq] at e; omega
  refine ⟨rfl, hc, fun hn => ?_⟩
  obtain ⟨b, c2, e2, _, hb, _⟩ := h.ent (List.getElem?_eq_getElem hn)
  simp only [Value.slice.injEq] at e2
  obtain ⟨rfl, _, rfl⟩ := e2
  refine ⟨b, 0, rfl, hb, fun j e he => ?_⟩
  obtain ⟨b2, c3, e3, _, _, h0, h1, h2, h3⟩ := h.ent he
  simp only [Value.slice.injEq, Option.some.injEq, Addr.mk.injEq] at e3
  obtain ⟨⟨rfl, _⟩, _⟩ := e3
  rw [Nat.zero_add]
  exact ⟨h0, h1, h2, h3⟩
theorem LiesR.drop {w : World} {B : Nat} {A : Option Addr} {l : List En} (h : LiesR w B A l) {c : Nat} (hc : l.length ≤ c) {k : Nat} (hk : k ≤ l.length) : LiesR w B (cutA A c k 4) (l.drop k) := fun hn => by
  rw [List.length_drop] at hn
  obtain ⟨g, o, rfl, hg, hcell⟩ := h (by omega)
  refine ⟨g, o + k * 4, ?_, hg, fun j e he => ?_⟩
  · unfold cutA
    dsimp only
    rw [if_neg (by omega), plainAdd]
  · rw [List.getElem?_drop] at he
    have := hcell (k + j) e he
    rw [show o + k * 4 + j * 4 = o + (k + j) * 4 by omega]
    exact this
theorem LiesR.take {w : World} {B : Nat} {A : Option Addr} {l : List En} (h : LiesR w B A l) (k : Nat) : LiesR w B A (l.take k) := fun hn => by
  rw [List.length_take] at hn
  obtain ⟨g, o, rfl, hg, hcell⟩ := h (by omega)
  refine ⟨g, o, rfl, hg, fun j e he => ?_⟩
  rw [List.getElem?_take] at he
  split at he
  · exact hcell j e he
  · cases he
theorem entsElem : Tryz.prog.elem tEnts = tEnt := by simp [Program.elem, Tryz.underlying65]
theorem entsUnder : Tryz.prog.underlying tEnts = some (.slice (Tryz.prog.elem tEnts)) := by simp [Program.elem, Tryz.underlying65]
theorem entSize (w : World) : (sizeOf tEnt).run Tryz.prog w = .ok 4 w := by kernel_rfl
theorem run_from4 (w : World) (A : Option Addr) (n c k : Nat) (K : Int) (hK : K = k) (hk : k ≤ n) (kd : IntKind) : (Instr.slice tEnts (.slice A n c) (some (.int kd K)) none none).run Tryz.prog w = .ok (.slice (cutA A c k 4) (n - k) (c - k)) w := by
  subst hK
  rw [run_slice_l w _ _ _ _ entsUnder kd _ (by omega) (by omega), entsElem, entSize]
  unfold cutA
  cases A with
  | none => simp [Result.andThen, sliced]
  | some a => by_cases h : c = k <;> simp [Result.andThen, sliced, h]
theorem run_to4 (w : World) (A : Option Addr) (n c k : Nat) (K : Int) (hK : K = k) (hk : k ≤ c) : (Instr.slice tEnts (.slice A n c) none (some (.int .i64 K)) none).run Tryz.prog w = .ok (.slice A k c) w := by
  subst hK
  rw [run_slice_h w _ _ _ _ entsUnder .i64 _ (by omega) (by omega), entsElem, entSize]
  cases A with
  | none => simp [Result.andThen, sliced]
  | some a =>
    obtain ⟨b, o, sp⟩ := a
    simp [Result.andThen, sliced, Addr.add]
/-- Entries in new memory, apart from one another and from their row. -/
def FromPost (l : List En) (er : Int) (w : World) (e : Ending) (w' : World) : Prop :=
  ∃ v rows, e = .returned (.tuple #[v, .int .i64 er]) ∧ w'.ownsRow w.heap.size tApi 5 v l.length rows ∧ ItemsF entryK w w' v rows (l.map eD) ∧ Below w.heap.size w w'
theorem FromPost.none {er : Int} {w w' : World} (hb : Below w.heap.size w w') : FromPost [] er w (.returned (.tuple #[.slice none 0 0, .int .i64 er])) w' :=
  ⟨_, [], rfl, World.ownsRow_nil _ _ _ _, ItemsF.nil _ _ _ _ _, hb⟩
theorem items_snoc {w wr wt w' : World} {sv sv' : Value} {rows : List Value} {ds : List Data} {x : En} {Ad : Option Addr} {cd : Nat} {o : Obj} (hit : ItemsF entryK w wr sv rows ds) (hown : wr.ownsRow w.heap.size tApi 5 sv ds.length rows) (hwr : w.heap.size ≤ wr.heap.size)
    (hb : Below wr.heap.size wr wt) (he : EnV wt (NewF wr wt) x Ad cd) (hg : (wt.alloc o).grownBy w' sv.ownBlock) (hv : ∀ b, sv'.ownBlock = some b → sv.ownBlock = some b ∨ (wt.alloc o).heap.size ≤ b) (hown' : w'.ownsRow w.heap.size tApi 5 sv' (ds.length + 1) (rows ++ entV x Ad cd)) :
    ItemsF entryK w w' sv' (rows ++ entV x Ad cd) (ds ++ [eD x]) := by
  have hz1 := hb.size
  have hz2 := hg.size
  rw [World.size_alloc] at hz2 hv
  have hsv : ∀ b, sv.ownBlock = some b → b < wr.heap.size := fun b h => (ownsRow_lt hown h).2
  refine ItemsF.push entryK_ok hit hown.1 (by omega) (fun b h1 h2 => ?_) ?_ ?_
  · exact (hg.block b (by rw [World.size_alloc]; have := h1.2; omega) h2).trans ((heap_alloc_old _ _ (by have := h1.2; omega)).trans (hb.block b h1.2))
  · rcases hown'.2 with ⟨_, h0⟩ | ⟨g, cap, cur, rfl, _⟩
    · omega
    · rcases hv g rfl with h | h
      · exact .inl h.symm
      · exact .inr ⟨g, by omega, rfl⟩
  · have hk : ∀ b, NewF wr wt b → w'.heap[b]? = wt.heap[b]? := fun b h => (hg.block b (by rw [World.size_alloc]; have := h.1.2; omega) (fun e => by have := hsv b e.symm; have := h.1.1; omega)).trans (heap_alloc_old _ _ h.1.2)
    refine (he.keep hk (fun b h => ?_)).rep
    refine ⟨⟨⟨by have := h.1.1; omega, by have := h.1.2; omega⟩, ?_⟩, fun e => ?_⟩
    · obtain ⟨cs, t, h3⟩ := h.2
      exact ⟨cs, t, (hk b h).trans h3⟩
    · rcases hv b e.symm with h3 | h3
      · have := hsv b h3; have := h.1.1; omega
      · have := h.1.2; omega
theorem entV_one {x : En} {Ad : Option Addr} {cd : Nat} : ∀ u ∈ entV x Ad cd, u.oneCell' = true := by
  intro u hu
  simp only [entV, List.mem_cons, List.not_mem_nil, or_false] at hu
  rcases hu with rfl | rfl | rfl | rfl | rfl <;> rfl
theorem news_cells (w : World) (t : TypeId) (l : List Value) (j : Nat) (u : Value) (h : l[j]? = some u) : (w.alloc (.cells l.toArray t)).cell? ((⟨w.heap.size, 0, none⟩ : Addr).add j) = some u := by
  rw [plainAdd, Nat.zero_add, cell_of_row _ _ _ _ _ _ (heap_alloc_new w _)]
  simpa using h
set_option maxRecDepth 100000 in
set_option maxHeartbeats 1600000 in
theorem from_any {g : Nat} {s : Lg} {v : Value} {S : Nat → Prop} (w : World) (h : LogIs w g s v S) (i : Nat) (most : Int) (hn : s.es.length ≤ 1073741823) : Calls Tryz.prog 25 #[ptr g, .int .u64 (i : Int), .int .i64 most] w (FromPost (fromR s i most).1 (fromR s i most).2 w) := by
  have q := logTest
  obtain ⟨c0, c1, c2⟩ := h.cells
  have hend := h.ok.end_
  by_cases h1 : i ≤ s.ix
  · have e : fromR s i most = ([], 13) := by unfold fromR; rw [if_pos h1]
    rw [e]
    have h1' : (i : Int) ≤ (s.ix : Int) := by omega
    generalize s.ix = a at *
    clear h h1 e hend
    go_enter Tryz.func25, Tryz.ntmps25
    go_wp2
    go_ret2
    exact FromPost.none (Below.refl _ _)
  · have h1' : ¬ (i : Int) ≤ (s.ix : Int) := by omega
    have HL := Lib.hid (last_any w h)
    obtain ⟨p, hp⟩ : ∃ p, p = lastL s := ⟨_, rfl⟩
    have hp1 : p.1 = s.ix + s.es.length := by rw [hp]; exact (last_eq h.ok.inv).1
    rw [← hp] at HL
    unfold pairV at HL
    obtain ⟨p1, p2⟩ := p
    dsimp only at HL hp1
    clear hp
    obtain ⟨P, hP⟩ : ∃ P : Int, P = (p1 : Int) := ⟨_, rfl⟩
    rw [← hP] at HL
    have hP0 : 0 ≤ P := by omega
    by_cases h2 : s.ix + s.es.length + 1 < i
    · have e : fromR s i most = ([], 8) := by unfold fromR; rw [if_neg h1, if_pos h2]
      rw [e]
      have h2' : P + 1 < (i : Int) := by omega
      have h2b : P + 1 ≤ 4611686018427387905 := by omega
      generalize s.ix = a at *
      clear h h1 h2 e hend hp1 hP
      go_enter Tryz.func25, Tryz.ntmps25
      go_wp2_with (go_at_call 23; refine HL.out.mono ?_; rintro e w1 ⟨rfl, hb⟩)
      go_ret2
      exact FromPost.none hb
    · have h2' : ¬ (P + 1 < (i : Int)) := by omega
      have h2b : P + 1 ≤ 4611686018427387905 := by omega
      by_cases h3 : most < 0
      · have e : fromR s i most = ([], 1) := by unfold fromR; rw [if_neg h1, if_neg h2, if_pos h3]
        rw [e]
        generalize s.ix = a at *
        clear h h1 h2 e hend hp1 hP
        go_enter Tryz.func25, Tryz.ntmps25
        go_wp2_with (go_at_call 23; refine HL.out.mono ?_; rintro e w1 ⟨rfl, hb⟩)
        go_ret2
        exact FromPost.none hb
      · have e : fromR s i most = ((s.es.drop (i - (s.ix + 1))).take most.toNat, 0) := by unfold fromR; rw [if_neg h1, if_neg h2, if_neg h3]
        rw [e]
        obtain ⟨A, c, rfl⟩ := ownsRow_form h.own
        obtain ⟨-, hc, hl⟩ := h.lies
        obtain ⟨k, hk⟩ : ∃ k, i = s.ix + 1 + k := ⟨i - (s.ix + 1), by omega⟩
        rw [show i - (s.ix + 1) = k by omega]
        obtain ⟨l, hldef⟩ : ∃ l, l = (s.es.drop k).take most.toNat := ⟨_, rfl⟩
        have hll : l.length = min most.toNat (s.es.length - k) := by rw [hldef, List.length_take, List.length_drop]
        have hk' : (i : Int) - (s.ix : Int) - 1 = (k : Int) := by omega
        have HR := Lib.hid (show LiesR w w.heap.size (cutA A c k 4) l by rw [hldef]; exact (hl.drop hc (by omega)).take _)
        have HF := Lib.hid (fun w' => run_from4 w' A s.es.length c k _ rfl (by omega) .u64)
        have W1 : IntKind.u64.wrap ((i : Int) - (s.ix : Int)) = (i : Int) - (s.ix : Int) := wrap_u (by omega) (by omega)
        have W2 : IntKind.u64.wrap ((i : Int) - (s.ix : Int) - 1) = (k : Int) := by rw [hk']; exact wrap_u (by omega) (by omega)
        obtain ⟨m', hm'⟩ : ∃ m', m' = s.es.length - k := ⟨_, rfl⟩
        have hmin : min most (m' : Int) = (l.length : Int) := by omega
        have HT := Lib.hid (fun w' => run_to4 w' (cutA A c k 4) m' (c - k) l.length _ rfl (by omega))
        rw [← hm'] at HF
        have HE := Lib.hid (show ∀ (j : Nat) (x : En), l[j]? = some x → (x.ix : Int) = (i : Int) + (j : Int) ∧ EnOk x by
          intro j x hx
          rw [hldef, List.getElem?_take] at hx
          split at hx
          · rw [List.getElem?_drop] at hx
            obtain ⟨h4, _, h5⟩ := h.ok.at_ hx
            exact ⟨by omega, h5⟩
          · cases hx)
        have HC := Lib.hid (fun w' (hb : Below w.heap.size w w') => (h.below hb).cells)
        rw [← hldef]
        have hlm : l.length ≤ 1073741823 := by omega
        have HLM := Lib.hid hlm
        clear h h1 h2 e hl hldef hll hp1 hk hP hm'
        go_enter Tryz.func25, Tryz.ntmps25
        go_wp2_with (go_at_call 23; refine HL.out.mono ?_; rintro e w1 ⟨rfl, hb⟩; obtain ⟨c0, c1, c2⟩ := HC.out w1 hb; have HB1 := Lib.hid hb; have F := HF.out; have F2 := HT.out; clear hb)
        go_quiet (fail)
        rename_i nq
        generalize hm : l.length = m at *
        go_wp2
        have HM := Lib.hid hm
        have HBq := Lib.hid (below_drewN HB1.out nq)
        clear c0 c1 c2 F F2 HB1 W1 W2 hmin hk' HC HF HT HL hm q
        generalize cutA A c k 4 = C at *
        go_loopw [10, 54] (fun sv i wr => ∃ (j : Nat) (rows : List Value), j ≤ m ∧ i = .int .i64 (j : Int) ∧ Below w.heap.size w wr ∧ wr.ownsRow w.heap.size tApi 5 sv j rows ∧ ItemsF entryK w wr sv rows ((l.take j).map eD)) (fun _ i _ => m - (intOf i).toNat)
        case atStart => exact ⟨0, [], Nat.zero_le _, rfl, HBq.out, World.ownsRow_nil _ _ _ _, ItemsF.nil _ _ _ _ _⟩
        case round =>
          obtain ⟨j, rows, hj, rfl, hbr, hown, hit⟩ := hrel
          by_cases hjm : j < m
          · have hjl : j < l.length := by have := HM.out; omega
            obtain ⟨x, hx⟩ : ∃ x, l[j]? = some x := ⟨_, List.getElem?_eq_getElem hjl⟩
            obtain ⟨hix, hxok⟩ := HE.out j x hx
            obtain ⟨b, o, rfl, hb, hcell⟩ := (HR.out.below hbr) (by omega)
            obtain ⟨x0, x1, x2, x3⟩ := hcell j x hx
            have hj1 : (j : Int) < (m : Int) := by omega
            have HTK := Lib.hid (show l.take (j + 1) = l.take j ++ [x] by rw [List.take_add_one, hx]; rfl)
            obtain ⟨A0, c0, rfl⟩ := ownsRow_form hown
            have HBR := Lib.hid hbr
            have HOWN := Lib.hid hown
            have HIT := Lib.hid hit
            have HTOLD := Lib.hid (fun w' => ltold_any x hxok w')
            rw [hix] at HTOLD
            have hsum : (i : Int) + (j : Int) ≤ 4611686018427387904 := by rw [← hix]; have := hxok.ix.2; omega
            have HJL := Lib.hid hjl
            clear hbr hown hit hcell hx hxok hb hjl hix
            go_upto_region 15 with fail
            have hr1 := heap_alloc_new wr (.cells #[.int .u64 (x.tm : Int), .int .i64 x.kd, .int .i64 x.dl, .string (str x.da)] tEnt)
            have hb1 : Below wr.heap.size wr (wr.alloc (.cells #[.int .u64 (x.tm : Int), .int .i64 x.kd, .int .i64 x.dl, .string (str x.da)] tEnt)) := (Below.refl _ _).alloc (Nat.le_refl _) _
            change Code.wp _ _ _ _ (wr.alloc (.cells #[.int .u64 (x.tm : Int), .int .i64 x.kd, .int .i64 x.dl, .string (str x.da)] tEnt))
            generalize wr.alloc (.cells #[.int .u64 (x.tm : Int), .int .i64 x.kd, .int .i64 x.dl, .string (str x.da)] tEnt) = wa at hr1 hb1 ⊢
            have d0 : wa.cell? ⟨wr.heap.size, 0, none⟩ = some (.int .u64 (x.tm : Int)) := by rw [cell_of_row wa _ 0 _ _ _ hr1]; rfl
            have d1 : wa.cell? ⟨wr.heap.size, 1, none⟩ = some (.int .i64 x.kd) := by rw [cell_of_row wa _ 1 _ _ _ hr1]; rfl
            have d2 : wa.cell? ⟨wr.heap.size, 2, none⟩ = some (.int .i64 x.dl) := by rw [cell_of_row wa _ 2 _ _ _ hr1]; rfl
            have d3 : wa.cell? ⟨wr.heap.size, 3, none⟩ = some (.string (str x.da)) := by rw [cell_of_row wa _ 3 _ _ _ hr1]; rfl
            have HB1 := Lib.hid hb1
            clear hb1 hr1 x0 x1 x2 x3
            go_wp2_with (first
              | (go_at_call 43; refine (HTOLD.out _).mono ?_; rintro e wt ⟨Ad, cd, he0, he, hbt⟩
                 have he0 : e = .returned (.agg #[.int .u64 (x.ix : Int), .int .u64 (x.tm : Int), .int .i64 x.kd, .int .i64 x.dl, .slice Ad x.da.length cd]) := he0
                 subst he0
                 have HBT := Lib.hid (By.ext HB1.out hbt)
                 have HEN := Lib.hid (he.keep (S' := NewF wr wt) (fun _ _ => rfl) (fun b hb => ⟨⟨Nat.le_trans HB1.out.size hb.1.1, hb.1.2⟩, hb.2⟩))
                 have HO2 := Lib.hid (fun (o : Obj) => ownsRow_keep (w' := wt.alloc o) HOWN.out (fun q hq => (heap_alloc_old _ _ (Nat.lt_of_lt_of_le (ownsRow_lt HOWN.out hq).2 HBT.out.size)).trans (HBT.out.block q (ownsRow_lt HOWN.out hq).2)))
                 have HZT := Lib.hid (Nat.le_trans HBR.out.size HBT.out.size)
                 clear he hbt d0 d1 d2 d3)
              | (at_builtin; refine wpList_appG Tryz.underlying29 apiInfo rfl (by decide) (by decide) rfl (.tmp 59) (.tmp 66) rfl w.heap.size _ j rows rfl (HO2.out _) (some ⟨wt.heap.size, 0, none⟩) 1 1 rfl (entV x Ad cd) rfl (fun _ => ⟨_, rfl, fun j u hu => news_cells wt tApi (entV x Ad cd) j u hu⟩) entV_one (by have := HLM.out; omega) (by rw [World.size_alloc]; have := HZT.out; omega) ?_
                 intro v' w' ho' hg' hv'
                 have HNI := Lib.hid (items_snoc HIT.out (by rw [List.length_map, List.length_take, Nat.min_eq_left (Nat.le_of_lt HJL.out)]; exact HOWN.out) HBR.out.size HBT.out HEN.out hg' hv' (by rw [List.length_map, List.length_take, Nat.min_eq_left (Nat.le_of_lt HJL.out)]; exact ho'))
                 have HO3 := Lib.hid ho'
                 have HB3 := Lib.hid (show Below w.heap.size w w' from ((By.ext HBR.out HBT.out).alloc (HZT.out) _).trans (grown_below hg' (by rw [World.size_alloc]; have := HZT.out; omega) (fun q hq => (ownsRow_lt HOWN.out hq).1)))
                 clear ho' hg' hv'))
            go_roundw
            case rel => exact ⟨j + 1, rows ++ entV x Ad cd, by omega, by go_num, HB3.out, HO3.out, by rw [HTK.out, List.map_append]; exact HNI.out⟩
            case measure => simp [intOf]; omega
          · have hjm' : j = m := by omega
            subst hjm'
            have HFIN := Lib.hid (show FromPost l 0 w (.returned (.tuple #[u10, .int .i64 0])) wr from ⟨u10, rows, rfl, by rw [HM.out]; exact hown, by rw [List.take_of_length_le (by rw [HM.out]; exact Nat.le_refl _)] at hit; exact hit, hbr⟩)
            clear hbr hown hit
            go_wp2
            go_ret2
            exact HFIN.out
end Go.Proofs.YtdbaajgkcjpnoaaGreat.Rg
