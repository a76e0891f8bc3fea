/- Lists of bytes in memory: a slice that reads as a list of bytes, a slice of the own call that holds one, what is appended to it, its cuts, its text. Nothing here speaks of one function. -/
import Derived.Test.YtdbaajgkcjpnoaaGreatProg
import Derived.WalkKit
import Derived.ProofKit
import Derived.OpenShut
import Derived.Below
import Derived.Laws.OwnMore
import Derived.Laws.BytesArg
import Derived.WalkSpells
import Derived.Deep.AppendLies
import Derived.Deep.Draws
import Derived.Lib.Hide
import Derived.Lib.BitFns
import Derived.Laws.BitsAllLaws
import Derived.OwnWalk
import Derived.Deep.QuietTactic
import Derived.BigQuiet
/-! Lists of bytes in memory: a slice that reads as a list of bytes, a slice of the call's own that holds one, what is appended to it, its cuts, its text. Nothing here speaks of one function. -/
namespace Go.Proofs.YtdbaajgkcjpnoaaGreat.By
open Go.RowKit

/-- A byte as a cell. -/
def bv (x : UInt8) : Value := .int .u8 (x.toNat : Int)
def bvs (l : List UInt8) : List Value := l.map bv
theorem bvs_length (l : List UInt8) : (bvs l).length = l.length := by simp [bvs]
theorem bvs_append (l m : List UInt8) : bvs (l ++ m) = bvs l ++ bvs m := by simp [bvs]
theorem bvs_get {l : List UInt8} {j : Nat} {u : Value} (h : (bvs l)[j]? = some u) : ∃ x, l[j]? = some x ∧ u = bv x := by
  simp only [bvs, List.getElem?_map, Option.map_eq_some_iff] at h
  obtain ⟨x, hx, rfl⟩ := h
  exact ⟨x, hx, rfl⟩
theorem bvs_one {l : List UInt8} : ∀ u ∈ bvs l, u.oneCell' = true := by
  intro u hu
  simp only [bvs, List.mem_map] at hu
  obtain ⟨x, _, rfl⟩ := hu
  rfl
theorem byte_lo (x : UInt8) : (0 : Int) ≤ (x.toNat : Int) := by omega
theorem byte_hi (x : UInt8) : (x.toNat : Int) ≤ 255 := by have := x.toNat_lt; omega

theorem plainAdd (b o j : Nat) : (⟨b, o, none⟩ : Addr).add j = ⟨b, o + j, none⟩ := by unfold Addr.add; split <;> simp_all

/-- The cells of a slice that begins at A hold the bytes l, and lie below block B. -/
def Lies (w : World) (B : Nat) (A : Option Addr) (l : List UInt8) : Prop :=
  0 < l.length → ∃ g o, A = some ⟨g, o, none⟩ ∧ g < B ∧ ∀ j x, l[j]? = some x → w.cell? ⟨g, o + j, none⟩ = some (bv x)

section
variable {w w' : World} {B B' : Nat} {A : Option Addr} {l : List UInt8}
theorem Lies.empty (w : World) (B : Nat) (A : Option Addr) : Lies w B A [] := fun h => absurd h (by simp)
theorem Lies.keep (h : Lies w B A l) (hk : ∀ p : Addr, p.block < B → w'.cell? p = w.cell? p) : Lies w' B A l := fun hn => by
  obtain ⟨g, o, e, hg, hc⟩ := h hn
  exact ⟨g, o, e, hg, fun j x hx => (hk _ hg).trans (hc j x hx)⟩
theorem Lies.more (h : Lies w B A l) (hB : B ≤ B') : Lies w B' A l := fun hn => by
  obtain ⟨g, o, e, hg, hc⟩ := h hn
  exact ⟨g, o, e, by omega, hc⟩
theorem Lies.below (h : Lies w B A l) (hb : Below B w w') : Lies w' B A l := h.keep fun _ hp => hb.cell hp
theorem Lies.drew (h : Lies w B A l) : Lies w.drew B A l := h
theorem Lies.drewN (h : Lies w B A l) (k : Nat) : Lies (w.drewN k) B A l := h
theorem Lies.alloc (h : Lies w B A l) (hB : B ≤ w.heap.size) (o : Obj) : Lies (w.alloc o) B A l := h.keep fun p hp => World.cell?_alloc_lt w o p (by omega)
theorem Lies.setCell (h : Lies w B A l) {p : Addr} (hB : B ≤ p.block) (u : Value) : Lies (w.setCell p u) B A l :=
  h.keep fun q hq => World.cell?_setCell_other w p q u (fun e => by subst e; omega)
/-- One cell. -/
theorem Lies.at_ (h : Lies w B A l) {k : Nat} (hk : k < l.length) : ∃ g o, A = some ⟨g, o, none⟩ ∧ g < B ∧ w.cell? ⟨g, o + k, none⟩ = some (.int .u8 (l[k].toNat : Int)) := by
  obtain ⟨g, o, e, hg, hc⟩ := h (by omega)
  exact ⟨g, o, e, hg, hc k _ (List.getElem?_eq_getElem hk)⟩
end

/-- The cells of a slice of slices of bytes that begins at A hold slices of the bytes ls; all lie below block B. -/
def LiesL (w : World) (B : Nat) (A : Option Addr) (ls : List (List UInt8)) : Prop :=
  0 < ls.length → ∃ g o, A = some ⟨g, o, none⟩ ∧ g < B ∧ ∀ j l, ls[j]? = some l → ∃ Aj cj, w.cell? ⟨g, o + j, none⟩ = some (.slice Aj l.length cj) ∧ Lies w B Aj l
section
variable {w w' : World} {B B' : Nat} {A : Option Addr} {ls : List (List UInt8)}
theorem LiesL.empty (w : World) (B : Nat) (A : Option Addr) : LiesL w B A [] := fun h => absurd h (by simp)
theorem LiesL.keep (h : LiesL w B A ls) (hk : ∀ p : Addr, p.block < B → w'.cell? p = w.cell? p) : LiesL w' B A ls := fun hn => by
  obtain ⟨g, o, e, hg, hc⟩ := h hn
  refine ⟨g, o, e, hg, fun j l hl => ?_⟩
  obtain ⟨Aj, cj, h1, h2⟩ := hc j l hl
  exact ⟨Aj, cj, (hk _ hg).trans h1, h2.keep hk⟩
theorem LiesL.more (h : LiesL w B A ls) (hB : B ≤ B') : LiesL w B' A ls := fun hn => by
  obtain ⟨g, o, e, hg, hc⟩ := h hn
  refine ⟨g, o, e, by omega, fun j l hl => ?_⟩
  obtain ⟨Aj, cj, h1, h2⟩ := hc j l hl
  exact ⟨Aj, cj, h1, h2.more hB⟩
theorem LiesL.below (h : LiesL w B A ls) (hb : Below B w w') : LiesL w' B A ls := h.keep fun _ hp => hb.cell hp
theorem LiesL.alloc (h : LiesL w B A ls) (hB : B ≤ w.heap.size) (o : Obj) : LiesL (w.alloc o) B A ls := h.keep fun p hp => World.cell?_alloc_lt w o p (by omega)
theorem LiesL.at_ (h : LiesL w B A ls) {k : Nat} (hk : k < ls.length) : ∃ g o Aj cj, A = some ⟨g, o, none⟩ ∧ g < B ∧ w.cell? ⟨g, o + k, none⟩ = some (.slice Aj (ls[k]).length cj) ∧ Lies w B Aj ls[k] := by
  obtain ⟨g, o, e, hg, hc⟩ := h (by omega)
  obtain ⟨Aj, cj, h1, h2⟩ := hc k _ (List.getElem?_eq_getElem hk)
  exact ⟨g, o, Aj, cj, e, hg, h1, h2⟩
end

/-- Where 's[k:]' begins, of a slice that begins at A and has room for c. -/
def cutA (A : Option Addr) (c k : Nat) : Option Addr := if c = k then A else A.map (·.add k)
theorem cutA_some {b o c k : Nat} (h : k < c) : cutA (some ⟨b, o, none⟩) c k = some ⟨b, o + k, none⟩ := by
  unfold cutA
  rw [if_neg (by omega)]
  simp [plainAdd]
theorem Lies.cut {w : World} {B : Nat} {A : Option Addr} {l : List UInt8} (h : Lies w B A l) {c : Nat} (hc : l.length ≤ c) (k h2 : Nat) (hk : k ≤ h2) (hh : h2 ≤ l.length) :
    Lies w B (cutA A c k) ((l.take h2).drop k) := fun hn => by
  have hn' : k < h2 := by simp only [List.length_drop, List.length_take] at hn; omega
  obtain ⟨g, o, rfl, hg, hcell⟩ := h (by omega)
  refine ⟨g, o + k, cutA_some (by omega), hg, fun j x hx => ?_⟩
  rw [Nat.add_assoc]
  refine hcell _ x ?_
  rw [List.getElem?_drop] at hx
  rw [List.getElem?_take] at hx
  split at hx
  · exact hx
  · cases hx

/-- The call's own slice of bytes. -/
def Own (base : Nat) (w : World) (v : Value) (l : List UInt8) : Prop := w.ownsRow base 5 1 v l.length (bvs l)
/-- It is a slice. -/
theorem Own.form {base : Nat} {w : World} {v : Value} {l : List UInt8} (h : Own base w v l) : ∃ A c, v = .slice A l.length c ∧ l.length ≤ c ∧ c ≤ maxLen ∧ (A = none → c = 0) ∧ Lies w w.heap.size A l ∧ (∀ k, v.ownBlock = some k → base ≤ k ∧ k < w.heap.size) := by
  have hlt := h.lt
  rcases h.2 with ⟨rfl, h0⟩ | ⟨g, cap, cur, rfl, hb, hg, hn, hm, hs, ht⟩
  · have hl : l = [] := List.length_eq_zero_iff.1 h0
    subst hl
    exact ⟨none, 0, rfl, Nat.le_refl _, Nat.zero_le _, fun _ => rfl, Lies.empty _ _ _, hlt⟩
  · refine ⟨some ⟨g, 0, none⟩, cap, rfl, hn, hm, (fun e => by cases e), (fun _ => ⟨g, 0, rfl, (hlt g rfl).2, fun j x hx => ?_⟩), hlt⟩
    have hc := h.cells (g := g) rfl j (bv x) (by simp [bvs, hx])
    rwa [plainAdd] at hc
theorem Own.kept {base B : Nat} {w w' : World} {v : Value} {l : List UInt8} (h : Own base w v l) (hb : Below B w w') (hB : w.heap.size ≤ B) : Own base w' v l :=
  World.ownsRow.kept h (row := none) ⟨hb.os, hb.tape, hb.output, hb.size, fun k hk _ => hb.block k (by omega)⟩ (by
    rcases hv : v.ownBlock with _ | k
    · exact .inl rfl
    · exact .inr (by simp))
theorem Own.alloc {base : Nat} {w : World} {v : Value} {l : List UInt8} (h : Own base w v l) (o : Obj) : Own base (w.alloc o) v l := World.ownsRow.alloc h o
theorem Own.nil (base : Nat) (w : World) : Own base w (.slice none 0 0) [] := World.ownsRow_nil w base _ 1
theorem Own.more {base base' : Nat} {w : World} {v : Value} {l : List UInt8} (h : Own base w v l) (hb : base' ≤ base) : Own base' w v l := by
  refine ⟨h.1, ?_⟩
  rcases h.2 with hn | ⟨g, cap, cur, hv, hg, rest⟩
  · exact .inl hn
  · exact .inr ⟨g, cap, cur, hv, by omega, rest⟩

theorem u8Info : (Tryz.prog.info? 5).map (fun i => (i.zero, i.size, i.bytes)) = some (some (.int .u8 0), 1, 1) := by kernel_rfl

theorem run_append_none {P : Program} (w : World) (base : Nat) (t ty e : TypeId) (i : TypeInfo) (size : Nat) (ht : P.underlying t = some (.slice e)) (hi : P.info? e = some i)
    (v : Value) (n : Nat) (xs : List Value) (hown : w.ownsRow base e size v n xs) (c : Nat) : (Builtin.append_ #[t, t] ty #[v, .slice none 0 c]).run P w = .ok v w := by
  rcases hown.2 with ⟨rfl, rfl⟩ | ⟨g, cap, cur, rfl, _, _, hnc, _⟩
  · simp [Builtin.append_, run_underlying ht, sizeOf, typeInfo, hi, Builtin.lenOf, Builtin.firstCells]
  · simp [Builtin.append_, run_underlying ht, sizeOf, typeInfo, hi, Builtin.lenOf, Builtin.firstCells, hnc, storeCells]

/-- Appending bytes to bytes of the call's own, by its run. -/
theorem run_app {base : Nat} {w : World} {v : Value} {l : List UInt8} (hown : Own base w v l) {B : Nat} {A : Option Addr} {m c : Nat} {l2 : List UInt8} (hm : m = l2.length) (hr : Lies w B A l2)
    (hsz : l.length + l2.length ≤ 140737488355328) (hbase : base ≤ w.heap.size) (ty : TypeId) :
    ∃ v' w', (Builtin.append_ #[37, 37] ty #[v, .slice A m c]).run Tryz.prog w = .ok v' w' ∧ Own base w' v' (l ++ l2) ∧ Below base w w' ∧ w.grownBy w' v.ownBlock := by
  obtain ⟨i0, hi, hz0, hz1, hz2⟩ := info_parts u8Info
  subst hm
  have far : ∀ {w1 : World}, w.grownBy w1 v.ownBlock → Below base w w1 := fun hg => (Below.refl base w).grown hg hbase (fun k hk => (hown.lt k hk).1)
  rcases A with _ | ad
  · have h0 : l2 = [] := by
      rcases Nat.eq_zero_or_pos l2.length with h0 | h0
      · exact List.length_eq_zero_iff.1 h0
      · obtain ⟨g, o, e, _⟩ := hr h0
        cases e
    subst h0
    exact ⟨v, w, run_append_none w base _ ty _ i0 1 Tryz.underlying37 hi v _ _ hown c, by simpa using hown, Below.refl _ _, ⟨rfl, rfl, rfl, Nat.le_refl _, fun _ _ _ => rfl⟩⟩
  · have hcells : ∀ j u, (bvs l2)[j]? = some u → w.cell? (ad.add j) = some u := by
      intro j u hu
      obtain ⟨x, hx, rfl⟩ := bvs_get hu
      have hj : j < l2.length := (List.getElem?_eq_some_iff.1 hx).1
      obtain ⟨g, o, e, _, hc⟩ := hr (by omega)
      obtain rfl : ad = ⟨g, o, none⟩ := Option.some.inj e
      rw [plainAdd]
      exact hc j x hx
    obtain ⟨v', w', hrun, h2, h3, _⟩ := run_append_own (P := Tryz.prog) w base 37 ty 5 i0 (.int .u8 0) 1 1 Tryz.underlying37 hi hz0 hz1 hz2 rfl (by decide) v l.length (bvs l) hown ad l2.length c (bvs l2) (by rw [bvs_length]; omega) hcells bvs_one
      (by unfold maxLen; omega) (by omega) hbase
    exact ⟨v', w', hrun, by unfold Own; rw [List.length_append, bvs_append]; exact h2, far h3, h3⟩

theorem wp_app_run {P : Program} {w w' : World} {o : Oper} {a : Act} {K : Act → World → Prop} {Q : Exit → Act → World → Prop} (s x : Operand) (t : TypeId)
    (ho : o.op = .call { callee := .builtin .append, args := #[s, x], argTypes := #[t, t] }) {v v2 v' : Value} (hs : a.eval s = v) (hx : a.eval x = v2)
    (hrun : (Builtin.append_ #[t, t] o.type #[v, v2]).run P w = .ok v' w') (h : K (a.put o.dst v') w') : o.wp P a w K Q := by
  unfold Oper.wp execOp
  simp only [ho, resolve, invoke, builtin, Sem.run_bind, Sem.run_pure, Result.andThen_ok, List.map_toArray, List.map_cons, List.map_nil, hs, hx, hrun]
  exact h
theorem wpList_app {ops : Array Oper} {rest : List Oper} {o : Oper} {a : Act} {Q : Exit → Act → World → Prop} {w : World} (hgd : o.guard = none) (s x : Operand)
    (ho : o.op = .call { callee := .builtin .append, args := #[s, x], argTypes := #[37, 37] })
    {base : Nat} {v : Value} {l : List UInt8} (hs : a.eval s = v) (hown : Own base w v l) {B : Nat} {A : Option Addr} {m c : Nat} {l2 : List UInt8} (hx : a.eval x = .slice A m c) (hm : m = l2.length) (hr : Lies w B A l2)
    (hsz : l.length + l2.length ≤ 140737488355328) (hbase : base ≤ w.heap.size)
    (h : ∀ v' w', Own base w' v' (l ++ l2) → Below base w w' → w.grownBy w' v.ownBlock → wpList Tryz.prog ops Q rest (a.put o.dst v') w') : wpList Tryz.prog ops Q (o :: rest) a w :=
  wpList_plain hgd fun K hK => by
    obtain ⟨v', w', hrun, h2, h3, h4⟩ := run_app hown hm hr hsz hbase o.type
    exact wp_app_run s x _ ho hs hx hrun (hK _ _ (h v' w' h2 h3 h4))
theorem Own.made (w : World) (base : Nat) (cs : Array Value) (c : Nat) (hb : base ≤ w.heap.size) (hc : c ≤ maxLen) (hs : cs.size = c) : Own base (w.alloc (.cells cs 5)) (.slice (some ⟨w.heap.size, 0, none⟩) 0 c) [] :=
  World.ownsRow_made w cs c hb hc (by omega)
/-- A byte is stored. -/
theorem Own.stored {base : Nat} {w : World} {g n c : Nat} {l : List UInt8} (h : Own base w (.slice (some ⟨g, 0, none⟩) n c) l) (j : Nat) (x : UInt8) : Own base (w.setCell ⟨g, j, none⟩ (bv x)) (.slice (some ⟨g, 0, none⟩) n c) (l.set j x) := by
  have hn : n = l.length := by
    rcases h.2 with ⟨h1, _⟩ | ⟨_, _, _, h1, _⟩
    · cases h1
    · injection h1
  subst hn
  have h1 := World.ownsRow.stored (h : w.ownsRow base 5 1 (.slice (some ⟨g, 0, none⟩) l.length c) l.length (bvs l)) j (bv x)
  unfold Own
  rw [List.length_set]
  have e : bvs (l.set j x) = (bvs l).set j (bv x) := by simp [bvs, List.map_set]
  rw [e]
  exact h1.1
/-- A slice that is written out. -/
theorem Own.lit (w : World) (base : Nat) (l : List UInt8) (hb : base ≤ w.heap.size) (hm : l.length ≤ maxLen) : Own base (w.alloc (.cells (bvs l).toArray 5)) (.slice (some ⟨w.heap.size, 0, none⟩) l.length l.length) l := by
  have := World.ownsRow_lit (size := 1) (e := 5) w (bvs l).toArray l.length hb hm (by simp [bvs])
  simpa [Own] using this
theorem Own.lit' (w : World) (base : Nat) (l : List UInt8) (cs : Array Value) (n : Nat) (hcs : cs = (bvs l).toArray) (hn : n = l.length) (hb : base ≤ w.heap.size) (hm : l.length ≤ maxLen) : Own base (w.alloc (.cells cs 5)) (.slice (some ⟨w.heap.size, 0, none⟩) n n) l := by
  subst hcs hn
  exact Own.lit w base l hb hm
theorem Lies.lit (w : World) (l : List UInt8) : Lies (w.alloc (.cells (bvs l).toArray 5)) (w.heap.size + 1) (some ⟨w.heap.size, 0, none⟩) l := fun _ =>
  ⟨w.heap.size, 0, rfl, Nat.lt_succ_self _, fun j x hx => by
    have := World.news_of_block (heap_alloc_new w (.cells (bvs l).toArray 5)) j (bv x) (by simp [bvs, hx])
    rwa [plainAdd] at this⟩
theorem Lies.litM (w : World) (l : List UInt8) (fr : Nat × Nat) : Lies (w.alloc (.cells (bvs l).toArray 5 fr)) (w.heap.size + 1) (some ⟨w.heap.size, 0, none⟩) l := fun _ =>
  ⟨w.heap.size, 0, rfl, Nat.lt_succ_self _, fun j x hx => by
    have := World.news_of_block (heap_alloc_new w (.cells (bvs l).toArray 5 fr)) j (bv x) (by simp [bvs, hx])
    rwa [plainAdd] at this⟩
theorem Lies.one (w : World) (X : Int) (x : UInt8) (h : X = (x.toNat : Int)) : Lies (w.alloc (.cells #[.int .u8 X] 5)) (w.heap.size + 1) (some ⟨w.heap.size, 0, none⟩) [x] := by
  subst h
  exact Lies.lit w [x]
theorem LiesL.two {w : World} {B : Nat} {A1 A2 : Option Addr} {n1 n2 : Nat} (c1 c2 : Nat) {l1 l2 : List UInt8} (h1 : n1 = l1.length) (h2 : n2 = l2.length) (r1 : Lies w B A1 l1) (r2 : Lies w B A2 l2) (hB : B ≤ w.heap.size) :
    LiesL (w.alloc (.cells #[.slice A1 n1 c1, .slice A2 n2 c2] 37)) (w.heap.size + 1) (some ⟨w.heap.size, 0, none⟩) [l1, l2] := fun _ => by
  subst h1 h2
  refine ⟨w.heap.size, 0, rfl, Nat.lt_succ_self _, fun j l hl => ?_⟩
  have hn := World.news_of_block (heap_alloc_new w (.cells #[.slice A1 l1.length c1, .slice A2 l2.length c2] 37))
  match j, hl with
  | 0, hl =>
    simp at hl; subst hl
    refine ⟨A1, c1, ?_, (r1.alloc hB _).more (by omega)⟩
    have := hn 0 _ rfl
    rwa [plainAdd] at this
  | 1, hl =>
    simp at hl; subst hl
    refine ⟨A2, c2, ?_, (r2.alloc hB _).more (by omega)⟩
    have := hn 1 _ rfl
    rwa [plainAdd] at this
theorem LiesL.one {w : World} {B : Nat} {A1 : Option Addr} {n1 : Nat} (c1 : Nat) {l1 : List UInt8} (h1 : n1 = l1.length) (r1 : Lies w B A1 l1) (hB : B ≤ w.heap.size) :
    LiesL (w.alloc (.cells #[.slice A1 n1 c1] 37)) (w.heap.size + 1) (some ⟨w.heap.size, 0, none⟩) [l1] := fun _ => by
  subst h1
  refine ⟨w.heap.size, 0, rfl, Nat.lt_succ_self _, fun j l hl => ?_⟩
  have hn := World.news_of_block (heap_alloc_new w (.cells #[.slice A1 l1.length c1] 37))
  match j, hl with
  | 0, hl =>
    simp at hl; subst hl
    refine ⟨A1, c1, ?_, (r1.alloc hB _).more (by omega)⟩
    have := hn 0 _ rfl
    rwa [plainAdd] at this
/-- 's[k:]'. -/
theorem run_from (w : World) (A : Option Addr) (n c k : Nat) (hk : k ≤ n) : (Instr.slice 37 (.slice A n c) (some (.int .i64 (k : Int))) none none).run Tryz.prog w = .ok (.slice (cutA A c k) (n - k) (c - k)) w := by
  have ht : Tryz.prog.underlying 37 = some (.slice (Tryz.prog.elem 37)) := by simp [Program.elem, Tryz.underlying37]
  rw [run_slice_l w _ _ _ _ ht .i64 _ (by omega) (by omega)]
  have he : Tryz.prog.elem 37 = 5 := by simp [Program.elem, Tryz.underlying37]
  rw [he, show (sizeOf 5).run Tryz.prog w = .ok 1 w from by kernel_rfl]
  simp [Result.andThen, sliced, cutA]
/-- 's[:h]'. -/
theorem run_to (w : World) (A : Option Addr) (n c h : Nat) (hh : h ≤ c) : (Instr.slice 37 (.slice A n c) none (some (.int .i64 (h : Int))) none).run Tryz.prog w = .ok (.slice A h c) w := by
  have ht : Tryz.prog.underlying 37 = some (.slice (Tryz.prog.elem 37)) := by simp [Program.elem, Tryz.underlying37]
  rw [run_slice_h w _ _ _ _ ht .i64 _ (by omega) (by omega)]
  have he : Tryz.prog.elem 37 = 5 := by simp [Program.elem, Tryz.underlying37]
  rw [he, show (sizeOf 5).run Tryz.prog w = .ok 1 w from by kernel_rfl]
  cases A <;> simp [Result.andThen, sliced, Addr.add]
/-- 's[k:h]'. -/
theorem run_cut (w : World) (A : Option Addr) (n c k h : Nat) (hk : k ≤ h) (hh : h ≤ c) : (Instr.slice 37 (.slice A n c) (some (.int .i64 (k : Int))) (some (.int .i64 (h : Int))) none).run Tryz.prog w = .ok (.slice (cutA A c k) (h - k) (c - k)) w := by
  have ht : Tryz.prog.underlying 37 = some (.slice (Tryz.prog.elem 37)) := by simp [Program.elem, Tryz.underlying37]
  rw [run_slice_lh w _ _ _ _ ht .i64 .i64 _ _ (by omega) (by omega) (by omega)]
  have he : Tryz.prog.elem 37 = 5 := by simp [Program.elem, Tryz.underlying37]
  rw [he, show (sizeOf 5).run Tryz.prog w = .ok 1 w from by kernel_rfl]
  simp [Result.andThen, sliced, cutA]
/-- A text of bytes. -/
def str (l : List UInt8) : ByteArray := ⟨l.toArray⟩
theorem str_inj {l m : List UInt8} (h : str l = str m) : l = m := by unfold str at h; injection h with h; simpa using h
/-- 'string(s)'. -/
theorem run_text (w : World) {B : Nat} {A : Option Addr} {n : Nat} (c : Nat) {l : List UInt8} (hn : n = l.length) (h : Lies w B A l) : (convert 37 9 (.slice A n c)).run Tryz.prog w = .ok (.string (str l)) w := by
  subst hn
  have e1 : strOfNums (l.map fun x => (x.toNat : Int)) = str l := by
    unfold strOfNums str
    rw [List.map_map]
    congr 2
    conv => rhs; rw [← List.map_id l]
    apply List.map_congr_left
    intro x _
    simp
  rcases Nat.eq_zero_or_pos l.length with h0 | h0
  · have hl : l = [] := List.length_eq_zero_iff.1 h0
    subst hl
    rcases A with _ | ad
    · exact run_convert_bytes_nil w _ _ Tryz.underlying37 Tryz.underlying5 0 c _ Tryz.underlying9
    · rw [run_convert_bytes_string w _ _ _ _ _ _ Tryz.underlying37 Tryz.underlying5 Tryz.underlying9]
      exact run_bytesToString w ad 0 c [] (by simp [loadCells, loadCellsFrom, Sem.run_pure])
  · obtain ⟨g, o, rfl, _, hc⟩ := h h0
    rw [← e1]
    refine run_convert_bytes_arg w _ _ Tryz.underlying37 Tryz.underlying5 g o _ c _ (by simp) (fun i hi => ?_) _ Tryz.underlying9
    rw [hc i _ (List.getElem?_eq_getElem hi)]
    simp [bv, List.getD, hi]
/-- True, and old memory as it was. -/
def True_ (w : World) (e : Ending) (w' : World) : Prop := e = .returned (.bool true) ∧ Below w.heap.size w w'
theorem lies_take {w : World} {B : Nat} {A : Option Addr} {l : List UInt8} (h : Lies w B A l) (k : Nat) : Lies w B A (l.take k) := fun hn => by
  have hk : 0 < l.length := by rw [List.length_take] at hn; omega
  obtain ⟨g, o, e, hg, hc⟩ := h hk
  refine ⟨g, o, e, hg, fun j x hx => hc j x ?_⟩
  rw [List.getElem?_take] at hx
  split at hx
  · exact hx
  · cases hx
theorem ext {w w1 w2 : World} (h1 : Below w.heap.size w w1) (h2 : Below w1.heap.size w1 w2) : Below w.heap.size w w2 := h1.trans (h2.mono h1.size)
theorem lext {w w1 : World} {A : Option Addr} {l : List UInt8} (h : Lies w w.heap.size A l) (h1 : Below w.heap.size w w1) : Lies w1 w1.heap.size A l := (h.below h1).more h1.size
theorem str_append (l m : List UInt8) : str l ++ str m = str (l ++ m) := by
  unfold str
  apply ByteArray.ext
  simp
theorem str_size (l : List UInt8) : (str l).size = l.length := by simp [str, ByteArray.size]
theorem grown_trans {w w1 w2 : World} {r : Option Nat} (h1 : w.grownBy w1 r) (h2 : w1.grownBy w2 r) : w.grownBy w2 r :=
  ⟨h2.os.trans h1.os, h2.tape.trans h1.tape, h2.output.trans h1.output, Nat.le_trans h1.size h2.size, fun k hk hr => (h2.block k (Nat.lt_of_lt_of_le hk h1.size) hr).trans (h1.block k hk hr)⟩
theorem grown_refl (w : World) (r : Option Nat) : w.grownBy w r := ⟨rfl, rfl, rfl, Nat.le_refl _, fun _ _ _ => rfl⟩
theorem own_head {base : Nat} {w : World} {A : Option Addr} {n c : Nat} {l : List UInt8} (h : Own base w (.slice A n c) l) (hn : 0 < n) : ∃ g, A = some ⟨g, 0, none⟩ ∧ base ≤ g ∧ g < w.heap.size ∧ n = l.length := by
  have hl : n = l.length := by
    rcases h.2 with ⟨h1, h2⟩ | ⟨_, _, _, h1, _⟩
    · injection h1 with _ h3; omega
    · injection h1
  obtain ⟨g, c', h1, h2, h3⟩ := World.ownsRow.form h (by omega)
  injection h1 with h1
  exact ⟨g, h1, h2, h3, hl⟩
theorem own_cell {base : Nat} {w : World} {g n c : Nat} {l : List UInt8} (h : Own base w (.slice (some ⟨g, 0, none⟩) n c) l) {j : Nat} (hj : j < l.length) : w.cell? ⟨g, j, none⟩ = some (.int .u8 (l[j].toNat : Int)) := by
  have := World.ownsRow.cells h (g := g) rfl j (bv l[j]) (by simp [bvs, hj])
  rwa [plainAdd, Nat.zero_add] at this
theorem own_free {base : Nat} {w : World} {g n c : Nat} {l : List UInt8} (h : Own base w (.slice (some ⟨g, 0, none⟩) n c) l) (hn : n = l.length) (j : Nat) : w.frozen? ⟨g, j, none⟩ = false := by
  subst hn
  exact World.ownsRow.frozenAt h j
theorem own_set {base : Nat} {w : World} {g n c : Nat} {l : List UInt8} (h : Own base w (.slice (some ⟨g, 0, none⟩) n c) l) (hn : n = l.length) (j : Nat) (x : UInt8) :
    Own base (w.setCell ⟨g, j, none⟩ (bv x)) (.slice (some ⟨g, 0, none⟩) n c) (l.set j x) ∧ w.grownBy (w.setCell ⟨g, j, none⟩ (bv x)) (some g) := by
  refine ⟨h.stored j x, ?_⟩
  subst hn
  exact (World.ownsRow.stored h j (bv x)).2
end Go.Proofs.YtdbaajgkcjpnoaaGreat.By
