/- Lists of bytes in memory: a slice that reads as a list of bytes, a slice of the call's own that holds one, what is appended to it, its cuts, its text. Nothing here speaks of one function. | Plain facts on numbers as bytes, frames, and the sum of bytes. No program, no walk. | What a call gives, as plain posts; and facts of numbers read. Nothing here speaks of one function. | The reference's PutNum and PutBytes, as contracts of calls. | The reference's Num, as a contract of calls. | The reference's Bytes, as a contract of calls. -/
import Derived.Test.YtloieecpgndbhaaGreatProg
import Derived.WalkKit
import Derived.ProofKit
import Derived.OpenShut
import Derived.Below
import Derived.Laws.OwnMore
import Derived.Laws.BytesArg
import Derived.WalkSpells
import Derived.Deep.AppendLies
import Derived.Deep.Draws
import Derived.Lib.Hide
import Derived.Lib.BitFns
import Derived.Laws.BitsAllLaws
import Derived.OwnWalk
import Derived.Deep.QuietTactic
import Derived.BigQuiet
/-! Lists of bytes in memory: a slice that reads as a list of bytes, a slice of the call's own that holds one, what is appended to it, its cuts, its text. Nothing here speaks of one function. -/
namespace Go.Proofs.YtloieecpgndbhaaGreat.By
open Go.RowKit

/-- A byte as a cell. -/
def bv (x : UInt8) : Value := .int .u8 (x.toNat : Int)
def bvs (l : List UInt8) : List Value := l.map bv
theorem bvs_length (l : List UInt8) : (bvs l).length = l.length := by simp [bvs]
theorem bvs_append (l m : List UInt8) : bvs (l ++ m) = bvs l ++ bvs m := by simp [bvs]
theorem bvs_get {l : List UInt8} {j : Nat} {u : Value} (h : (bvs l)[j]? = some u) : ∃ x, l[j]? = some x ∧ u = bv x := by
  simp only [bvs, List.getElem?_map, Option.map_eq_some_iff] at h
  obtain ⟨x, hx, rfl⟩ := h
  exact ⟨x, hx, rfl⟩
theorem bvs_one {l : List UInt8} : ∀ u ∈ bvs l, u.oneCell' = true := by
  intro u hu
  simp only [bvs, List.mem_map] at hu
  obtain ⟨x, _, rfl⟩ := hu
  rfl
theorem byte_lo (x : UInt8) : (0 : Int) ≤ (x.toNat : Int) := by omega
theorem byte_hi (x : UInt8) : (x.toNat : Int) ≤ 255 := by have := x.toNat_lt; omega

theorem plainAdd (b o j : Nat) : (⟨b, o, none⟩ : Addr).add j = ⟨b, o + j, none⟩ := by unfold Addr.add; split <;> simp_all

/-- The cells of a slice that begins at A hold the bytes l, and lie below block B. -/
def Lies (w : World) (B : Nat) (A : Option Addr) (l : List UInt8) : Prop :=
  0 < l.length → ∃ g o, A = some ⟨g, o, none⟩ ∧ g < B ∧ ∀ j x, l[j]? = some x → w.cell? ⟨g, o + j, none⟩ = some (bv x)

section
variable {w w' : World} {B B' : Nat} {A : Option Addr} {l : List UInt8}
theorem Lies.empty (w : World) (B : Nat) (A : Option Addr) : Lies w B A [] := fun h => absurd h (by simp)
theorem Lies.keep (h : Lies w B A l) (hk : ∀ p : Addr, p.block < B → w'.cell? p = w.cell? p) : Lies w' B A l := fun hn => by
  obtain ⟨g, o, e, hg, hc⟩ := h hn
  exact ⟨g, o, e, hg, fun j x hx => (hk _ hg).trans (hc j x hx)⟩
theorem Lies.more (h : Lies w B A l) (hB : B ≤ B') : Lies w B' A l := fun hn => by
  obtain ⟨g, o, e, hg, hc⟩ := h hn
  exact ⟨g, o, e, by omega, hc⟩
theorem Lies.below (h : Lies w B A l) (hb : Below B w w') : Lies w' B A l := h.keep fun _ hp => hb.cell hp
theorem Lies.drew (h : Lies w B A l) : Lies w.drew B A l := h
theorem Lies.drewN (h : Lies w B A l) (k : Nat) : Lies (w.drewN k) B A l := h
theorem Lies.alloc (h : Lies w B A l) (hB : B ≤ w.heap.size) (o : Obj) : Lies (w.alloc o) B A l := h.keep fun p hp => World.cell?_alloc_lt w o p (by omega)
theorem Lies.setCell (h : Lies w B A l) {p : Addr} (hB : B ≤ p.block) (u : Value) : Lies (w.setCell p u) B A l :=
  h.keep fun q hq => World.cell?_setCell_other w p q u (fun e => by subst e; omega)
/-- One cell. -/
theorem Lies.at_ (h : Lies w B A l) {k : Nat} (hk : k < l.length) : ∃ g o, A = some ⟨g, o, none⟩ ∧ g < B ∧ w.cell? ⟨g, o + k, none⟩ = some (.int .u8 (l[k].toNat : Int)) := by
  obtain ⟨g, o, e, hg, hc⟩ := h (by omega)
  exact ⟨g, o, e, hg, hc k _ (List.getElem?_eq_getElem hk)⟩
end

/-- The cells of a slice of slices of bytes that begins at A hold slices of the bytes ls; all lie below block B. -/
def LiesL (w : World) (B : Nat) (A : Option Addr) (ls : List (List UInt8)) : Prop :=
  0 < ls.length → ∃ g o, A = some ⟨g, o, none⟩ ∧ g < B ∧ ∀ j l, ls[j]? = some l → ∃ Aj cj, w.cell? ⟨g, o + j, none⟩ = some (.slice Aj l.length cj) ∧ Lies w B Aj l
section
variable {w w' : World} {B B' : Nat} {A : Option Addr} {ls : List (List UInt8)}
theorem LiesL.empty (w : World) (B : Nat) (A : Option Addr) : LiesL w B A [] := fun h => absurd h (by simp)
theorem LiesL.keep (h : LiesL w B A ls) (hk : ∀ p : Addr, p.block < B → w'.cell? p = w.cell? p) : LiesL w' B A ls := fun hn => by
  obtain ⟨g, o, e, hg, hc⟩ := h hn
  refine ⟨g, o, e, hg, fun j l hl => ?_⟩
  obtain ⟨Aj, cj, h1, h2⟩ := hc j l hl
  exact ⟨Aj, cj, (hk _ hg).trans h1, h2.keep hk⟩
theorem LiesL.more (h : LiesL w B A ls) (hB : B ≤ B') : LiesL w B' A ls := fun hn => by
  obtain ⟨g, o, e, hg, hc⟩ := h hn
  refine ⟨g, o, e, by omega, fun j l hl => ?_⟩
  obtain ⟨Aj, cj, h1, h2⟩ := hc j l hl
  exact ⟨Aj, cj, h1, h2.more hB⟩
theorem LiesL.below (h : LiesL w B A ls) (hb : Below B w w') : LiesL w' B A ls := h.keep fun _ hp => hb.cell hp
theorem LiesL.alloc (h : LiesL w B A ls) (hB : B ≤ w.heap.size) (o : Obj) : LiesL (w.alloc o) B A ls := h.keep fun p hp => World.cell?_alloc_lt w o p (by omega)
theorem LiesL.at_ (h : LiesL w B A ls) {k : Nat} (hk : k < ls.length) : ∃ g o Aj cj, A = some ⟨g, o, none⟩ ∧ g < B ∧ w.cell? ⟨g, o + k, none⟩ = some (.slice Aj (ls[k]).length cj) ∧ Lies w B Aj ls[k] := by
  obtain ⟨g, o, e, hg, hc⟩ := h (by omega)
  obtain ⟨Aj, cj, h1, h2⟩ := hc k _ (List.getElem?_eq_getElem hk)
  exact ⟨g, o, Aj, cj, e, hg, h1, h2⟩
end

/-- Where 's[k:]' begins, of a slice that begins at A and has room for c. -/
def cutA (A : Option Addr) (c k : Nat) : Option Addr := if c = k then A else A.map (·.add k)
theorem cutA_some {b o c k : Nat} (h : k < c) : cutA (some ⟨b, o, none⟩) c k = some ⟨b, o + k, none⟩ := by
  unfold cutA
  rw [if_neg (by omega)]
  simp [plainAdd]
theorem Lies.cut {w : World} {B : Nat} {A : Option Addr} {l : List UInt8} (h : Lies w B A l) {c : Nat} (hc : l.length ≤ c) (k h2 : Nat) (hk : k ≤ h2) (hh : h2 ≤ l.length) :
    Lies w B (cutA A c k) ((l.take h2).drop k) := fun hn => by
  have hn' : k < h2 := by simp only [List.length_drop, List.length_take] at hn; omega
  obtain ⟨g, o, rfl, hg, hcell⟩ := h (by omega)
  refine ⟨g, o + k, cutA_some (by omega), hg, fun j x hx => ?_⟩
  rw [Nat.add_assoc]
  refine hcell _ x ?_
  rw [List.getElem?_drop] at hx
  rw [List.getElem?_take] at hx
  split at hx
  · exact hx
  · cases hx

/-- The call's own slice of bytes. -/
def Own (base : Nat) (w : World) (v : Value) (l : List UInt8) : Prop := w.ownsRow base 5 1 v l.length (bvs l)
/-- It is a slice. -/
theorem Own.form {base : Nat} {w : World} {v : Value} {l : List UInt8} (h : Own base w v l) : ∃ A c, v = .slice A l.length c ∧ l.length ≤ c ∧ c ≤ maxLen ∧ (A = none → c = 0) ∧ Lies w w.heap.size A l ∧ (∀ k, v.ownBlock = some k → base ≤ k ∧ k < w.heap.size) := by
  have hlt := h.lt
  rcases h.2 with ⟨rfl, h0⟩ | ⟨g, cap, cur, rfl, hb, hg, hn, hm, hs, ht⟩
  · have hl : l = [] := List.length_eq_zero_iff.1 h0
    subst hl
    exact ⟨none, 0, rfl, Nat.le_refl _, Nat.zero_le _, fun _ => rfl, Lies.empty _ _ _, hlt⟩
  · refine ⟨some ⟨g, 0, none⟩, cap, rfl, hn, hm, (fun e => by cases e), (fun _ => ⟨g, 0, rfl, (hlt g rfl).2, fun j x hx => ?_⟩), hlt⟩
    have hc := h.cells (g := g) rfl j (bv x) (by simp [bvs, hx])
    rwa [plainAdd] at hc
theorem Own.kept {base B : Nat} {w w' : World} {v : Value} {l : List UInt8} (h : Own base w v l) (hb : Below B w w') (hB : w.heap.size ≤ B) : Own base w' v l :=
  World.ownsRow.kept h (row := none) ⟨hb.os, hb.tape, hb.output, hb.size, fun k hk _ => hb.block k (by omega)⟩ (by
    rcases hv : v.ownBlock with _ | k
    · exact .inl rfl
    · exact .inr (by simp))
theorem Own.alloc {base : Nat} {w : World} {v : Value} {l : List UInt8} (h : Own base w v l) (o : Obj) : Own base (w.alloc o) v l := World.ownsRow.alloc h o
theorem Own.nil (base : Nat) (w : World) : Own base w (.slice none 0 0) [] := World.ownsRow_nil w base _ 1
theorem Own.more {base base' : Nat} {w : World} {v : Value} {l : List UInt8} (h : Own base w v l) (hb : base' ≤ base) : Own base' w v l := by
  refine ⟨h.1, ?_⟩
  rcases h.2 with hn | ⟨g, cap, cur, hv, hg, rest⟩
  · exact .inl hn
  · exact .inr ⟨g, cap, cur, hv, by omega, rest⟩

theorem u8Info : (Tryz.prog.info? 5).map (fun i => (i.zero, i.size, i.bytes)) = some (some (.int .u8 0), 1, 1) := by kernel_rfl

theorem run_append_none {P : Program} (w : World) (base : Nat) (t ty e : TypeId) (i : TypeInfo) (size : Nat) (ht : P.underlying t = some (.slice e)) (hi : P.info? e = some i)
    (v : Value) (n : Nat) (xs : List Value) (hown : w.ownsRow base e size v n xs) (c : Nat) : (Builtin.append_ #[t, t] ty #[v, .slice none 0 c]).run P w = .ok v w := by
  rcases hown.2 with ⟨rfl, rfl⟩ | ⟨g, cap, cur, rfl, _, _, hnc, _⟩
  · simp [Builtin.append_, run_underlying ht, sizeOf, typeInfo, hi, Builtin.lenOf, Builtin.firstCells]
  · simp [Builtin.append_, run_underlying ht, sizeOf, typeInfo, hi, Builtin.lenOf, Builtin.firstCells, hnc, storeCells]

/-- Appending bytes to bytes of the call's own, by its run. -/
theorem run_app {base : Nat} {w : World} {v : Value} {l : List UInt8} (hown : Own base w v l) {B : Nat} {A : Option Addr} {m c : Nat} {l2 : List UInt8} (hm : m = l2.length) (hr : Lies w B A l2)
    (hsz : l.length + l2.length ≤ 140737488355328) (hbase : base ≤ w.heap.size) (ty : TypeId) :
    ∃ v' w', (Builtin.append_ #[23, 23] ty #[v, .slice A m c]).run Tryz.prog w = .ok v' w' ∧ Own base w' v' (l ++ l2) ∧ Below base w w' ∧ w.grownBy w' v.ownBlock := by
  obtain ⟨i0, hi, hz0, hz1, hz2⟩ := info_parts u8Info
  subst hm
  have far : ∀ {w1 : World}, w.grownBy w1 v.ownBlock → Below base w w1 := fun hg => (Below.refl base w).grown hg hbase (fun k hk => (hown.lt k hk).1)
  rcases A with _ | ad
  · have h0 : l2 = [] := by
      rcases Nat.eq_zero_or_pos l2.length with h0 | h0
      · exact List.length_eq_zero_iff.1 h0
      · obtain ⟨g, o, e, _⟩ := hr h0
        cases e
    subst h0
    exact ⟨v, w, run_append_none w base _ ty _ i0 1 Tryz.underlying23 hi v _ _ hown c, by simpa using hown, Below.refl _ _, ⟨rfl, rfl, rfl, Nat.le_refl _, fun _ _ _ => rfl⟩⟩
  · have hcells : ∀ j u, (bvs l2)[j]? = some u → w.cell? (ad.add j) = some u := by
      intro j u hu
      obtain ⟨x, hx, rfl⟩ := bvs_get hu
      have hj : j < l2.length := (List.getElem?_eq_some_iff.1 hx).1
      obtain ⟨g, o, e, _, hc⟩ := hr (by omega)
      obtain rfl : ad = ⟨g, o, none⟩ := Option.some.inj e
      rw [plainAdd]
      exact hc j x hx
    obtain ⟨v', w', hrun, h2, h3, _⟩ := run_append_own (P := Tryz.prog) w base 23 ty 5 i0 (.int .u8 0) 1 1 Tryz.underlying23 hi hz0 hz1 hz2 rfl (by decide) v l.length (bvs l) hown ad l2.length c (bvs l2) (by rw [bvs_length]; omega) hcells bvs_one
      (by unfold maxLen; omega) (by omega) hbase
    exact ⟨v', w', hrun, by unfold Own; rw [List.length_append, bvs_append]; exact h2, far h3, h3⟩

theorem wp_app_run {P : Program} {w w' : World} {o : Oper} {a : Act} {K : Act → World → Prop} {Q : Exit → Act → World → Prop} (s x : Operand) (t : TypeId)
    (ho : o.op = .call { callee := .builtin .append, args := #[s, x], argTypes := #[t, t] }) {v v2 v' : Value} (hs : a.eval s = v) (hx : a.eval x = v2)
    (hrun : (Builtin.append_ #[t, t] o.type #[v, v2]).run P w = .ok v' w') (h : K (a.put o.dst v') w') : o.wp P a w K Q := by
  unfold Oper.wp execOp
  simp only [ho, resolve, invoke, builtin, Sem.run_bind, Sem.run_pure, Result.andThen_ok, List.map_toArray, List.map_cons, List.map_nil, hs, hx, hrun]
  exact h
theorem wpList_app {ops : Array Oper} {rest : List Oper} {o : Oper} {a : Act} {Q : Exit → Act → World → Prop} {w : World} (hgd : o.guard = none) (s x : Operand)
    (ho : o.op = .call { callee := .builtin .append, args := #[s, x], argTypes := #[23, 23] })
    {base : Nat} {v : Value} {l : List UInt8} (hs : a.eval s = v) (hown : Own base w v l) {B : Nat} {A : Option Addr} {m c : Nat} {l2 : List UInt8} (hx : a.eval x = .slice A m c) (hm : m = l2.length) (hr : Lies w B A l2)
    (hsz : l.length + l2.length ≤ 140737488355328) (hbase : base ≤ w.heap.size)
    (h : ∀ v' w', Own base w' v' (l ++ l2) → Below base w w' → w.grownBy w' v.ownBlock → wpList Tryz.prog ops Q rest (a.put o.dst v') w') : wpList Tryz.prog ops Q (o :: rest) a w :=
  wpList_plain hgd fun K hK => by
    obtain ⟨v', w', hrun, h2, h3, h4⟩ := run_app hown hm hr hsz hbase o.type
    exact wp_app_run s x _ ho hs hx hrun (hK _ _ (h v' w' h2 h3 h4))
theorem Own.made (w : World) (base : Nat) (cs : Array Value) (c : Nat) (hb : base ≤ w.heap.size) (hc : c ≤ maxLen) (hs : cs.size = c) : Own base (w.alloc (.cells cs 5)) (.slice (some ⟨w.heap.size, 0, none⟩) 0 c) [] :=
  World.ownsRow_made w cs c hb hc (by omega)
/-- A byte is stored. -/
theorem Own.stored {base : Nat} {w : World} {g n c : Nat} {l : List UInt8} (h : Own base w (.slice (some ⟨g, 0, none⟩) n c) l) (j : Nat) (x : UInt8) : Own base (w.setCell ⟨g, j, none⟩ (bv x)) (.slice (some ⟨g, 0, none⟩) n c) (l.set j x) := by
  have hn : n = l.length := by
    rcases h.2 with ⟨h1, _⟩ | ⟨_, _, _, h1, _⟩
    · cases h1
    · injection h1
  subst hn
  have h1 := World.ownsRow.stored (h : w.ownsRow base 5 1 (.slice (some ⟨g, 0, none⟩) l.length c) l.length (bvs l)) j (bv x)
  unfold Own
  rw [List.length_set]
  have e : bvs (l.set j x) = (bvs l).set j (bv x) := by simp [bvs, List.map_set]
  rw [e]
  exact h1.1
/-- A slice that is written out. -/
theorem Own.lit (w : World) (base : Nat) (l : List UInt8) (hb : base ≤ w.heap.size) (hm : l.length ≤ maxLen) : Own base (w.alloc (.cells (bvs l).toArray 5)) (.slice (some ⟨w.heap.size, 0, none⟩) l.length l.length) l := by
  have := World.ownsRow_lit (size := 1) (e := 5) w (bvs l).toArray l.length hb hm (by simp [bvs])
  simpa [Own] using this
theorem Own.lit' (w : World) (base : Nat) (l : List UInt8) (cs : Array Value) (n : Nat) (hcs : cs = (bvs l).toArray) (hn : n = l.length) (hb : base ≤ w.heap.size) (hm : l.length ≤ maxLen) : Own base (w.alloc (.cells cs 5)) (.slice (some ⟨w.heap.size, 0, none⟩) n n) l := by
  subst hcs hn
  exact Own.lit w base l hb hm
theorem Lies.lit (w : World) (l : List UInt8) : Lies (w.alloc (.cells (bvs l).toArray 5)) (w.heap.size + 1) (some ⟨w.heap.size, 0, none⟩) l := fun _ =>
  ⟨w.heap.size, 0, rfl, Nat.lt_succ_self _, fun j x hx => by
    have := World.news_of_block (heap_alloc_new w (.cells (bvs l).toArray 5)) j (bv x) (by simp [bvs, hx])
    rwa [plainAdd] at this⟩
theorem Lies.litM (w : World) (l : List UInt8) (fr : Nat × Nat) : Lies (w.alloc (.cells (bvs l).toArray 5 fr)) (w.heap.size + 1) (some ⟨w.heap.size, 0, none⟩) l := fun _ =>
  ⟨w.heap.size, 0, rfl, Nat.lt_succ_self _, fun j x hx => by
    have := World.news_of_block (heap_alloc_new w (.cells (bvs l).toArray 5 fr)) j (bv x) (by simp [bvs, hx])
    rwa [plainAdd] at this⟩
theorem Lies.one (w : World) (X : Int) (x : UInt8) (h : X = (x.toNat : Int)) : Lies (w.alloc (.cells #[.int .u8 X] 5)) (w.heap.size + 1) (some ⟨w.heap.size, 0, none⟩) [x] := by
  subst h
  exact Lies.lit w [x]
theorem LiesL.two {w : World} {B : Nat} {A1 A2 : Option Addr} {n1 n2 : Nat} (c1 c2 : Nat) {l1 l2 : List UInt8} (h1 : n1 = l1.length) (h2 : n2 = l2.length) (r1 : Lies w B A1 l1) (r2 : Lies w B A2 l2) (hB : B ≤ w.heap.size) :
    LiesL (w.alloc (.cells #[.slice A1 n1 c1, .slice A2 n2 c2] 23)) (w.heap.size + 1) (some ⟨w.heap.size, 0, none⟩) [l1, l2] := fun _ => by
  subst h1 h2
  refine ⟨w.heap.size, 0, rfl, Nat.lt_succ_self _, fun j l hl => ?_⟩
  have hn := World.news_of_block (heap_alloc_new w (.cells #[.slice A1 l1.length c1, .slice A2 l2.length c2] 23))
  match j, hl with
  | 0, hl =>
    simp at hl; subst hl
    refine ⟨A1, c1, ?_, (r1.alloc hB _).more (by omega)⟩
    have := hn 0 _ rfl
    rwa [plainAdd] at this
  | 1, hl =>
    simp at hl; subst hl
    refine ⟨A2, c2, ?_, (r2.alloc hB _).more (by omega)⟩
    have := hn 1 _ rfl
    rwa [plainAdd] at this
theorem LiesL.one {w : World} {B : Nat} {A1 : Option Addr} {n1 : Nat} (c1 : Nat) {l1 : List UInt8} (h1 : n1 = l1.length) (r1 : Lies w B A1 l1) (hB : B ≤ w.heap.size) :
    LiesL (w.alloc (.cells #[.slice A1 n1 c1] 23)) (w.heap.size + 1) (some ⟨w.heap.size, 0, none⟩) [l1] := fun _ => by
  subst h1
  refine ⟨w.heap.size, 0, rfl, Nat.lt_succ_self _, fun j l hl => ?_⟩
  have hn := World.news_of_block (heap_alloc_new w (.cells #[.slice A1 l1.length c1] 23))
  match j, hl with
  | 0, hl =>
    simp at hl; subst hl
    refine ⟨A1, c1, ?_, (r1.alloc hB _).more (by omega)⟩
    have := hn 0 _ rfl
    rwa [plainAdd] at this
/-- 's[k:]'. -/
theorem run_from (w : World) (A : Option Addr) (n c k : Nat) (hk : k ≤ n) : (Instr.slice 23 (.slice A n c) (some (.int .i64 (k : Int))) none none).run Tryz.prog w = .ok (.slice (cutA A c k) (n - k) (c - k)) w := by
  have ht : Tryz.prog.underlying 23 = some (.slice (Tryz.prog.elem 23)) := by simp [Program.elem, Tryz.underlying23]
  rw [run_slice_l w _ _ _ _ ht .i64 _ (by omega) (by omega)]
  have he : Tryz.prog.elem 23 = 5 := by simp [Program.elem, Tryz.underlying23]
  rw [he, show (sizeOf 5).run Tryz.prog w = .ok 1 w from by kernel_rfl]
  simp [Result.andThen, sliced, cutA]
/-- 's[:h]'. -/
theorem run_to (w : World) (A : Option Addr) (n c h : Nat) (hh : h ≤ c) : (Instr.slice 23 (.slice A n c) none (some (.int .i64 (h : Int))) none).run Tryz.prog w = .ok (.slice A h c) w := by
  have ht : Tryz.prog.underlying 23 = some (.slice (Tryz.prog.elem 23)) := by simp [Program.elem, Tryz.underlying23]
  rw [run_slice_h w _ _ _ _ ht .i64 _ (by omega) (by omega)]
  have he : Tryz.prog.elem 23 = 5 := by simp [Program.elem, Tryz.underlying23]
  rw [he, show (sizeOf 5).run Tryz.prog w = .ok 1 w from by kernel_rfl]
  cases A <;> simp [Result.andThen, sliced, Addr.add]
/-- 's[k:h]'. -/
theorem run_cut (w : World) (A : Option Addr) (n c k h : Nat) (hk : k ≤ h) (hh : h ≤ c) : (Instr.slice 23 (.slice A n c) (some (.int .i64 (k : Int))) (some (.int .i64 (h : Int))) none).run Tryz.prog w = .ok (.slice (cutA A c k) (h - k) (c - k)) w := by
  have ht : Tryz.prog.underlying 23 = some (.slice (Tryz.prog.elem 23)) := by simp [Program.elem, Tryz.underlying23]
  rw [run_slice_lh w _ _ _ _ ht .i64 .i64 _ _ (by omega) (by omega) (by omega)]
  have he : Tryz.prog.elem 23 = 5 := by simp [Program.elem, Tryz.underlying23]
  rw [he, show (sizeOf 5).run Tryz.prog w = .ok 1 w from by kernel_rfl]
  simp [Result.andThen, sliced, cutA]
/-- A text of bytes. -/
def str (l : List UInt8) : ByteArray := ⟨l.toArray⟩
theorem str_inj {l m : List UInt8} (h : str l = str m) : l = m := by unfold str at h; injection h with h; simpa using h
/-- 'string(s)'. -/
theorem run_text (w : World) {B : Nat} {A : Option Addr} {n : Nat} (c : Nat) {l : List UInt8} (hn : n = l.length) (h : Lies w B A l) : (convert 23 9 (.slice A n c)).run Tryz.prog w = .ok (.string (str l)) w := by
  subst hn
  have e1 : strOfNums (l.map fun x => (x.toNat : Int)) = str l := by
    unfold strOfNums str
    rw [List.map_map]
    congr 2
    conv => rhs; rw [← List.map_id l]
    apply List.map_congr_left
    intro x _
    simp
  rcases Nat.eq_zero_or_pos l.length with h0 | h0
  · have hl : l = [] := List.length_eq_zero_iff.1 h0
    subst hl
    rcases A with _ | ad
    · exact run_convert_bytes_nil w _ _ Tryz.underlying23 Tryz.underlying5 0 c _ Tryz.underlying9
    · rw [run_convert_bytes_string w _ _ _ _ _ _ Tryz.underlying23 Tryz.underlying5 Tryz.underlying9]
      exact run_bytesToString w ad 0 c [] (by simp [loadCells, loadCellsFrom, Sem.run_pure])
  · obtain ⟨g, o, rfl, _, hc⟩ := h h0
    rw [← e1]
    refine run_convert_bytes_arg w _ _ Tryz.underlying23 Tryz.underlying5 g o _ c _ (by simp) (fun i hi => ?_) _ Tryz.underlying9
    rw [hc i _ (List.getElem?_eq_getElem hi)]
    simp [bv, List.getD, hi]
/-- True, and old memory as it was. -/
def True_ (w : World) (e : Ending) (w' : World) : Prop := e = .returned (.bool true) ∧ Below w.heap.size w w'
theorem lies_take {w : World} {B : Nat} {A : Option Addr} {l : List UInt8} (h : Lies w B A l) (k : Nat) : Lies w B A (l.take k) := fun hn => by
  have hk : 0 < l.length := by rw [List.length_take] at hn; omega
  obtain ⟨g, o, e, hg, hc⟩ := h hk
  refine ⟨g, o, e, hg, fun j x hx => hc j x ?_⟩
  rw [List.getElem?_take] at hx
  split at hx
  · exact hx
  · cases hx
theorem ext {w w1 w2 : World} (h1 : Below w.heap.size w w1) (h2 : Below w1.heap.size w1 w2) : Below w.heap.size w w2 := h1.trans (h2.mono h1.size)
theorem lext {w w1 : World} {A : Option Addr} {l : List UInt8} (h : Lies w w.heap.size A l) (h1 : Below w.heap.size w w1) : Lies w1 w1.heap.size A l := (h.below h1).more h1.size
theorem str_append (l m : List UInt8) : str l ++ str m = str (l ++ m) := by
  unfold str
  apply ByteArray.ext
  simp
theorem str_size (l : List UInt8) : (str l).size = l.length := by simp [str, ByteArray.size]
theorem grown_trans {w w1 w2 : World} {r : Option Nat} (h1 : w.grownBy w1 r) (h2 : w1.grownBy w2 r) : w.grownBy w2 r :=
  ⟨h2.os.trans h1.os, h2.tape.trans h1.tape, h2.output.trans h1.output, Nat.le_trans h1.size h2.size, fun k hk hr => (h2.block k (Nat.lt_of_lt_of_le hk h1.size) hr).trans (h1.block k hk hr)⟩
theorem grown_refl (w : World) (r : Option Nat) : w.grownBy w r := ⟨rfl, rfl, rfl, Nat.le_refl _, fun _ _ _ => rfl⟩
theorem own_head {base : Nat} {w : World} {A : Option Addr} {n c : Nat} {l : List UInt8} (h : Own base w (.slice A n c) l) (hn : 0 < n) : ∃ g, A = some ⟨g, 0, none⟩ ∧ base ≤ g ∧ g < w.heap.size ∧ n = l.length := by
  have hl : n = l.length := by
    rcases h.2 with ⟨h1, h2⟩ | ⟨_, _, _, h1, _⟩
    · injection h1 with _ h3; omega
    · injection h1
  obtain ⟨g, c', h1, h2, h3⟩ := World.ownsRow.form h (by omega)
  injection h1 with h1
  exact ⟨g, h1, h2, h3, hl⟩
theorem own_cell {base : Nat} {w : World} {g n c : Nat} {l : List UInt8} (h : Own base w (.slice (some ⟨g, 0, none⟩) n c) l) {j : Nat} (hj : j < l.length) : w.cell? ⟨g, j, none⟩ = some (.int .u8 (l[j].toNat : Int)) := by
  have := World.ownsRow.cells h (g := g) rfl j (bv l[j]) (by simp [bvs, hj])
  rwa [plainAdd, Nat.zero_add] at this
theorem own_free {base : Nat} {w : World} {g n c : Nat} {l : List UInt8} (h : Own base w (.slice (some ⟨g, 0, none⟩) n c) l) (hn : n = l.length) (j : Nat) : w.frozen? ⟨g, j, none⟩ = false := by
  subst hn
  exact World.ownsRow.frozenAt h j
theorem own_set {base : Nat} {w : World} {g n c : Nat} {l : List UInt8} (h : Own base w (.slice (some ⟨g, 0, none⟩) n c) l) (hn : n = l.length) (j : Nat) (x : UInt8) :
    Own base (w.setCell ⟨g, j, none⟩ (bv x)) (.slice (some ⟨g, 0, none⟩) n c) (l.set j x) ∧ w.grownBy (w.setCell ⟨g, j, none⟩ (bv x)) (some g) := by
  refine ⟨h.stored j x, ?_⟩
  subst hn
  exact (World.ownsRow.stored h j (bv x)).2
end Go.Proofs.YtloieecpgndbhaaGreat.By

/-! Plain facts on numbers as bytes, frames, and the sum of bytes. No program, no walk. -/
namespace Go.Proofs.YtloieecpgndbhaaGreat.CoP

/-- One bit of the sum's division. -/
def bitStep (s : Nat) : Nat := if s % 2 = 1 then s / 2 ^^^ 3988292384 else s / 2
def steps : Nat → Nat → Nat
  | 0, s => s
  | k + 1, s => bitStep (steps k s)
def byteStep (s c : Nat) : Nat := steps 8 (s ^^^ c)
def crcFrom (s : Nat) (l : List UInt8) : Nat := l.foldl (fun s c => byteStep s c.toNat) s
def crc (l : List UInt8) : Nat := 4294967295 - crcFrom 4294967295 l

theorem bitStep_lt {s : Nat} (h : s < 4294967296) : bitStep s < 4294967296 := by
  unfold bitStep
  split
  · exact Nat.xor_lt_two_pow (n := 32) (by omega) (by omega)
  · omega
theorem steps_lt {k s : Nat} (h : s < 4294967296) : steps k s < 4294967296 := by
  induction k with
  | zero => exact h
  | succ k ih => exact bitStep_lt ih
theorem xor_lt32 {a b : Nat} (ha : a < 4294967296) (hb : b < 4294967296) : a ^^^ b < 4294967296 := Nat.xor_lt_two_pow (n := 32) (by omega) (by omega)
theorem byteStep_lt {s c : Nat} (h : s < 4294967296) (hc : c < 256) : byteStep s c < 4294967296 := steps_lt (xor_lt32 h (by omega))
theorem crcFrom_lt {l : List UInt8} : ∀ {s : Nat}, s < 4294967296 → crcFrom s l < 4294967296 := by
  induction l with
  | nil => intro s h; exact h
  | cons c l ih => intro s h; exact ih (byteStep_lt h c.toNat_lt)
theorem crcFrom_append (s : Nat) (l m : List UInt8) : crcFrom s (l ++ m) = crcFrom (crcFrom s l) m := by unfold crcFrom; rw [List.foldl_append]
theorem crcFrom_snoc (s : Nat) (l : List UInt8) (c : UInt8) : crcFrom s (l ++ [c]) = byteStep (crcFrom s l) c.toNat := by rw [crcFrom_append]; rfl
theorem crc_lt (l : List UInt8) : crc l < 4294967296 := by unfold crc; omega
theorem crcFrom_take {l : List UInt8} {k : Nat} (s : Nat) (h : k < l.length) : crcFrom s (l.take (k + 1)) = byteStep (crcFrom s (l.take k)) l[k].toNat := by
  rw [List.take_succ_eq_append_getElem h, crcFrom_snoc]

/-- The bits of a byte laid on one at a time. -/
theorem xor_mod2 (a b : Nat) : (a ^^^ b) % 2 = 1 ↔ a % 2 ≠ b % 2 := by
  have h := Nat.xor_mod_two_eq_one (a := a) (b := b)
  rw [h]
  omega
theorem xor_div2 (a b : Nat) : (a ^^^ b) / 2 = a / 2 ^^^ b / 2 := by
  have := @Nat.xor_div_two_pow a b 1
  simpa using this
theorem bit_ne {s r c k : Nat} (h : steps k s = r ^^^ c / 2 ^ k) (hb : c / 2 ^ k % 2 ≠ r % 2) : steps (k + 1) s = (r / 2 ^^^ 3988292384) ^^^ c / 2 ^ (k + 1) := by
  show bitStep (steps k s) = _
  rw [h]
  unfold bitStep
  rw [if_pos ((xor_mod2 _ _).2 (fun e => hb e.symm)), xor_div2, Nat.div_div_eq_div_mul, ← Nat.pow_succ, Nat.xor_assoc, Nat.xor_assoc, Nat.xor_comm 3988292384]
theorem bit_eq {s r c k : Nat} (h : steps k s = r ^^^ c / 2 ^ k) (hb : c / 2 ^ k % 2 = r % 2) : steps (k + 1) s = (r / 2) ^^^ c / 2 ^ (k + 1) := by
  show bitStep (steps k s) = _
  rw [h]
  unfold bitStep
  rw [if_neg (fun e => (xor_mod2 _ _).1 e hb.symm), xor_div2, Nat.div_div_eq_div_mul, ← Nat.pow_succ]
theorem bit_start (s c : Nat) : steps 0 (s ^^^ c) = s ^^^ c / 2 ^ 0 := by simp [steps]
theorem bit_end {s r c : Nat} (h : steps 8 s = r ^^^ c / 2 ^ 8) (hc : c < 256) : steps 8 s = r := by
  rw [h, Nat.div_eq_of_lt (by simpa using hc)]
  simp

/-- No two states come to one by a bit. -/
theorem bitStep_inj {a b : Nat} (ha : a < 4294967296) (hb : b < 4294967296) (h : bitStep a = bitStep b) : a = b := by
  have top : ∀ x : Nat, x < 2147483648 → (x ^^^ 3988292384).testBit 31 = true := by
    intro x hx
    rw [Nat.testBit_xor, Nat.testBit_lt_two_pow (by simpa using hx)]
    decide
  have low : ∀ x : Nat, x < 2147483648 → x.testBit 31 = false := fun x hx => Nat.testBit_lt_two_pow (by simpa using hx)
  have e : a / 2 = b / 2 ∧ a % 2 = b % 2 := by
    unfold bitStep at h
    split at h <;> split at h
    · refine ⟨?_, by omega⟩
      have := congrArg (· ^^^ 3988292384) h
      simpa [Nat.xor_assoc] using this
    · have h1 := top (a / 2) (by omega)
      rw [h, low (b / 2) (by omega)] at h1
      cases h1
    · have h1 := top (b / 2) (by omega)
      rw [← h, low (a / 2) (by omega)] at h1
      cases h1
    · exact ⟨h, by omega⟩
  omega
theorem steps_inj {k : Nat} : ∀ {a b : Nat}, a < 4294967296 → b < 4294967296 → steps k a = steps k b → a = b := by
  induction k with
  | zero => intro a b _ _ h; exact h
  | succ k ih => intro a b ha hb h; exact ih ha hb (bitStep_inj (steps_lt ha) (steps_lt hb) h)
theorem byteStep_inj {a b c : Nat} (ha : a < 4294967296) (hb : b < 4294967296) (hc : c < 256) (h : byteStep a c = byteStep b c) : a = b := by
  have := steps_inj (xor_lt32 ha (by omega)) (xor_lt32 hb (by omega)) h
  have := congrArg (· ^^^ c) this
  simpa [Nat.xor_assoc] using this
theorem byteStep_inj_byte {a c d : Nat} (ha : a < 4294967296) (hc : c < 256) (hd : d < 256) (h : byteStep a c = byteStep a d) : c = d := by
  have := steps_inj (xor_lt32 ha (by omega)) (xor_lt32 ha (by omega)) h
  have := congrArg (a ^^^ ·) this
  simpa [← Nat.xor_assoc] using this
theorem crcFrom_inj {l : List UInt8} : ∀ {a b : Nat}, a < 4294967296 → b < 4294967296 → crcFrom a l = crcFrom b l → a = b := by
  induction l with
  | nil => intro a b _ _ h; exact h
  | cons c l ih => intro a b ha hb h; exact byteStep_inj ha hb c.toNat_lt (ih (byteStep_lt ha c.toNat_lt) (byteStep_lt hb c.toNat_lt) h)
/-- One byte another one: another sum. -/
theorem crc_one (p q : List UInt8) (c d : UInt8) (h : c ≠ d) : crc (p ++ c :: q) ≠ crc (p ++ d :: q) := by
  intro e
  have s0 : (4294967295 : Nat) < 4294967296 := by omega
  have hl : ∀ x : List UInt8, crcFrom 4294967295 x < 4294967296 := fun x => crcFrom_lt s0
  have h1 := hl (p ++ c :: q)
  have h2 := hl (p ++ d :: q)
  unfold crc at e
  have e2 : crcFrom 4294967295 (p ++ c :: q) = crcFrom 4294967295 (p ++ d :: q) := by omega
  rw [crcFrom_append, crcFrom_append] at e2
  have e3 := crcFrom_inj (l := q) (byteStep_lt (hl p) c.toNat_lt) (byteStep_lt (hl p) d.toNat_lt) e2
  have e4 := byteStep_inj_byte (hl p) c.toNat_lt d.toNat_lt e3
  exact h (UInt8.toNat_inj.1 e4)

theorem snocInd {α : Type} {P : List α → Prop} (h0 : P []) (h1 : ∀ l c, P l → P (l ++ [c])) (l : List α) : P l := by
  have : ∀ m : List α, P m.reverse := by
    intro m
    induction m with
    | nil => exact h0
    | cons c m ih => rw [List.reverse_cons]; exact h1 _ _ ih
  have h := this l.reverse
  rwa [List.reverse_reverse] at h

/-- A number of bytes, the highest first. -/
def val (l : List UInt8) : Nat := l.foldl (fun n c => n * 256 + c.toNat) 0
theorem val_snoc (l : List UInt8) (c : UInt8) : val (l ++ [c]) = val l * 256 + c.toNat := by unfold val; rw [List.foldl_append]; rfl
theorem val_lt (l : List UInt8) : val l < 256 ^ l.length := by
  induction l using snocInd with
  | h0 => simp [val]
  | h1 l c ih =>
    have hc := c.toNat_lt
    rw [val_snoc, List.length_append, List.length_singleton, Nat.pow_succ]
    omega
theorem val_take {l : List UInt8} {k : Nat} (h : k < l.length) : val (l.take (k + 1)) = val (l.take k) * 256 + l[k].toNat := by
  rw [List.take_succ_eq_append_getElem h, val_snoc]

/-- The k lowest bytes of n, the highest first. -/
def be (k n : Nat) : List UInt8 := (List.range k).map fun i => UInt8.ofNat (n / 256 ^ (k - 1 - i))
theorem be_length (k n : Nat) : (be k n).length = k := by simp [be]
theorem be_get {k n i : Nat} (h : i < k) : (be k n)[i]? = some (UInt8.ofNat (n / 256 ^ (k - 1 - i))) := by simp [be, h]
theorem be_take_succ {k n i : Nat} (h : i < k) : (be k n).take (i + 1) = (be k n).take i ++ [UInt8.ofNat (n / 256 ^ (k - 1 - i))] := by
  rw [List.take_add_one, be_get h]
  rfl
theorem be_succ (k n : Nat) : be (k + 1) n = be k (n / 256) ++ [UInt8.ofNat n] := by
  apply List.ext_getElem?
  intro i
  rcases Nat.lt_trichotomy i k with h | h | h
  · rw [be_get (by omega), List.getElem?_append_left (by rw [be_length]; exact h), be_get h, Nat.div_div_eq_div_mul]
    have e : k + 1 - 1 - i = (k - 1 - i) + 1 := by omega
    rw [e, Nat.pow_succ, Nat.mul_comm]
  · subst h
    rw [be_get (by omega), List.getElem?_append_right (by rw [be_length]; exact Nat.le_refl _), be_length]
    simp
  · rw [List.getElem?_eq_none (by rw [be_length]; omega), List.getElem?_eq_none (by rw [List.length_append, be_length]; simp; omega)]
theorem ofNat_mod (n : Nat) : (UInt8.ofNat n).toNat = n % 256 := by simp
theorem be_val (k : Nat) : ∀ n, n < 256 ^ k → val (be k n) = n := by
  induction k with
  | zero => intro n h; simp at h; subst h; rfl
  | succ k ih =>
    intro n h
    rw [be_succ, val_snoc, ih _ (Nat.div_lt_of_lt_mul (by rw [Nat.pow_succ, Nat.mul_comm] at h; exact h)), ofNat_mod]
    omega
theorem val_be (l : List UInt8) : be l.length (val l) = l := by
  induction l using snocInd with
  | h0 => rfl
  | h1 l c ih =>
    have hc := c.toNat_lt
    rw [List.length_append, List.length_singleton, be_succ, val_snoc]
    have e1 : (val l * 256 + c.toNat) / 256 = val l := by omega
    have e2 : UInt8.ofNat (val l * 256 + c.toNat) = c := by
      apply UInt8.toNat_inj.1
      rw [ofNat_mod]
      omega
    rw [e1, e2, ih]

/-- A number's bytes, the lowest first, as short as can be. -/
def lows (n : Nat) : List UInt8 := if n = 0 then [] else UInt8.ofNat (n % 256) :: lows (n / 256)
theorem lows_zero : lows 0 = [] := by rw [lows]; rfl
theorem lows_pos {n : Nat} (h : n ≠ 0) : lows n = UInt8.ofNat (n % 256) :: lows (n / 256) := by rw [lows, if_neg h]
theorem lows_rev (n : Nat) : (lows n).reverse = be (lows n).length n := by
  induction n using Nat.strongRecOn with
  | ind n ih =>
    by_cases h : n = 0
    · subst h; rw [lows_zero]; rfl
    · rw [lows_pos h, List.reverse_cons, ih (n / 256) (by omega), List.length_cons, be_succ]
      congr 2
      apply UInt8.toNat_inj.1
      rw [ofNat_mod, ofNat_mod]
      omega
theorem lows_lt (n : Nat) : n < 256 ^ (lows n).length := by
  induction n using Nat.strongRecOn with
  | ind n ih =>
    by_cases h : n = 0
    · subst h; rw [lows_zero]; simp
    · have := ih (n / 256) (by omega)
      rw [lows_pos h, List.length_cons, Nat.pow_succ]
      omega
theorem lows_ge (n : Nat) (h : n ≠ 0) : 0 < (lows n).length ∧ 256 ^ ((lows n).length - 1) ≤ n := by
  induction n using Nat.strongRecOn with
  | ind n ih =>
    rw [lows_pos h, List.length_cons]
    refine ⟨by omega, ?_⟩
    by_cases h2 : n / 256 = 0
    · rw [h2, lows_zero]; simp; omega
    · obtain ⟨h3, h4⟩ := ih (n / 256) (by omega) h2
      obtain ⟨k, hk⟩ : ∃ k, (lows (n / 256)).length = k + 1 := ⟨(lows (n / 256)).length - 1, by omega⟩
      rw [hk] at h4 ⊢
      simp only [Nat.add_sub_cancel] at h4 ⊢
      rw [Nat.pow_succ]
      omega
def nb (n : Nat) : Nat := (lows n).length
theorem nb_le {n k : Nat} (h : n < 256 ^ k) : nb n ≤ k := by
  by_cases h0 : n = 0
  · subst h0; unfold nb; rw [lows_zero]; simp
  · obtain ⟨h1, h2⟩ := lows_ge n h0
    have := (Nat.pow_lt_pow_iff_right (a := 256) (by omega)).1 (Nat.lt_of_le_of_lt h2 h)
    unfold nb
    omega
theorem nb_zero : nb 0 = 0 := by unfold nb; rw [lows_zero]; rfl
theorem nb_pos {n : Nat} (h : n ≠ 0) : nb n = nb (n / 256) + 1 := by unfold nb; rw [lows_pos h]; rfl
theorem nb_bits (n : Nat) (h : n < 18446744073709551616) : nb n = (Lib.bitLen n + 7) / 8 := by
  induction n using Nat.strongRecOn with
  | ind n ih =>
    by_cases h0 : n = 0
    · subst h0; rw [nb_zero]; rfl
    · rw [nb_pos h0]
      by_cases h1 : 256 ≤ n
      · rw [ih (n / 256) (by omega) (by omega), Lib.bitLen_shift8 n h1 h]
        omega
      · have e : n / 256 = 0 := by omega
        have a := Lib.bitLen_half n h0 (by simpa using h)
        have b := Lib.bitLen_le n 8 (by omega) (by omega)
        rw [e, nb_zero]
        omega

/-- A number as it is written. -/
def putNum (n : Nat) : List UInt8 := UInt8.ofNat (nb n) :: be (nb n) n
theorem putNum_length (n : Nat) : (putNum n).length = nb n + 1 := by simp [putNum, be_length]
def putBytes (d : List UInt8) : List UInt8 := putNum d.length ++ d
/-- What stands at the beginning of bytes as a number: it, how many bytes it takes, the error. -/
def numR : List UInt8 → Nat × Nat × Nat
  | [] => (0, 0, 5)
  | k :: t => if 8 < k.toNat ∨ (0 < k.toNat ∧ t[0]? = some 0) then (0, 0, 4) else if t.length < k.toNat then (0, 0, 5) else (val (t.take k.toNat), 1 + k.toNat, 0)
/-- Likewise a list of bytes. -/
def bytesR (b : List UInt8) : List UInt8 × Nat × Nat :=
  if (numR b).2.2 ≠ 0 then ([], 0, (numR b).2.2) else if b.length - (numR b).2.1 < (numR b).1 then ([], 0, 5) else ((b.drop (numR b).2.1).take (numR b).1, (numR b).2.1 + (numR b).1, 0)
/-- Likewise a frame. -/
def unR (b : List UInt8) : List UInt8 × Nat × Nat :=
  if b.length < 8 then ([], 0, 5) else if 65536 < val (b.take 4) then ([], 0, 7) else if b.length - 8 < val (b.take 4) then ([], 0, 5)
  else if crc (b.take 4 ++ (b.drop 8).take (val (b.take 4))) ≠ val ((b.drop 4).take 4) then ([], 0, 6)
  else ((b.drop 8).take (val (b.take 4)), 8 + val (b.take 4), 0)
/-- A frame. -/
def frame (d : List UInt8) : List UInt8 := be 4 d.length ++ be 4 (crc (be 4 d.length ++ d)) ++ d
theorem frame_length (d : List UInt8) : (frame d).length = d.length + 8 := by simp [frame, be_length]; omega

theorem be_head_ne {n : Nat} (h : n ≠ 0) : (be (nb n) n)[0]? ≠ some 0 := by
  obtain ⟨h1, h2⟩ := lows_ge n h
  have h3 := lows_lt n
  rw [be_get (by exact h1)]
  intro e
  injection e with e
  have := congrArg UInt8.toNat e
  rw [ofNat_mod] at this
  have h0 : (0 : UInt8).toNat = 0 := rfl
  rw [h0] at this
  unfold nb at *
  rw [Nat.sub_zero] at this
  obtain ⟨k, hk⟩ : ∃ k, (lows n).length = k + 1 := ⟨(lows n).length - 1, by omega⟩
  rw [hk] at this h2 h3
  simp only [Nat.add_sub_cancel] at this h2
  rw [Nat.pow_succ] at h3
  have hp : 0 < 256 ^ k := Nat.pow_pos (by omega)
  have a : 1 ≤ n / 256 ^ k := (Nat.le_div_iff_mul_le hp).2 (by omega)
  have b : n / 256 ^ k < 256 := Nat.div_lt_of_lt_mul (by omega)
  omega
theorem numR_put (n : Nat) (h : n < 256 ^ 8) (r : List UInt8) : numR (putNum n ++ r) = (n, nb n + 1, 0) := by
  have hk : nb n ≤ 8 := nb_le h
  have e : (UInt8.ofNat (nb n)).toNat = nb n := by rw [ofNat_mod]; omega
  unfold putNum
  rw [List.cons_append]
  simp only [numR]
  rw [e]
  have hn : ¬ (8 < nb n ∨ (0 < nb n ∧ (be (nb n) n ++ r)[0]? = some 0)) := by
    rintro (h1 | ⟨h1, h2⟩)
    · omega
    · rw [List.getElem?_append_left (by rw [be_length]; exact h1)] at h2
      refine be_head_ne ?_ h2
      rintro rfl
      unfold nb at h1
      rw [lows_zero] at h1
      simp at h1
  rw [if_neg hn, if_neg (by rw [List.length_append, be_length]; omega), List.take_left' (be_length _ _), show val (be (nb n) n) = n from be_val _ _ (lows_lt n), Nat.add_comm]
theorem bytesR_put (d : List UInt8) (h : d.length < 256 ^ 8) (r : List UInt8) : bytesR (putBytes d ++ r) = (d, (putBytes d).length, 0) := by
  unfold putBytes bytesR
  rw [List.append_assoc, numR_put _ h]
  simp only [ne_eq, not_true_eq_false, if_false]
  have hl := putNum_length d.length
  rw [if_neg (by simp only [List.length_append]; omega), ← hl, List.drop_left, List.take_left]
  simp [List.length_append]
theorem val4 (n : Nat) (h : n < 4294967296) (r : List UInt8) : val ((be 4 n ++ r).take 4) = n := by
  rw [List.take_left' (be_length _ _)]
  exact be_val 4 n (by simpa using h)
theorem unR_frame (d : List UInt8) (h : d.length ≤ 65536) (r : List UInt8) : unR (frame d ++ r) = (d, (frame d).length, 0) := by
  have e4 : frame d ++ r = be 4 d.length ++ (be 4 (crc (be 4 d.length ++ d)) ++ (d ++ r)) := by simp [frame]
  have hl := frame_length d
  have t4 : (frame d ++ r).take 4 = be 4 d.length := by rw [e4]; exact List.take_left' (be_length _ _)
  have d4 : (frame d ++ r).drop 4 = be 4 (crc (be 4 d.length ++ d)) ++ (d ++ r) := by rw [e4]; exact List.drop_left' (be_length _ _)
  have d8 : (frame d ++ r).drop 8 = d ++ r := by
    have : (frame d ++ r).drop 8 = ((frame d ++ r).drop 4).drop 4 := by rw [List.drop_drop]
    rw [this, d4]; exact List.drop_left' (be_length _ _)
  have v4 : val (be 4 d.length) = d.length := be_val 4 _ (by simp; omega)
  unfold unR
  rw [t4, d4, d8, v4, List.take_left' (be_length _ _), be_val 4 _ (by simpa using crc_lt _), List.take_left]
  rw [if_neg (by rw [List.length_append]; omega), if_neg (by omega), if_neg (by rw [List.length_append]; omega), if_neg (by simp), hl, Nat.add_comm]
theorem unR_short (d : List UInt8) (h : d.length ≤ 65536) (k : Nat) (hk : k < (frame d).length) : (unR ((frame d).take k)).2.2 = 5 := by
  have hl := frame_length d
  have hlk : ((frame d).take k).length = k := by rw [List.length_take]; omega
  unfold unR
  rw [hlk]
  by_cases h8 : k < 8
  · rw [if_pos h8]
  · have t4 : ((frame d).take k).take 4 = be 4 d.length := by
      rw [List.take_take, Nat.min_eq_left (by omega), frame, List.append_assoc]; exact List.take_left' (be_length _ _)
    rw [if_neg h8, t4, be_val 4 _ (by simp; omega), if_neg (by omega), if_pos (by omega)]

theorem unR_parts (h s d : List UInt8) (h4 : h.length = 4) (s4 : s.length = 4) (hv : val h = d.length) (hd : d.length ≤ 65536) (hc : crc (h ++ d) ≠ val s) : unR (h ++ (s ++ d)) = ([], 0, 6) := by
  have t4 : (h ++ (s ++ d)).take 4 = h := List.take_left' h4
  have d4 : (h ++ (s ++ d)).drop 4 = s ++ d := List.drop_left' h4
  have d8 : (h ++ (s ++ d)).drop 8 = d := by
    have : (h ++ (s ++ d)).drop 8 = ((h ++ (s ++ d)).drop 4).drop 4 := by rw [List.drop_drop]
    rw [this, d4]; exact List.drop_left' s4
  have hl : (h ++ (s ++ d)).length = d.length + 8 := by rw [List.length_append, List.length_append]; omega
  unfold unR
  rw [t4, d4, d8, hv, hl, List.take_left' s4, List.take_length]
  rw [if_neg (by omega), if_neg (by omega), if_neg (by omega), if_pos hc]
/-- A frame in whose sum or data one byte is another one. -/
theorem unR_flip (d : List UInt8) (hd : d.length ≤ 65536) (q : Nat) (hq : 4 + q < (frame d).length) (y : UInt8) (hy : y ≠ (frame d)[4 + q]) : unR ((frame d).set (4 + q) y) = ([], 0, 6) := by
  have hfl := frame_length d
  have hb : (be 4 d.length).length = 4 := be_length _ _
  have hs : (be 4 (crc (be 4 d.length ++ d))).length = 4 := be_length _ _
  have hv : val (be 4 d.length) = d.length := be_val 4 _ (by simp; omega)
  have hc : val (be 4 (crc (be 4 d.length ++ d))) = crc (be 4 d.length ++ d) := be_val 4 _ (by simpa using crc_lt _)
  have hx : (frame d)[4 + q]? = some (frame d)[4 + q] := List.getElem?_eq_getElem hq
  generalize (frame d)[4 + q] = x at hy hx
  have ef : frame d = be 4 d.length ++ (be 4 (crc (be 4 d.length ++ d)) ++ d) := by simp [frame]
  rw [ef] at hx ⊢
  generalize hS : be 4 (crc (be 4 d.length ++ d)) = s at *
  generalize hH : be 4 d.length = h at *
  rw [List.set_append_right _ _ (by omega), hb, Nat.add_sub_cancel_left]
  rw [List.getElem?_append_right (by omega), hb, Nat.add_sub_cancel_left] at hx
  by_cases h4 : q < 4
  · rw [List.set_append_left _ _ (by omega)]
    rw [List.getElem?_append_left (by omega)] at hx
    refine unR_parts h _ d hb (by rw [List.length_set]; exact hs) hv hd (fun e => ?_)
    rw [← hc] at e
    have e1 := val_be (s.set q y)
    have e2 := val_be s
    rw [List.length_set, ← e, e2] at e1
    have e3 := congrArg (fun l => l[q]?) e1
    simp only [List.getElem?_set_self (show q < s.length by omega)] at e3
    rw [hx] at e3
    injection e3 with e3
    exact hy e3.symm
  · rw [List.set_append_right _ _ (by omega), hs]
    rw [List.getElem?_append_right (by omega), hs] at hx
    have hi : q - 4 < d.length := by omega
    refine unR_parts h s _ hb hs (by rw [List.length_set]; exact hv) (by rw [List.length_set]; exact hd) (fun e => ?_)
    rw [hc] at e
    have e1 : d = d.take (q - 4) ++ x :: d.drop (q - 4 + 1) := by
      conv => lhs; rw [← List.take_append_drop (q - 4) d, List.drop_eq_getElem_cons hi]
      rw [List.getElem?_eq_getElem hi] at hx
      injection hx with hx
      rw [hx]
    rw [List.set_eq_take_append_cons_drop, if_pos hi] at e
    conv at e => rhs; rw [e1]
    rw [← List.append_assoc, ← List.append_assoc] at e
    exact crc_one _ _ y x hy e

/-- Numbers one behind the other. -/
def putAll (l : List Nat) : List UInt8 := l.flatMap putNum
theorem putAll_prefix : ∀ (a b : List Nat), (∀ n ∈ a, n < 256 ^ 8) → (∀ n ∈ b, n < 256 ^ 8) → ((putAll a).isPrefixOf (putAll b) = true ↔ a.isPrefixOf b = true) := by
  intro a
  induction a with
  | nil => intro b _ _; simp [putAll]
  | cons x a ih =>
    intro b ha hb
    cases b with
    | nil => simp [putAll, putNum]
    | cons y b =>
      have hx := ha x List.mem_cons_self
      have hy := hb y List.mem_cons_self
      have ih' := ih b (fun n hn => ha n (List.mem_cons_of_mem _ hn)) (fun n hn => hb n (List.mem_cons_of_mem _ hn))
      rw [List.isPrefixOf_iff_prefix] at ih' ⊢
      rw [List.isPrefixOf_iff_prefix] at ih' ⊢
      simp only [putAll, List.flatMap_cons]
      constructor
      · rintro ⟨z, hz⟩
        have e : x = y := by
          have h1 := numR_put x hx (a.flatMap putNum ++ z)
          have h2 := numR_put y hy (b.flatMap putNum)
          rw [← List.append_assoc, hz, h2] at h1
          simp only [Prod.mk.injEq] at h1
          exact h1.1.symm
        subst e
        rw [List.append_assoc] at hz
        have hz := List.append_cancel_left hz
        obtain ⟨z2, hz2⟩ := ih'.1 ⟨z, hz⟩
        exact ⟨z2, by rw [List.cons_append, hz2]⟩
      · rintro ⟨z, hz⟩
        rw [List.cons_append] at hz
        injection hz with e1 e2
        subst e1
        obtain ⟨z2, hz2⟩ := ih'.2 ⟨z, e2⟩
        exact ⟨z2, by rw [List.append_assoc]; exact congrArg (putNum x ++ ·) hz2⟩

/-- The bytes ahead of a frame's data are its own, or its sum does not fit. -/
theorem four_iff (b : List UInt8) (hb : 8 ≤ b.length) (d : List UInt8) (h : d.length = val (b.take 4)) :
    (frame d).take 8 = b.take 8 ↔ crc (b.take 4 ++ d) = val ((b.drop 4).take 4) := by
  have hl4 : (b.take 4).length = 4 := by rw [List.length_take]; omega
  have hl4' : ((b.drop 4).take 4).length = 4 := by rw [List.length_take, List.length_drop]; omega
  have e1 : be 4 d.length = b.take 4 := by rw [h]; have := val_be (b.take 4); rwa [hl4] at this
  have e2 : (frame d).take 8 = b.take 4 ++ be 4 (crc (b.take 4 ++ d)) := by
    unfold frame
    rw [e1]
    exact List.take_left' (by rw [List.length_append, be_length, hl4])
  have e3 : b.take 8 = b.take 4 ++ (b.drop 4).take 4 := by rw [← List.take_add]
  rw [e2, e3]
  constructor
  · intro hh
    have := List.append_cancel_left hh
    rw [← this, be_val 4 _ (by simpa using crc_lt _)]
  · intro hh
    rw [hh]
    have := val_be ((b.drop 4).take 4)
    rw [hl4'] at this
    rw [this]
theorem putNum_short (q : Nat) (h : q < 18446744073709551616) : (putNum q).length ≤ 9 := by
  have := nb_le (n := q) (k := 8) (by simpa using h)
  rw [putNum_length]; omega
theorem putBytes_length (l : List UInt8) (h : l.length ≤ 140737488355328) : (putBytes l).length ≤ l.length + 9 := by
  have h2 : nb l.length ≤ 8 := nb_le (by omega)
  unfold putBytes
  rw [List.length_append, putNum_length]; omega
def putLists (ls : List (List UInt8)) : List UInt8 := ls.flatMap putBytes
theorem putLists_take (ls : List (List UInt8)) (k : Nat) : (putLists (ls.take k)).length ≤ (putLists ls).length := by
  conv => rhs; rw [← List.take_append_drop k ls]
  unfold putLists
  rw [List.flatMap_append, List.length_append]
  omega
end Go.Proofs.YtloieecpgndbhaaGreat.CoP

/-! What a call gives, as plain posts; and facts of numbers read. Nothing here speaks of one function. -/
namespace Go.Proofs.YtloieecpgndbhaaGreat.Co
open Go.RowKit By CoP

/-- Gives a value, all memory as it was. -/
def Ret (v : Value) (w : World) (e : Ending) (w' : World) : Prop := e = .returned v ∧ w = w'
theorem Ret.int {k : IntKind} {a b : Int} (w : World) (h : a = b) : Ret (.int k a) w (.returned (.int k b)) w := ⟨by rw [h], rfl⟩
/-- Gives bytes of the call's own, from block base on. -/
def Gives (base : Nat) (l : List UInt8) (w : World) (e : Ending) (w' : World) : Prop := ∃ v, e = .returned v ∧ Own base w' v l ∧ Below base w w'

/-- Gives a number, a place and an error; old memory as it was. -/
def GivesN (n : Nat) (next er : Int) (w : World) (e : Ending) (w' : World) : Prop := e = .returned (.tuple #[.int .u64 (n : Int), .int .i64 next, .int .i64 er]) ∧ Below w.heap.size w w'
theorem GivesN.of {n : Nat} {next er N next' er' : Int} {w w' : World} (h1 : N = n) (h2 : next' = next) (h3 : er' = er) (hb : Below w.heap.size w w') : GivesN n next er w (.returned (.tuple #[.int .u64 N, .int .i64 next', .int .i64 er'])) w' := ⟨by rw [h1, h2, h3], hb⟩
/-- The place behind what was read, if there was no error. -/
def nextI (k used er : Nat) : Int := if er = 0 then ((k + used : Nat) : Int) else 0
theorem nextI_ok (k used : Nat) : nextI k used 0 = (k : Int) + (used : Int) := by unfold nextI; rw [if_pos rfl]; omega
theorem below_drewN {B : Nat} {a w : World} (h : Below B a w) (q : Nat) : Below B a (w.drewN q) := ⟨h.os, h.tape, h.output, h.size, h.block⟩

theorem numR_big {x : UInt8} {t : List UInt8} (h : 8 < x.toNat) : numR (x :: t) = (0, 0, 4) := by simp only [numR]; rw [if_pos (.inl h)]
theorem numR_zero {x : UInt8} {t : List UInt8} (h : 0 < x.toNat) (h0 : t[0]? = some 0) : numR (x :: t) = (0, 0, 4) := by simp only [numR]; rw [if_pos (.inr ⟨h, h0⟩)]
theorem numR_short {x : UInt8} {t : List UInt8} (h8 : ¬ 8 < x.toNat) (h0 : ¬ (0 < x.toNat ∧ t[0]? = some 0)) (h : t.length < x.toNat) : numR (x :: t) = (0, 0, 5) := by
  simp only [numR]; rw [if_neg (fun h => h.elim h8 h0), if_pos h]
theorem numR_ok {x : UInt8} {t : List UInt8} (h8 : ¬ 8 < x.toNat) (h0 : ¬ (0 < x.toNat ∧ t[0]? = some 0)) (h : ¬ t.length < x.toNat) : numR (x :: t) = (val (t.take x.toNat), 1 + x.toNat, 0) := by
  simp only [numR]; rw [if_neg (fun h => h.elim h8 h0), if_neg h]
theorem run_from' (w : World) (A : Option Addr) (n c k m d : Nat) (hm : n = k + m) (hd : c = k + d) : (Instr.slice 23 (.slice A n c) (some (.int .i64 (k : Int))) none none).run Tryz.prog w = .ok (.slice (cutA A c k) m d) w := by
  subst hm hd
  have := run_from w A (k + m) (k + d) k (by omega)
  rwa [show k + m - k = m by omega, show k + d - k = d by omega] at this
/-- Gives bytes of the call's own, a place and an error. -/
def Gives3 (base : Nat) (l : List UInt8) (next er : Int) (w : World) (e : Ending) (w' : World) : Prop := ∃ v, e = .returned (.tuple #[v, .int .i64 next, .int .i64 er]) ∧ Own base w' v l ∧ Below base w w'
theorem Gives3.of {base : Nat} {l : List UInt8} {v : Value} {next er next' er' : Int} {w w' : World} (h1 : next' = next) (h2 : er' = er) (h : Own base w' v l) (hb : Below base w w') : Gives3 base l next er w (.returned (.tuple #[v, .int .i64 next', .int .i64 er'])) w' := ⟨v, by rw [h1, h2], h, hb⟩

theorem numR_facts (b : List UInt8) : (numR b).2.2 = 0 → (numR b).2.1 ≤ b.length ∧ (numR b).1 < 18446744073709551616 := by
  cases b with
  | nil => intro h; simp [numR] at h
  | cons x t =>
    simp only [numR]
    split
    · intro h; simp at h
    · rename_i h1
      split
      · intro h; simp at h
      · rename_i h2
        intro _
        refine ⟨by simp only [List.length_cons]; omega, ?_⟩
        have h := val_lt (t.take x.toNat)
        have hl : (t.take x.toNat).length ≤ 8 := by rw [List.length_take]; omega
        have h8 : 256 ^ (t.take x.toNat).length ≤ 256 ^ 8 := Nat.pow_le_pow_right (by omega) hl
        have e8 : (256 : Nat) ^ 8 = 18446744073709551616 := by decide
        rw [e8] at h8
        exact Nat.lt_of_lt_of_le h h8
end Go.Proofs.YtloieecpgndbhaaGreat.Co

/-! The reference's PutNum and PutBytes, as contracts of calls. -/
namespace Go.Proofs.YtloieecpgndbhaaGreat.Co
open Go.RowKit By CoP

set_option maxHeartbeats 400000 in
theorem rputNum_any (n : Nat) (N : Int) (hN : N = n) (hn : n < 18446744073709551616) (w : World) : Calls Tryz.prog 151 #[.int .u64 N] w (Gives w.heap.size (putNum n) w) := by
  subst hN
  have hk8 : (lows n).length ≤ 8 := nb_le (n := n) (k := 8) (by simpa using hn)
  have HN := Lib.hid hn
  clear hn
  go_enter Tryz.func151, Tryz.ntmps151
  go_wp2
  go_loopw [0, 3] (fun m v wr => ∃ (q : Nat) (lo : List UInt8), m = .int .u64 q ∧ q < 18446744073709551616 ∧ Own w.heap.size wr v lo ∧ lo ++ lows q = lows n ∧ Below w.heap.size w wr) (fun m _ _ => (intOf m).toNat)
  case atStart => exact ⟨n, [], rfl, HN.out, Own.nil _ _, rfl, Below.refl _ _⟩
  case round =>
    obtain ⟨q, lo, rfl, hq, ho, hl, hbw⟩ := hrel
    have hsz := hbw.size
    have hlo : lo.length ≤ 8 := by have := congrArg List.length hl; rw [List.length_append] at this; omega
    have HL := Lib.hid hl
    have HQ := Lib.hid hq
    have q0 : (0 : Int) ≤ (q : Int) := by omega
    have q1 : (q : Int) ≤ 18446744073709551615 := by omega
    clear hl hq
    by_cases hp : 0 < q
    · have HB := Lib.hid hbw
      clear hbw
      go_wp2_with (at_builtin; refine wpList_app rfl (.tmp 8) (.tmp 12) rfl rfl (ho.alloc _) rfl rfl (Lies.one _ _ (UInt8.ofNat (q % 256)) ?cx) ?cs ?cb ?_)
      case cx => rw [ofNat_mod]; omega
      case cs => rw [List.length_singleton]; omega
      case cb => rw [World.size_alloc]; omega
      intro v' w1 ho1 hb1 _
      have hbw1 : Below w.heap.size w w1 := (HB.out.alloc hsz _).trans hb1
      have HB1 := Lib.hid hbw1
      have hl2 : (lo ++ [UInt8.ofNat (q % 256)]) ++ lows (q / 256) = lows n := by
        have h := HL.out
        rw [lows_pos (by omega)] at h
        rw [List.append_assoc]; exact h
      have HL2 := Lib.hid hl2
      clear hl2 hbw1 hb1
      go_wp2
      go_roundw
      case rel => exact ⟨q / 256, _, by go_num, by have := HQ.out; omega, ho1, HL2.out, HB1.out⟩
      case measure => simp [intOf]; omega
    · obtain rfl : q = 0 := by omega
      rw [show ((0 : Nat) : Int) = 0 from rfl]
      have hl := HL.out
      rw [lows_zero, List.append_nil] at hl
      subst hl
      obtain ⟨A, c, rfl, hc1, hc2, hc3, hr, hown⟩ := ho.form
      clear HL HQ q0 q1 hp ho
      obtain ⟨k, hk⟩ : ∃ k, (lows n).length = k := ⟨_, rfl⟩
      rw [hk] at hlo
      rw [hk]
      have HK := Lib.hid hk
      have HB := Lib.hid hbw
      clear hk hbw hc1 hc2 hc3 hown hk8
      obtain ⟨wo, rfl⟩ : ∃ wo : World, wo = wr := ⟨_, rfl⟩
      have hone : Own wo.heap.size (wo.alloc (.cells #[.int .u8 (k : Int)] 5)) (.slice (some ⟨wo.heap.size, 0, none⟩) 1 1) [UInt8.ofNat k] :=
        Own.lit' wo _ _ _ 1 (by simp only [bvs, List.map_cons, List.map_nil, bv, ofNat_mod]; rw [Nat.mod_eq_of_lt (by omega)]) rfl (Nat.le_refl _) (by simp [maxLen])
      have hb0 : Below wo.heap.size wo (wo.alloc (.cells #[.int .u8 (k : Int)] 5)) := (Below.refl _ _).alloc (Nat.le_refl _) _
      have HONE := Lib.hid hone
      have HB0 := Lib.hid hb0
      clear hone hb0
      go_wp2
      go_loopw [4, 5] (fun v i w2 => ∃ (j : Nat), j ≤ k ∧ i = .int .i64 ((k : Int) - 1 - j) ∧ Own wo.heap.size w2 v (UInt8.ofNat k :: (lows n).reverse.take j) ∧ Below wo.heap.size wo w2) (fun _ i _ => (intOf i + 1).toNat)
      case atStart => exact ⟨0, by omega, by simp, HONE.out, HB0.out⟩
      case round =>
        obtain ⟨j, hj, rfl, ho2, hb2⟩ := hrel
        have hz2 := hb2.size
        by_cases hjk : j < k
        · have hkl : k - 1 - j < (lows n).length := by have := HK.out; omega
          obtain ⟨g, o, rfl, hg, hc⟩ := (hr.below hb2).at_ hkl
          have HR := Lib.hid (show (lows n).reverse.take (j + 1) = (lows n).reverse.take j ++ [(lows n)[k - 1 - j]] by
            have h1 : j < (lows n).reverse.length := by rw [List.length_reverse]; have := HK.out; omega
            rw [List.take_succ_eq_append_getElem h1, List.getElem_reverse]
            have := HK.out
            congr 3
            omega)
          generalize (lows n)[k - 1 - j] = x at hc HR
          have HO := Lib.hid ho2
          have HB2 := Lib.hid hb2
          clear hr ho2 hb2 HK hkl
          have x0 := byte_lo x
          have x1 := byte_hi x
          have i0 : (0 : Int) ≤ (k : Int) - 1 - (j : Int) := by omega
          go_wp2_with (at_builtin; refine wpList_app rfl (.tmp 27) (.tmp 32) rfl rfl (HO.out.alloc _) rfl rfl (Lies.one _ _ x rfl) ?cs2 ?cb2 ?_)
          case cs2 => simp; omega
          case cb2 => rw [World.size_alloc]; omega
          intro v2 w3 ho3 hb3 _
          have ho4 : Own wo.heap.size w3 v2 (UInt8.ofNat k :: (lows n).reverse.take (j + 1)) := by rw [HR.out]; simpa using ho3
          have hb4 : Below wo.heap.size wo w3 := (HB2.out.alloc hz2 _).trans hb3
          have HO4 := Lib.hid ho4
          have HB4 := Lib.hid hb4
          clear ho3 hb3 ho4 hb4 hc
          go_wp2
          go_roundw
          case rel => exact ⟨j + 1, by omega, by go_num, HO4.out, HB4.out⟩
          case measure => simp [intOf]; omega
        · obtain rfl : j = k := by omega
          have hk := HK.out
          have hl : (lows n).reverse.take j = (lows n).reverse := List.take_of_length_le (by rw [List.length_reverse]; omega)
          rw [hl] at ho2
          have i0 : (j : Int) - 1 - (j : Int) < 0 := by omega
          have HO2 := Lib.hid ho2
          have HB2 := Lib.hid hb2
          clear hk hl hr ho2 hb2
          go_wp2
          go_ret
          refine ⟨_, rfl, ?_, HB.out.trans (HB2.out.mono hsz)⟩
          have h3 : UInt8.ofNat j :: (lows n).reverse = putNum n := by
            unfold putNum nb
            rw [lows_rev n, HK.out]
          have h4 := HO2.out.more hsz
          rw [h3] at h4
          exact h4

set_option maxHeartbeats 400000 in
theorem rputBytes_any (A : Option Addr) (m c B : Nat) (l : List UInt8) (hm : m = l.length) (w : World) (hr : Lies w B A l) (hB : B ≤ w.heap.size) (hs : l.length + 9 ≤ 140737488355328) :
    Calls Tryz.prog 152 #[.slice A m c] w (Gives w.heap.size (putBytes l) w) := by
  have HM := Lib.hid hm
  have HL := Lib.hid hs
  have hm63 : m ≤ 9223372036854775807 := by omega
  clear hm hs
  go_enter Tryz.func152, Tryz.ntmps152
  go_wp2_with fail
  refine (rputNum_any l.length _ (by rw [HM.out]) (by have := HL.out; omega) w).mono ?_
  rintro e w1 ⟨v1, rfl, ho1, hb1⟩
  have hz1 := hb1.size
  have hr1 := hr.below (hb1.mono hB)
  go_wp2_with (at_builtin; refine wpList_app rfl (.tmp 6) (.tmp 7) rfl rfl ho1 rfl HM.out hr1 ?cs ?cb ?_)
  case cs =>
    have h1 := HL.out
    have h2 : nb l.length ≤ 8 := nb_le (by omega)
    rw [putNum_length]; omega
  case cb => omega
  intro v2 w2 ho2 hb2 _
  go_wp2
  go_ret
  exact ⟨_, rfl, ho2, hb1.trans hb2⟩
end Go.Proofs.YtloieecpgndbhaaGreat.Co

/-! The reference's Num, as a contract of calls. -/
namespace Go.Proofs.YtloieecpgndbhaaGreat.Co
open Go.RowKit By CoP

set_option maxHeartbeats 400000 in
theorem rnum_out (A : Option Addr) (n c : Nat) (k : Int) (w : World) (hk : k < 0 ∨ (n : Int) < k) :
    Calls Tryz.prog 230 #[.slice A n c, .int .i64 k] w (GivesN 0 0 1 w) := by
  rcases Int.lt_or_le k 0 with h0 | h0
  · clear hk
    go_enter Tryz.func230, Tryz.ntmps230
    go_wp2
    go_ret3
    exact GivesN.of rfl rfl rfl (Below.refl _ _)
  · have h1 : (n : Int) < k := by omega
    have h2 : ¬ (k < 0) := by omega
    clear hk
    go_enter Tryz.func230, Tryz.ntmps230
    go_wp2
    go_ret3
    exact GivesN.of rfl rfl rfl (Below.refl _ _)
set_option maxRecDepth 100000 in
set_option maxHeartbeats 800000 in
theorem rnum_in (A : Option Addr) (n c k B : Nat) (l : List UInt8) (hn : n = l.length) (hk : k ≤ n) (hm : n ≤ 140737488355328) (w : World) (hr : Lies w B A l) :
    Calls Tryz.prog 230 #[.slice A n c, .int .i64 (k : Int)] w (GivesN (numR (l.drop k)).1 (nextI k (numR (l.drop k)).2.1 (numR (l.drop k)).2.2) (numR (l.drop k)).2.2 w) := by
  have hk0 : ¬ ((k : Int) < 0) := by omega
  have hkn : ¬ ((n : Int) < (k : Int)) := by omega
  by_cases h0 : k = n
  · have hdrop : l.drop k = [] := List.drop_eq_nil_of_le (by omega)
    rw [hdrop]
    have hb : ((k : Int) == (n : Int)) = true := by rw [beq_iff_eq]; omega
    subst h0
    clear hn hdrop hr
    go_enter Tryz.func230, Tryz.ntmps230
    go_wp2
    go_ret3
    exact GivesN.of rfl rfl rfl (Below.refl _ _)
  · have hkl : k < l.length := by omega
    have hkn2 : k < n := by omega
    have hb : ((k : Int) == (n : Int)) = false := by rw [beq_eq_false_iff_ne]; omega
    have hdrop : l.drop k = l[k] :: l.drop (k + 1) := List.drop_eq_getElem_cons hkl
    obtain ⟨g, o, rfl, hg, hcell⟩ := hr.at_ hkl
    rw [hdrop]
    have hl1 : (l.drop (k + 1)).length = n - k - 1 := by rw [List.length_drop]; omega
    have hget : ∀ j, (hj : k + (j + 1) < n) → ∃ hj2 : j < (l.drop (k + 1)).length, w.cell? ⟨g, o + (k + (j + 1)), none⟩ = some (.int .u8 (((l.drop (k + 1))[j]).toNat : Int)) := by
      intro j hj
      refine ⟨by omega, ?_⟩
      obtain ⟨g', o', e, _, hc⟩ := hr.at_ (k := k + (j + 1)) (by omega)
      injection e with e
      injection e with e1 e2
      subst e1 e2
      rw [hc]
      congr 3
      rw [List.getElem_drop]
      congr 2
      omega
    have HG := Lib.hid hget
    generalize l[k] = x at hcell ⊢
    generalize l.drop (k + 1) = t at hl1 HG ⊢
    have HL1 := Lib.hid hl1
    have x0 := byte_lo x
    have x1 := byte_hi x
    obtain ⟨s, hs⟩ : ∃ s, x.toNat = s := ⟨_, rfl⟩
    have HS := Lib.hid hs
    rw [hs] at hcell x0 x1
    clear hs hn hdrop hr hkl h0 hl1 hget
    by_cases h8 : 8 < s
    · have HE := Lib.hid (numR_big (x := x) (t := t) (by have := HS.out; omega))
      go_enter Tryz.func230, Tryz.ntmps230
      go_wp2
      go_ret3
      rw [HE.out]
      exact GivesN.of rfl rfl rfl (Below.refl _ _)
    · by_cases hz : 0 < s ∧ t[0]? = some 0
      · obtain ⟨hs0, ht0⟩ := hz
        have htl : 0 < t.length := by
          rcases Nat.eq_zero_or_pos t.length with h | h
          · rw [List.getElem?_eq_none (by omega)] at ht0; cases ht0
          · exact h
        have hk1 : k + 1 < n := by have := HL1.out; omega
        obtain ⟨_, hc2⟩ := HG.out 0 (by omega)
        have hy : t[0] = 0 := by rw [List.getElem?_eq_getElem htl] at ht0; injection ht0
        rw [hy] at hc2
        have hc3 : w.cell? ⟨g, o + (k + 1), none⟩ = some (.int .u8 0) := hc2
        have HE := Lib.hid (numR_zero (x := x) (t := t) (by have := HS.out; omega) ht0)
        clear hc2 ht0 hy htl
        go_enter Tryz.func230, Tryz.ntmps230
        go_wp2
        go_ret3
        rw [HE.out]
        exact GivesN.of rfl rfl rfl (Below.refl _ _)
      · by_cases hsh : n - k - 1 < s
        · have HE := Lib.hid (numR_short (x := x) (t := t) (by have := HS.out; omega) (by rw [HS.out]; exact hz) (by have := HS.out; have := HL1.out; omega))
          have hsp : 0 < s := by omega
          have hsi : (n : Int) - (k : Int) - 1 < (s : Int) := by omega
          by_cases hk1 : k + 1 < n
          · obtain ⟨htl, hc2⟩ := HG.out 0 (by omega)
            have hy : t[0].toNat ≠ 0 := by
              intro h
              refine hz ⟨hsp, ?_⟩
              rw [List.getElem?_eq_getElem htl]
              congr 1
              exact UInt8.toNat_inj.1 h
            have y0 := byte_lo t[0]
            have y1 := byte_hi t[0]
            generalize t[0].toNat = y at hc2 hy y0 y1
            have hc3 : w.cell? ⟨g, o + (k + 1), none⟩ = some (.int .u8 (y : Int)) := hc2
            have hyb : ((y : Int) == 0) = false := by rw [beq_eq_false_iff_ne]; omega
            clear hc2 hy htl hz
            go_enter Tryz.func230, Tryz.ntmps230
            go_wp2
            go_ret3
            rw [HE.out]
            exact GivesN.of rfl rfl rfl (Below.refl _ _)
          · clear hz
            go_enter Tryz.func230, Tryz.ntmps230
            go_wp2
            go_ret3
            rw [HE.out]
            exact GivesN.of rfl rfl rfl (Below.refl _ _)
        · have HE := Lib.hid (numR_ok (x := x) (t := t) (by have := HS.out; omega) (by rw [HS.out]; exact hz) (by have := HS.out; have := HL1.out; omega))
          have hsi : ¬ ((n : Int) - (k : Int) - 1 < (s : Int)) := by omega
          by_cases hs0 : 0 < s
          · have hk1 : k + 1 < n := by omega
            obtain ⟨htl, hc2⟩ := HG.out 0 (by omega)
            have hy : t[0].toNat ≠ 0 := by
              intro h
              refine hz ⟨hs0, ?_⟩
              rw [List.getElem?_eq_getElem htl]
              congr 1
              exact UInt8.toNat_inj.1 h
            have y0 := byte_lo t[0]
            have y1 := byte_hi t[0]
            generalize t[0].toNat = y at hc2 hy y0 y1
            have hc3 : w.cell? ⟨g, o + (k + 1), none⟩ = some (.int .u8 (y : Int)) := hc2
            have hyb : ((y : Int) == 0) = false := by rw [beq_eq_false_iff_ne]; omega
            clear hc2 hy htl hz
            go_enter Tryz.func230, Tryz.ntmps230
            go_wp2
            go_loop [8, 9] (fun y i => ∃ (j : Nat), j ≤ s ∧ i = .int .i64 ((j : Int) + 1) ∧ y = .int .u64 (val (t.take j) : Nat)) (fun _ i => (s + 1) - (intOf i).toNat)
            case atStart => exact ⟨0, by omega, rfl, rfl⟩
            case round =>
              obtain ⟨j, hj, rfl, rfl⟩ := hrel
              by_cases hjs : j < s
              · obtain ⟨hj2, hc⟩ := HG.out j (by omega)
                have hv := val_lt (t.take j)
                have hlen : (t.take j).length = j := by rw [List.length_take]; omega
                have hs2 := val_take hj2
                have z255 : t[j].toNat < 256 := t[j].toNat_lt
                generalize t[j].toNat = z at hc hs2 z255
                obtain ⟨v, hv2⟩ : ∃ v, val (t.take j) = v := ⟨_, rfl⟩
                rw [hv2, hlen] at hv
                rw [hv2] at hs2 ⊢
                have hvb : v < 72057594037927936 := by
                  have h7 : 256 ^ j ≤ 256 ^ 7 := Nat.pow_le_pow_right (by omega) (by omega)
                  have h72 : (256 : Nat) ^ 7 = 72057594037927936 := by decide
                  omega
                have HV := Lib.hid (show (v : Int) * 256 + (z : Int) = ((val (t.take (j + 1)) : Nat) : Int) by rw [hs2]; omega)
                have z0 : (0 : Int) ≤ (z : Int) := by omega
                have z1 : (z : Int) ≤ 255 := by omega
                have v0 : (0 : Int) ≤ (v : Int) := by omega
                have v1 : (v : Int) ≤ 72057594037927935 := by omega
                clear hs2 hv hv2 hlen hvb z255 hj2
                go_wp2
                go_round
                case rel => exact ⟨j + 1, by omega, by go_num, by rw [HV.out]⟩
                case measure => simp [intOf]; omega
              · obtain rfl : j = s := by omega
                go_wp2
                go_ret3
                rw [HE.out, HS.out]
                exact GivesN.of rfl (by show _ = nextI k (1 + j) 0; rw [nextI_ok]; omega) rfl (Below.refl _ _)
          · clear hz
            go_enter Tryz.func230, Tryz.ntmps230
            go_wp2
            go_loop [8, 9] (fun y i => ∃ (j : Nat), j ≤ s ∧ i = .int .i64 ((j : Int) + 1) ∧ y = .int .u64 (val (t.take j) : Nat)) (fun _ i => (s + 1) - (intOf i).toNat)
            case atStart => exact ⟨0, by omega, rfl, rfl⟩
            case round =>
              obtain ⟨j, hj, rfl, rfl⟩ := hrel
              by_cases hjs : j < s
              · exact absurd hjs (by omega)
              · obtain rfl : j = s := by omega
                go_wp2
                go_ret3
                rw [HE.out, HS.out]
                exact GivesN.of rfl (by show _ = nextI k (1 + j) 0; rw [nextI_ok]; omega) rfl (Below.refl _ _)
end Go.Proofs.YtloieecpgndbhaaGreat.Co

/-! The reference's Bytes, as a contract of calls. -/
namespace Go.Proofs.YtloieecpgndbhaaGreat.Co
open Go.RowKit By CoP

set_option maxHeartbeats 400000 in
theorem rbytes_out (A : Option Addr) (n c : Nat) (k : Int) (w : World) (hk : k < 0 ∨ (n : Int) < k) :
    Calls Tryz.prog 231 #[.slice A n c, .int .i64 k] w (Gives3 w.heap.size [] 0 1 w) := by
  have HK := Lib.hid hk
  clear hk
  go_enter Tryz.func231, Tryz.ntmps231
  go_wp2_with fail
  refine (rnum_out A n c k w HK.out).mono ?_
  rintro e w1 ⟨rfl, hb⟩
  go_wp2
  go_ret3
  exact Gives3.of rfl rfl (Own.nil _ _) hb
set_option maxHeartbeats 800000 in
theorem rbytes_in (A : Option Addr) (n c k B : Nat) (l : List UInt8) (hn : n = l.length) (hc : n ≤ c) (hk : k ≤ n) (hm : n ≤ 140737488355328) (w : World) (hr : Lies w B A l) (hB : B ≤ w.heap.size) :
    Calls Tryz.prog 231 #[.slice A n c, .int .i64 (k : Int)] w (Gives3 w.heap.size (bytesR (l.drop k)).1 (nextI k (bytesR (l.drop k)).2.1 (bytesR (l.drop k)).2.2) (bytesR (l.drop k)).2.2 w) := by
  have hnum := rnum_in A n c k B l hn hk hm w hr
  have hfac := numR_facts (l.drop k)
  have hbr : bytesR (l.drop k) = bytesR (l.drop k) := rfl
  conv at hbr => rhs; unfold bytesR
  have hdl : (l.drop k).length = n - k := by rw [List.length_drop]; omega
  rw [hdl] at hbr hfac
  generalize numR (l.drop k) = N at hnum hfac hbr
  obtain ⟨v, used, er⟩ := N
  have hnum2 : Calls Tryz.prog 230 #[.slice A n c, .int .i64 (k : Int)] w (GivesN v (nextI k used er) (er : Int) w) := hnum
  simp only at hbr hfac
  have HNUM := Lib.hid hnum2
  have HBR := Lib.hid hbr
  have HN := Lib.hid hn
  have HR := Lib.hid hr
  clear hnum hnum2 hbr hn hr hdl
  by_cases he : er = 0
  · subst he
    obtain ⟨hu, hv⟩ := hfac rfl
    obtain ⟨st, hst⟩ : ∃ st, k + used = st := ⟨_, rfl⟩
    have hst2 : nextI k used 0 = (st : Int) := by rw [nextI_ok]; omega
    obtain ⟨m, hm1⟩ : ∃ m, n = st + m := ⟨n - st, by omega⟩
    have hst47 : (st : Int) ≤ 140737488355328 := by omega
    have hm47 : (m : Int) ≤ 140737488355328 := by omega
    have hnm : (n : Int) - (st : Int) = (m : Int) := by omega
    have HV := Lib.hid hv
    have HST := Lib.hid hst
    have HM1 := Lib.hid hm1
    have HST2 := Lib.hid hst2
    have HNM := Lib.hid hnm
    clear hv hu hst hm1 hst2 hfac hnm
    go_enter Tryz.func231, Tryz.ntmps231
    go_wp2_with fail
    refine HNUM.out.mono ?_
    rw [HST2.out]
    rintro e w1 ⟨rfl, hb⟩
    have HB := Lib.hid hb
    clear hb
    by_cases hgn : n < v
    · have hgi : (n : Int) < (v : Int) := by omega
      go_wp2
      go_ret3
      rw [HBR.out, if_neg (by simp), if_pos (by have := HM1.out; have := HST.out; omega)]
      exact Gives3.of rfl rfl (Own.nil _ _) HB.out
    · have hgi : ¬ ((n : Int) < (v : Int)) := by omega
      have hvi : (v : Int) ≤ 140737488355328 := by omega
      by_cases hgt : m < v
      · have hgi2 : (n : Int) - (st : Int) < (v : Int) := by have := HNM.out; omega
        go_wp2
        go_ret3
        rw [HBR.out, if_neg (by simp), if_pos (by have := HM1.out; have := HST.out; omega)]
        exact Gives3.of rfl rfl (Own.nil _ _) HB.out
      · have hgi2 : ¬ ((n : Int) - (st : Int) < (v : Int)) := by have := HNM.out; omega
        have hqt : ∀ w, (Instr.slice 23 (.slice A n c) (some (.int .i64 (st : Int))) (some (.int .i64 ((st : Int) + (v : Int)))) none).run Tryz.prog w = .ok (.slice (cutA A c st) v (c - st)) w := fun w => by
          have h := run_cut w A n c st (st + v) (by omega) (by have := HM1.out; omega)
          rw [show st + v - st = v by omega] at h
          rwa [show ((st + v : Nat) : Int) = (st : Int) + (v : Int) by omega] at h
        have hlies : Lies w B (cutA A c st) (((l.drop k).drop used).take v) := by
          have h := HR.out.cut (c := c) (by have := HN.out; omega) st l.length (by have := HN.out; have := HM1.out; omega) (Nat.le_refl _)
          rw [List.take_length, ← HST.out, ← List.drop_drop] at h
          have := lies_take h v
          rwa [HST.out] at this
        have hlen : v = (((l.drop k).drop used).take v).length := by
          rw [List.length_take, List.length_drop, List.length_drop]
          have := HN.out; have := HM1.out; have := HST.out; omega
        have hoa := Own.made w1 w1.heap.size #[] 0 (Nat.le_refl _) (by decide) rfl
        have HLI := Lib.hid hlies
        have HLE := Lib.hid hlen
        clear hlies hlen
        go_wp2_with (at_builtin; refine wpList_app rfl (.tmp 34) (.tmp 41) rfl rfl hoa rfl HLE.out ((HLI.out.below (HB.out.mono hB)).alloc (Nat.le_trans hB HB.out.size) _) ?cs ?cb ?_)
        case cs => have := HLE.out; rw [← this]; simp; omega
        case cb => rw [World.size_alloc]; omega
        intro v2 w2 ho2 hb2 _
        have hb3 := ((Below.refl w1.heap.size w1).alloc (Nat.le_refl _) (.cells #[] 5)).trans hb2
        have HO2 := Lib.hid ho2
        have HB2 := Lib.hid hb3
        clear ho2 hb2 hb3 HLI HLE hoa
        go_wp2
        go_ret3
        rw [HBR.out, if_neg (by simp), if_neg (by have := HM1.out; have := HST.out; omega)]
        exact Gives3.of (by show _ = nextI k (used + v) 0; rw [nextI_ok]; have := HST.out; omega) rfl (by simpa using HO2.out.more HB.out.size) (HB.out.trans (HB2.out.mono HB.out.size))
  · have heb : ((er : Int) != 0) = true := by rw [bne_iff_ne]; omega
    have HE := Lib.hid he
    clear he hfac
    go_enter Tryz.func231, Tryz.ntmps231
    go_wp2_with fail
    refine HNUM.out.mono ?_
    rintro e w1 ⟨rfl, hb⟩
    have HB := Lib.hid hb
    clear hb
    go_wp2
    go_ret3
    rw [HBR.out, if_pos (by exact HE.out)]
    exact Gives3.of (by show _ = nextI k 0 er; unfold nextI; rw [if_neg HE.out]) rfl (Own.nil _ _) HB.out
end Go.Proofs.YtloieecpgndbhaaGreat.Co
