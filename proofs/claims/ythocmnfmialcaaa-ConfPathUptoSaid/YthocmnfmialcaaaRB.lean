/- slices.Clone and slices.Insert at ints, as contracts of calls: what they give is of the call's own. | slices.Insert of one int into a list of the call's own, as a contract of a call. | The package's with and without: a list that has one more, or one less; as contracts of calls. | The package's without, and the reference's Without and With; as contracts of calls. | The reference's Without and With, as contracts of calls. | The reference's With, as a contract of a call. -/
import Derived.Test.YthocmnfmialcaaaRA
import Derived.Shelf.Spec.SlicesInsertGrow
/-! slices.Clone and slices.Insert at ints, as contracts of calls: what they give is of the call's own. -/
namespace Go.Proofs.Ythocmnfmialcaaa.Cn
open Go.RowKit Go.ChangeAt By CoP Co Mo Kd Go.Shelf

/-- A list of ints of the call's own. -/
def OwnZ (base : Nat) (w : World) (v : Value) (l : List Int) : Prop := w.ownsRow base 3 1 v l.length (zvs l)
theorem zvs_one {l : List Int} : ∀ u ∈ zvs l, u.oneCell' = true := by
  intro u hu
  unfold zvs at hu
  rw [List.mem_map] at hu
  obtain ⟨x, _, rfl⟩ := hu
  rfl
theorem zvs_some {l : List Int} {j : Nat} {x : Int} (h : l[j]? = some x) : (zvs l)[j]? = some (.int .i64 x) := by unfold zvs; rw [List.getElem?_map, h]; rfl
def I64 (x : Int) : Prop := -9223372036854775808 ≤ x ∧ x ≤ 9223372036854775807
theorem OwnZ.ls {base : Nat} {w w' : World} {v : Value} {l : List Int} (h : OwnZ base w' v l) (hb : w.heap.size ≤ base) (hl : ∀ x ∈ l, I64 x) : ∃ A c, v = .slice A l.length c ∧ l.length ≤ c ∧ Ls w' (NewF w w') A l := by
  obtain ⟨A, c, rfl, hc, _, hn⟩ := owns_form h
  refine ⟨A, c, rfl, hc, fun hp => ?_⟩
  obtain ⟨g, rfl, ho, h1, h2, h3⟩ := hn hp
  refine ⟨g, 0, rfl, ⟨⟨by omega, h2⟩, owns_free h ho⟩, fun j x hx => ⟨?_, hl x (List.mem_of_getElem? hx)⟩⟩
  rw [Nat.zero_add]
  exact h3 j _ (zvs_some hx)
theorem LiesI.i64 {w : World} {B : Nat} {A : Option Addr} {l : List Int} (h : LiesI w B A l) : ∀ x ∈ l, I64 x := fun x hx => by
  obtain ⟨j, hj, rfl⟩ := List.mem_iff_getElem.1 hx
  obtain ⟨_, _, _, _, _, h0, h1⟩ := h.at_ hj
  exact ⟨h0, h1⟩
/-- Gives ints of the call's own. -/
def GivesO (l : List Int) (w : World) (e : Ending) (w' : World) : Prop := ∃ v, e = .returned v ∧ OwnZ w.heap.size w' v l ∧ Below w.heap.size w w'
theorem wpList_appI0 {ops : Array Oper} {rest : List Oper} {o : Oper} {a : Act} {w : World} {Q : Exit → Act → World → Prop}
    (hgd : o.guard = none) (s x : Operand) (hop : o.op = .call { callee := .builtin .append, args := #[s, x], argTypes := #[22, 22] }) {base g : Nat}
    (hs : a.eval s = .slice (some ⟨g, 0, none⟩) 0 0) (hown : w.ownsRow base 3 1 (.slice (some ⟨g, 0, none⟩) 0 0) 0 []) {B : Nat} {A : Option Addr} {m c : Nat} {l : List Int} (hx : a.eval x = .slice A m c) (hm : m = l.length) (hr : LiesI w B A l)
    (hsz : l.length ≤ 9437184) (hbase : base ≤ w.heap.size)
    (hK : ∀ v' w', w'.ownsRow base 3 1 v' l.length (zvs l) → Below base w w' → wpList Try.prog ops Q rest (a.put o.dst v') w') : wpList Try.prog ops Q (o :: rest) a w :=
  wpList_plain hgd fun K hK2 => by
    obtain ⟨v', w', hrun, h2, h3, h4, h5⟩ := run_appI0 hown hm hr hsz hbase o.type
    exact wp_app_run s x _ hop hs hx hrun (hK2 _ _ (hK _ _ h2 h3))
theorem nilTestI (w : World) (a : Option Addr) (n c n' c' : Nat) : (binOp .eql 22 (.slice a n c) (.slice none n' c')).run Try.prog w = .ok (.bool a.isNone) w :=
  Lib.run_eql_slice_nil w _ _ a n c n' c' Try.underlying22
set_option maxHeartbeats 1000000 in
theorem clone_any (A : Option Addr) (n c B : Nat) (l : List Int) (hn : n = l.length) (hsz : n ≤ 9437184) (w : World) (hB : B ≤ w.heap.size) (hr : LiesI w B A l) :
    Calls Try.prog 40 #[.slice A n c] w (GivesO l w) := by
  cases A with
  | none =>
    have h0 : l = [] := by
      rcases Nat.eq_zero_or_pos l.length with h0 | h0
      · exact List.length_eq_zero_iff.1 h0
      · obtain ⟨g, o, e, _⟩ := hr h0
        cases e
    subst h0
    have hn0 : n = 0 := hn
    subst hn0
    clear hr hsz hB hn
    have q := nilTestI
    go_enter Try.func40, Try.ntmps40
    go_wp2
    go_ret
    exact ⟨_, rfl, World.ownsRow_nil _ _ _ _, Below.refl _ _⟩
  | some ad =>
    obtain ⟨b, o, sp⟩ := ad
    have hb0 : Below w.heap.size w (w.alloc (.cells #[] 3)) := (Below.refl _ _).alloc (Nat.le_refl _) _
    have HN := Lib.hid hn
    have HSZ := Lib.hid hsz
    have HR := Lib.hid (hr.below (hb0.mono hB))
    have HB := Lib.hid hb0
    have HO := Lib.hid (show (w.alloc (.cells #[] 3)).ownsRow w.heap.size 3 1 (.slice (some ⟨w.heap.size, 0, none⟩) 0 0) 0 [] from World.ownsRow_made (base := w.heap.size) (e := 3) (size := 1) w #[] 0 (Nat.le_refl _) (by decide) rfl)
    clear hn hr hb0 hsz
    have q := nilTestI
    go_enter Try.func40, Try.ntmps40
    go_wp2_with (at_builtin; refine wpList_appI0 (base := w.heap.size) (g := w.heap.size) rfl (.tmp 5) (.tmp 6) rfl rfl HO.out (A := some ⟨b, o, sp⟩) (m := n) (c := c) rfl HN.out HR.out (by have h1 := HN.out; have h2 := HSZ.out; omega) (by rw [World.size_alloc]; omega) ?_; intro v2 w2 ho2 hb2; have HO2 := Lib.hid ho2; have HB2 := Lib.hid hb2; clear ho2 hb2)
    go_ret
    exact ⟨_, rfl, HO2.out, HB.out.trans HB2.out⟩
def ins_ren : Go.Shelf.Ren := ⟨fun | 21 => 49 | 27 => 59 | 28 => 60 | 35 => 77 | 39 => 82 | n => n, fun | 0 => 0 | 3 => 3 | 4 => 4 | 22 => 22 | n => n, fun | n => n⟩
theorem insL : Go.Proofs.Lays2.n21 Try.prog ins_ren := {
  mixed := by kernel_rfl
  f21 := Try.func49.trans (congrArg some (by kernel_rfl))
  f27 := Try.func59.trans (congrArg some (by kernel_rfl))
  f28 := Try.func60.trans (congrArg some (by kernel_rfl))
  f35 := Try.func77.trans (congrArg some (by kernel_rfl))
  f39 := Try.func82.trans (congrArg some (by kernel_rfl))
  t0 := Try.underlying0
  a0 := Try.isAgg0
  z0 := Try.sizeOf0
  v0 := Try.zeroValue0
  t3 := Try.underlying3
  a3 := Try.isAgg3
  z3 := Try.sizeOf3
  v3 := Try.zeroValue3
  t4 := Try.underlying4
  a4 := Try.isAgg4
  z4 := Try.sizeOf4
  v4 := Try.zeroValue4
  t22 := Try.underlying22
  a22 := Try.isAgg22
  z22 := Try.sizeOf22
  v22 := Try.zeroValue22
  i3 := by kernel_rfl }
theorem below_setCellsI {B : Nat} {a : World} (b : Nat) (hb : B ≤ b) : ∀ (vs : List Value) (o : Nat) {w : World}, Below B a w → Below B a (w.setCells b o vs)
  | [], _, _, h => h
  | v :: r, o, _, h => below_setCellsI b hb r (o + 1) (h.setCell (p := ⟨b, o, none⟩) hb v)
theorem free_set {w : World} {b g o : Nat} (h : Free w b) (v : Value) : Free (w.setCell ⟨g, o, none⟩ v) b := by
  obtain ⟨cs, t, h⟩ := h
  by_cases e : b = g
  · subst e
    exact ⟨_, t, heap_setCell_same w b o cs t v h⟩
  · exact ⟨cs, t, (heap_setCell_other w ⟨g, o, none⟩ b v e).trans h⟩
theorem free_setCells {b : Nat} (g : Nat) : ∀ (vs : List Value) (o : Nat) {w : World}, Free w b → Free (w.setCells g o vs) b
  | [], _, _, h => h
  | v :: r, o, _, h => free_setCells g r (o + 1) (free_set h v)
theorem size_setCells (g : Nat) : ∀ (vs : List Value) (o : Nat) (w : World), (w.setCells g o vs).heap.size = w.heap.size
  | [], _, _ => rfl
  | v :: r, o, w => (size_setCells g r (o + 1) _).trans (by simp [World.setCell])
/-- One more, at place k. -/
def insL' (l : List Int) (k : Nat) (x : Int) : List Int := l.take k ++ x :: l.drop k
theorem insL_len {l : List Int} {k : Nat} (x : Int) (hk : k ≤ l.length) : (insL' l k x).length = l.length + 1 := by
  unfold insL'
  rw [List.length_append, List.length_take, List.length_cons, List.length_drop]
  omega
theorem insL_get {l : List Int} {k : Nat} {x : Int} (hk : k ≤ l.length) (j : Nat) : (insL' l k x)[j]? = if j < k then l[j]? else if j = k then some x else l[j - 1]? := by
  unfold insL'
  by_cases h1 : j < k
  · rw [if_pos h1, List.getElem?_append_left (by rw [List.length_take]; omega), List.getElem?_take, if_pos h1]
  · rw [if_neg h1, List.getElem?_append_right (by rw [List.length_take]; omega), List.length_take, Nat.min_eq_left hk]
    by_cases h2 : j = k
    · subst h2
      rw [if_pos rfl, Nat.sub_self]; rfl
    · rw [if_neg h2, show j - k = (j - k - 1) + 1 by omega, List.getElem?_cons_succ, List.getElem?_drop]
      congr 1
      omega
/-- Gives ints in new free blocks. -/
def GivesZ (l : List Int) (w : World) (e : Ending) (w' : World) : Prop := ∃ A c, e = .returned (.slice A l.length c) ∧ l.length ≤ c ∧ Ls w' (NewF w w') A l ∧ Below w.heap.size w w'
end Go.Proofs.Ythocmnfmialcaaa.Cn

/-! slices.Insert of one int into a list of the call's own, as a contract of a call. -/
namespace Go.Proofs.Ythocmnfmialcaaa.Cn
open Go.RowKit Go.ChangeAt By CoP Co Mo Kd Go.Shelf

/-- Gives ints, of a block from base on, that nothing holds fast. -/
def GivesB (base : Nat) (l : List Int) (w : World) (e : Ending) (w' : World) : Prop := ∃ A c, e = .returned (.slice A l.length c) ∧ l.length ≤ c ∧ Ls w' (fun b => (base ≤ b ∧ b < w'.heap.size) ∧ Free w' b) A l ∧ Below base w w'
theorem ls_cells {w : World} {S : Nat → Prop} {g : Nat} {l : List Int} {k : Nat} {x : Int} (hk : k ≤ l.length) (hl : ∀ x ∈ l, I64 x) (hx : I64 x) (hS : S g)
    (h1 : ∀ j y, j < k → l[j]? = some y → w.cell? ⟨g, j, none⟩ = some (.int .i64 y)) (h2 : w.cell? ⟨g, k, none⟩ = some (.int .i64 x)) (h3 : ∀ j y, k ≤ j → l[j]? = some y → w.cell? ⟨g, j + 1, none⟩ = some (.int .i64 y)) :
    Ls w S (some ⟨g, 0, none⟩) (insL' l k x) := fun _ => ⟨g, 0, rfl, hS, fun j y hy => by
  rw [insL_get hk] at hy
  rw [Nat.zero_add]
  by_cases c1 : j < k
  · rw [if_pos c1] at hy
    exact ⟨h1 j y c1 hy, hl y (List.mem_of_getElem? hy)⟩
  · rw [if_neg c1] at hy
    by_cases c2 : j = k
    · rw [if_pos c2] at hy
      obtain rfl := Option.some.inj hy
      subst c2
      exact ⟨h2, hx⟩
    · rw [if_neg c2] at hy
      have := h3 (j - 1) y (by omega) hy
      rw [show j - 1 + 1 = j by omega] at this
      exact ⟨this, hl y (List.mem_of_getElem? hy)⟩⟩
theorem zvs_len (l : List Int) : (zvs l).length = l.length := by unfold zvs; rw [List.length_map]
set_option maxHeartbeats 2000000 in
theorem insert_any (base : Nat) (v : Value) (l : List Int) (k : Nat) (hk : k ≤ l.length) (x : Int) (hx : I64 x) (hl : ∀ y ∈ l, I64 y) (hsz : l.length ≤ 9437184) (w : World) (hbase : base ≤ w.heap.size) (ho : OwnZ base w v l) :
    Calls Try.prog 49 #[v, .int .i64 k, .slice (some ⟨w.heap.size, 0, none⟩) 1 1] (w.alloc (.cells #[Value.int .i64 x] 3)) (GivesB base (insL' l k x) (w.alloc (.cells #[Value.int .i64 x] 3))) := by
  obtain ⟨W, hW⟩ : ∃ W, W = w.alloc (.cells #[Value.int .i64 x] 3) := ⟨_, rfl⟩
  have hWz : W.heap.size = w.heap.size + 1 := by rw [hW]; exact World.size_alloc w _
  have hone : W.heap[w.heap.size]? = some (.cells #[Value.int .i64 x] 3 (0, 0)) := by rw [hW]; exact heap_alloc_new w _
  have hvs : ∀ j v, ([Value.int .i64 x] : List Value)[j]? = some v → W.cell? ⟨w.heap.size, 0 + j, none⟩ = some v := fun j v hj => by
    rw [cell_of_row W _ _ _ _ _ hone, Nat.zero_add]; simpa using hj
  have h1v : ∀ v ∈ ([Value.int .i64 x] : List Value), v.oneCell' = true := fun v hv => by
    rw [List.mem_singleton] at hv; subst hv; rfl
  rw [← hW]
  rw [show (insL' l k x) = insL' l k x from rfl]
  have hlen := insL_len x hk
  rcases ho.2 with ⟨rfl, h0⟩ | ⟨g, cap, cur, rfl, hbg, hg, hnc, hcm, hcs, htk⟩
  · -- nil
    have hl0 : l = [] := List.length_eq_zero_iff.1 h0
    subst hl0
    obtain rfl : k = 0 := Nat.le_zero.1 hk
    refine (Any2.slices_Insert_int_end_grow insL none 0 0 w.heap.size 0 1 1 [] [Value.int .i64 x] W (by decide) (Nat.le_refl _) (by decide) (by decide) rfl rfl (fun _ => rfl) (fun a e => by cases e) hvs h1v).mono ?_
    rintro e w' ⟨rfl, rfl⟩
    have hn := heap_alloc_new W.drew (.cells (([] ++ [Value.int .i64 x] : List Value).toArray ++ Builtin.zeroCells (Value.int .i64 0).cells (grownCap W (0 + 1) 0 (ins_ren.t 3) - (0 + 1))) (ins_ren.t 3))
    have hge := grownCap_ge W (0 + 1) 0 (ins_ren.t 3)
    have hz : (W.drew.alloc (.cells (([] ++ [Value.int .i64 x] : List Value).toArray ++ Builtin.zeroCells (Value.int .i64 0).cells (grownCap W (0 + 1) 0 (ins_ren.t 3) - (0 + 1))) (ins_ren.t 3))).heap.size = W.heap.size + 1 := World.size_alloc W.drew _
    refine ⟨_, _, rfl, hge, ls_cells (l := []) (k := 0) (Nat.le_refl _) hl hx ⟨⟨by omega, by rw [hz]; omega⟩, _, _, hn⟩ (fun j y hj => absurd hj (Nat.not_lt_zero _)) ?_ (fun j y _ hy => by simp at hy), ?_⟩
    · refine (cell_of_row _ _ 0 _ _ _ hn).trans ?_
      rw [Array.getElem?_append_left (by simp)]
      simp
    · exact (Below.refl base W).drew.alloc (by show base ≤ W.heap.size; omega) _
  · have hgw : g < w.heap.size := row_lt hg
    have hgW : W.heap[g]? = some (.cells cur 3 (0, 0)) := by rw [hW]; exact (heap_alloc_old w _ hgw).trans hg
    have hcs' : cur.size = cap := by omega
    have htk' : cur.toList.take l.length = zvs l := by rw [← htk, Nat.mul_one]
    have hcell : ∀ j u, (zvs l)[j]? = some u → W.cell? ⟨g, j, none⟩ = some u := fun j u hu => by
      rw [← htk', List.getElem?_take] at hu
      split at hu
      · rw [cell_of_row W _ _ _ _ _ hgW]; simpa using hu
      · cases hu
    have hcell0 : ∀ j u, (zvs l)[j]? = some u → W.cell? ⟨g, 0 + j, none⟩ = some u := fun j u hu => by rw [Nat.zero_add]; exact hcell j u hu
    have hsome : ∀ j, j < cap → (W.cell? ⟨g, 0 + j, none⟩).isSome = true := fun j hj => by
      rw [cell_of_row W _ _ _ _ _ hgW, Array.getElem?_eq_getElem (by omega)]; rfl
    have hfz : ∀ j, W.frozen? ⟨g, 0 + j, none⟩ = false := fun j => frozen_of_row W g _ _ _ hgW
    have hsb : W.shape? g = some (3, cap) := by unfold World.shape?; rw [hgW]; simp [hcs']
    have hsa : W.shape? w.heap.size = some (3, 1) := by unfold World.shape?; rw [hone]; rfl
    have hcm63 : cap ≤ 9223372036854775807 := by unfold maxLen at hcm; omega
    by_cases hkn : k < l.length
    · by_cases hroom : l.length + 1 ≤ cap
      · -- in place
        refine (Any2.slices_Insert_int_shift insL g 0 l.length cap k w.heap.size 0 1 1 (zvs l) [Value.int .i64 x] W hkn (by decide) hroom hcm63 (by omega) (zvs_len l) rfl hcell0 (fun j hj => hsome j (by omega)) (fun j _ => hfz j) hvs zvs_one h1v
          3 3 1 cap hsa hsb (by omega) (frozen_of_row W _ _ _ _ hone) (frozen_of_row W _ _ _ _ hone)).mono ?_
        rintro e w' ⟨rfl, rfl⟩
        have hdl : ((zvs l).drop k).length = l.length - k := by rw [List.length_drop, zvs_len]
        have hsz2 : ((W.drew.setCells g (0 + (k + 1)) ((zvs l).drop k)).setCells g (0 + k) [Value.int .i64 x]).heap.size = W.heap.size := (size_setCells _ _ _ _).trans (size_setCells _ _ _ _)
        have hW1 : ∀ j, j < l.length + 1 → ((W.drew.setCells g (0 + (k + 1)) ((zvs l).drop k)).cell? ⟨g, j, none⟩).isSome = true := fun j hj => isSome_setCells g _ _ _ (fun i hi => by rw [Nat.add_assoc]; exact hsome _ (by rw [hdl] at hi; omega)) j (by have := hsome j (by omega); rwa [Nat.zero_add] at this)
        refine ⟨_, _, by rw [hlen], by omega, ls_cells hk hl hx ⟨⟨hbg, by rw [hsz2]; omega⟩, free_setCells _ _ _ (free_setCells _ _ _ ⟨_, _, hgW⟩)⟩ (fun j y hj hy => ?_) ?_ (fun j y hj hy => ?_), ?_⟩
        · rw [World.cell?_setCells_out _ _ _ _ _ (fun _ _ => .inl (by show j < 0 + k; omega)), World.cell?_setCells_out _ _ _ _ _ (fun _ _ => .inl (by show j < 0 + (k + 1); omega))]
          exact hcell j _ (zvs_some hy)
        · have := World.cell?_setCells_in g [Value.int .i64 x] (0 + k) (W.drew.setCells g (0 + (k + 1)) ((zvs l).drop k)) (fun j hj => by
            have hj0 : j = 0 := by simpa using hj
            subst hj0
            have := hW1 k (by omega)
            rwa [show 0 + k + 0 = k by omega]) 0 (by simp)
          rwa [show 0 + k + 0 = k by omega] at this
        · have hjl : j < l.length := (List.getElem?_eq_some_iff.1 hy).1
          rw [World.cell?_setCells_out _ _ _ _ _ (fun _ _ => .inr (by show 0 + k + 1 ≤ j + 1; omega))]
          have := World.cell?_setCells_in g ((zvs l).drop k) (0 + (k + 1)) W.drew (fun i hi => by rw [Nat.add_assoc]; exact hsome _ (by rw [hdl] at hi; omega)) (j - k) (by rw [hdl]; omega)
          rw [show 0 + (k + 1) + (j - k) = j + 1 by omega] at this
          rw [this, List.getElem_drop]
          have hz := zvs_some hy
          rw [List.getElem?_eq_getElem (by rw [zvs_len]; exact hjl)] at hz
          rw [← hz]
          congr 2
          omega
        · exact below_setCellsI g hbg _ _ (below_setCellsI g hbg _ _ (Below.refl base W).drew)
      · -- a new row
        refine (Any2.slices_Insert_int_grow insL g 0 l.length cap k w.heap.size 0 1 1 (zvs l) [Value.int .i64 x] W hkn (by decide) hnc (by omega) (by omega) (zvs_len l) rfl hcell0 hvs zvs_one h1v).mono ?_
        rintro e w' ⟨rfl, rfl⟩
        have hge := grownCap_ge W (l.length + 1) cap (ins_ren.t 3)
        obtain ⟨ROW, hROW⟩ : ∃ ROW, ROW = ((zvs l).take k).toArray ++ Builtin.zeroCells (Value.int .i64 0).cells (l.length + 1 - k) ++ Builtin.zeroCells (Value.int .i64 0).cells (grownCap W (l.length + 1) cap (ins_ren.t 3) - (l.length + 1)) := ⟨_, rfl⟩
        rw [← hROW]
        have hRl : l.length + 1 ≤ ROW.size := by
          rw [hROW]
          simp [Builtin.zeroCells, Value.cells, zvs_len]
          omega
        have hn := heap_alloc_new W (.cells ROW (ins_ren.t 3))
        have hz0 : (W.alloc (.cells ROW (ins_ren.t 3))).heap.size = W.heap.size + 1 := World.size_alloc W _
        have hdl : ((zvs l).drop k).length = l.length - k := by rw [List.length_drop, zvs_len]
        have hsz2 : ((((W.alloc (.cells ROW (ins_ren.t 3))).drew.setCells W.heap.size k [Value.int .i64 x]).drew).setCells W.heap.size (k + 1) ((zvs l).drop k)).heap.size = W.heap.size + 1 := (size_setCells _ _ _ _).trans ((size_setCells _ _ _ _).trans hz0)
        have hN : ∀ j, j < l.length + 1 → ((W.alloc (.cells ROW (ins_ren.t 3))).drew.cell? ⟨W.heap.size, j, none⟩).isSome = true := fun j hj => by
          have : (W.alloc (.cells ROW (ins_ren.t 3))).cell? ⟨W.heap.size, j, none⟩ = ROW[j]? := cell_of_row _ _ _ _ _ _ hn
          rw [show (W.alloc (.cells ROW (ins_ren.t 3))).drew.cell? ⟨W.heap.size, j, none⟩ = ROW[j]? from this, Array.getElem?_eq_getElem (by omega)]; rfl
        have hN2 : ∀ j, j < l.length + 1 → ((((W.alloc (.cells ROW (ins_ren.t 3))).drew.setCells W.heap.size k [Value.int .i64 x]).drew).cell? ⟨W.heap.size, j, none⟩).isSome = true := fun j hj =>
          isSome_setCells W.heap.size [Value.int .i64 x] k (W.alloc (.cells ROW (ins_ren.t 3))).drew (fun i hi => hN _ (by simp at hi; omega)) j (hN j hj)
        refine ⟨_, _, by rw [hlen], by rw [hlen]; exact hge, ls_cells hk hl hx ⟨⟨by omega, by rw [hsz2]; omega⟩, free_setCells _ _ _ (free_setCells _ _ _ ⟨_, _, hn⟩)⟩ (fun j y hj hy => ?_) ?_ (fun j y hj hy => ?_), ?_⟩
        · rw [World.cell?_setCells_out _ _ _ _ _ (fun _ _ => .inl (by show j < k + 1; omega))]
          show ((W.alloc (.cells ROW (ins_ren.t 3))).drew.setCells W.heap.size k [Value.int .i64 x]).cell? _ = _
          rw [World.cell?_setCells_out _ _ _ _ _ (fun _ _ => .inl (by show j < k; omega))]
          show (W.alloc (.cells ROW (ins_ren.t 3))).cell? _ = _
          have hz := zvs_some hy
          rw [cell_of_row _ _ _ _ _ _ hn, hROW, Array.getElem?_append_left (by simp [Builtin.zeroCells, Value.cells, zvs_len]; omega), Array.getElem?_append_left (by simp [zvs_len]; omega)]
          simp only [List.getElem?_toArray, List.getElem?_take, if_pos hj]
          exact hz
        · rw [World.cell?_setCells_out _ _ _ _ _ (fun _ _ => .inl (by show k < k + 1; omega))]
          have := World.cell?_setCells_in W.heap.size [Value.int .i64 x] k (W.alloc (.cells ROW (ins_ren.t 3))).drew (fun i hi => hN _ (by simp at hi; omega)) 0 (by simp)
          exact this
        · have hjl : j < l.length := (List.getElem?_eq_some_iff.1 hy).1
          have := World.cell?_setCells_in W.heap.size ((zvs l).drop k) (k + 1) (((W.alloc (.cells ROW (ins_ren.t 3))).drew.setCells W.heap.size k [Value.int .i64 x]).drew) (fun i hi => hN2 _ (by rw [hdl] at hi; omega)) (j - k) (by rw [hdl]; omega)
          rw [show k + 1 + (j - k) = j + 1 by omega] at this
          rw [this, List.getElem_drop]
          have hz := zvs_some hy
          rw [List.getElem?_eq_getElem (by rw [zvs_len]; exact hjl)] at hz
          rw [← hz]
          congr 2
          omega
        · exact below_setCellsI _ (by omega) _ _ (below_setCellsI _ (by omega) _ _ ((Below.refl base W).alloc (by omega) _).drew).drew
    · obtain rfl : k = l.length := by omega
      by_cases hroom : l.length + 1 ≤ cap
      · refine (Any2.slices_Insert_int_end_room insL g 0 l.length cap w.heap.size 0 1 1 [Value.int .i64 x] W (by decide) hroom hcm63 rfl (fun j hj => by rw [Nat.add_assoc]; exact hsome _ (by omega)) (fun j _ => by rw [Nat.add_assoc]; exact hfz _) hvs h1v).mono ?_
        rintro e w' ⟨rfl, rfl⟩
        have hsz2 : (W.setCells g (0 + l.length) [Value.int .i64 x]).heap.size = W.heap.size := size_setCells _ _ _ _
        refine ⟨_, _, by rw [hlen], by omega, ls_cells hk hl hx ⟨⟨hbg, by rw [hsz2]; omega⟩, free_setCells _ _ _ ⟨_, _, hgW⟩⟩ (fun j y hj hy => ?_) ?_ (fun j y hj hy => ?_), below_setCellsI g hbg _ _ (Below.refl base W)⟩
        · rw [World.cell?_setCells_out _ _ _ _ _ (fun _ _ => .inl (by show j < 0 + l.length; omega))]
          exact hcell j _ (zvs_some hy)
        · have := World.cell?_setCells_in g [Value.int .i64 x] (0 + l.length) W (fun j hj => by
            have hj0 : j = 0 := by simpa using hj
            subst hj0
            rw [show 0 + l.length + 0 = 0 + l.length by omega]
            exact hsome _ (by omega)) 0 (by simp)
          rwa [show 0 + l.length + 0 = l.length by omega] at this
        · have hjl : j < l.length := (List.getElem?_eq_some_iff.1 hy).1
          omega
      · refine (Any2.slices_Insert_int_end_grow insL (some ⟨g, 0, none⟩) l.length cap w.heap.size 0 1 1 (zvs l) [Value.int .i64 x] W (by decide) hnc (by omega) (by omega) (zvs_len l) rfl (fun e => by cases e) (fun a e j v hv => by
          obtain rfl := Option.some.inj e
          rw [plainAdd]
          exact hcell0 j v hv) hvs h1v).mono ?_
        rintro e w' ⟨rfl, rfl⟩
        have hge := grownCap_ge W (l.length + 1) cap (ins_ren.t 3)
        have hn := heap_alloc_new W.drew (.cells ((zvs l ++ [Value.int .i64 x]).toArray ++ Builtin.zeroCells (Value.int .i64 0).cells (grownCap W (l.length + 1) cap (ins_ren.t 3) - (l.length + 1))) (ins_ren.t 3))
        have hz : (W.drew.alloc (.cells ((zvs l ++ [Value.int .i64 x]).toArray ++ Builtin.zeroCells (Value.int .i64 0).cells (grownCap W (l.length + 1) cap (ins_ren.t 3) - (l.length + 1))) (ins_ren.t 3))).heap.size = W.heap.size + 1 := World.size_alloc W.drew _
        have hrow : ∀ j u, (zvs l ++ [Value.int .i64 x])[j]? = some u → (W.drew.alloc (.cells ((zvs l ++ [Value.int .i64 x]).toArray ++ Builtin.zeroCells (Value.int .i64 0).cells (grownCap W (l.length + 1) cap (ins_ren.t 3) - (l.length + 1))) (ins_ren.t 3))).cell? ⟨W.heap.size, j, none⟩ = some u := fun j u hu => by
          have hj := (List.getElem?_eq_some_iff.1 hu).1
          have h2 := cell_of_row _ _ j _ _ _ hn
          refine h2.trans ?_
          rw [Array.getElem?_append_left (by simpa using hj)]
          simpa using hu
        refine ⟨some ⟨W.heap.size, 0, none⟩, grownCap W (l.length + 1) cap (ins_ren.t 3), by rw [hlen], by rw [hlen]; exact hge, ls_cells hk hl hx ⟨⟨by omega, by rw [hz]; omega⟩, _, _, hn⟩ (fun j y hj hy => ?_) ?_ (fun j y hj hy => ?_), ?_⟩
        · exact hrow j _ (by rw [List.getElem?_append_left (by rw [zvs_len]; exact hj)]; exact zvs_some hy)
        · exact hrow _ _ (by rw [List.getElem?_append_right (by rw [zvs_len]; omega), zvs_len, Nat.sub_self]; rfl)
        · have hjl : j < l.length := (List.getElem?_eq_some_iff.1 hy).1
          omega
        · exact (Below.refl base W).drew.alloc (by show base ≤ W.heap.size; omega) _
end Go.Proofs.Ythocmnfmialcaaa.Cn

/-! The package's with and without: a list that has one more, or one less; as contracts of calls. -/
namespace Go.Proofs.Ythocmnfmialcaaa.Cn
open Go.RowKit Go.ChangeAt By CoP Co Mo Kd Go.Shelf

/-- Where the first greater one is; or the end. -/
def posL (x : Int) (l : List Int) : Nat := (l.findIdx? fun y => decide (x < y)).getD l.length
theorem posL_le (x : Int) (l : List Int) : posL x l ≤ l.length := by
  unfold posL
  cases h : l.findIdx? (fun y => decide (x < y)) with
  | none => exact Nat.le_refl _
  | some i =>
    obtain ⟨hi, _⟩ := List.findIdx?_eq_some_iff_getElem.1 h
    exact Nat.le_of_lt hi
theorem posL_below {x : Int} {l : List Int} {j : Nat} {y : Int} (hj : j < posL x l) (hy : l[j]? = some y) : ¬ x < y := by
  unfold posL at hj
  cases h : l.findIdx? (fun y => decide (x < y)) with
  | none =>
    rw [List.findIdx?_eq_none_iff] at h
    have := h y (List.mem_of_getElem? hy)
    simpa using this
  | some i =>
    rw [h] at hj
    obtain ⟨hi, _, hno⟩ := List.findIdx?_eq_some_iff_getElem.1 h
    have := hno j hj
    obtain ⟨hk, e⟩ := List.getElem?_eq_some_iff.1 hy
    rw [e] at this
    simpa using this
theorem posL_at {x : Int} {l : List Int} {y : Int} (hy : l[posL x l]? = some y) : x < y := by
  cases h : l.findIdx? (fun y => decide (x < y)) with
  | none =>
    unfold posL at hy
    rw [h] at hy
    simp at hy
  | some i =>
    obtain ⟨hi, hp, _⟩ := List.findIdx?_eq_some_iff_getElem.1 h
    have e : posL x l = i := by unfold posL; rw [h]; rfl
    rw [e, List.getElem?_eq_getElem hi] at hy
    rw [← Option.some.inj hy]
    simpa using hp
/-- A list and a number more, rising; and one less. -/
def wthL (x : Int) (l : List Int) : List Int := insL' l (posL x l) x
def woL (x : Int) (l : List Int) : List Int := l.filter fun y => !(y == x)
theorem above1_asks (w : World) (g : Nat) (x : Int) (hg : g < w.heap.size) (hc : w.cell? ⟨g, 0, none⟩ = some (.int .i64 x)) : Asks 58 #[.pointer (some ⟨g, 0, none⟩)] (fun y => decide (x < y)) w := fun W y h0 h1 hb => by
  have hc' := (hb.cell (p := ⟨g, 0, none⟩) hg).trans hc
  clear hc hg h0 h1
  go_enter Try.func58, Try.ntmps58
  go_wp2
  go_ret
  exact ⟨rfl, Below.refl _ _⟩
theorem above1_enters : ∀ args w, (callFunc 58 args).run Try.prog w = .ok (.enter 58 args) w := enters_of Try.func58 (by kernel_rfl) rfl
theorem above_any (x : Int) (w : World) : Calls Try.prog 48 #[.int .i64 x] w (GivesAsk 58 (fun y => decide (x < y)) w) := by
  go_enter Try.func48, Try.ntmps48
  go_wp2
  go_ret
  exact ⟨_, rfl, above1_asks _ _ x (by simp) (by rw [cell_of_row _ _ 0 _ _ _ (heap_alloc_new w _)]; rfl), (Below.refl _ _).alloc (Nat.le_refl _) _⟩
theorem GivesB.z {base : Nat} {l : List Int} {w0 w : World} {e : Ending} {w' : World} (h : GivesB base l w e w') (hb : Below w0.heap.size w0 w) (hg : w0.heap.size ≤ base) : GivesZ l w0 e w' := by
  obtain ⟨A, c, he, hc, hl, hbl⟩ := h
  exact ⟨A, c, he, hc, hl.less (fun b hB => ⟨⟨Nat.le_trans hg hB.1.1, hB.1.2⟩, hB.2⟩), hb.trans (hbl.mono hg)⟩
set_option maxHeartbeats 1000000 in
theorem with_any (A : Option Addr) (n c B : Nat) (l : List Int) (hn : n = l.length) (hsz : n ≤ 9437184) (x : Int) (hx : I64 x) (w : World) (hB : B ≤ w.heap.size) (hr : LiesI w B A l) :
    Calls Try.prog 41 #[.slice A n c, .int .i64 x] w (GivesZ (wthL x l) w) := by
  have hi64 := LiesI.i64 hr
  have hpl := posL_le x l
  have HX := Lib.hid hx
  have HI64 := Lib.hid hi64
  have HN := Lib.hid hn
  have HR := Lib.hid hr
  have HSZ := Lib.hid hsz
  have hsl : l.length ≤ 9437184 := by omega
  have HSL := Lib.hid hsl
  -- the place
  have hpos : (idxI (fun y => decide (x < y)) l = -1 ∧ posL x l = n) ∨ (idxI (fun y => decide (x < y)) l = (posL x l : Int)) := by
    unfold idxI posL
    cases h : l.findIdx? (fun y => decide (x < y)) with
    | none => exact .inl ⟨rfl, hn.symm⟩
    | some i => exact .inr rfl
  have hidx : ∀ (w' : World), Below w.heap.size w w' → ∀ lb, Asks 58 lb (fun y => decide (x < y)) w' → Calls Try.prog 47 #[.slice A n c, .func (.func 58) #[] lb] w' (Tells (.int .i64 (idxI (fun y => decide (x < y)) l)) w') := fun w' hb lb ha =>
    indexFunc_any A n c B l hn (by omega) _ lb _ above1_enters w' (Nat.le_trans hB hb.size) (hr.below (hb.mono hB)) ha
  have hclone : ∀ (w' : World), Below w.heap.size w w' → Calls Try.prog 40 #[.slice A n c] w' (GivesO l w') := fun w' hb => clone_any A n c B l hn hsz w' (Nat.le_trans hB hb.size) (hr.below (hb.mono hB))
  have hins : ∀ (w' : World) (v : Value) (base : Nat), base ≤ w'.heap.size → OwnZ base w' v l → Calls Try.prog 49 #[v, .int .i64 (posL x l), .slice (some ⟨w'.heap.size, 0, none⟩) 1 1] (w'.alloc (.cells #[.int .i64 x] 3)) (GivesB base (wthL x l) (w'.alloc (.cells #[.int .i64 x] 3))) := fun w' v base hb ho =>
    insert_any base v l _ hpl x hx hi64 hsl w' hb ho
  have hpn : posL x l ≤ n := by omega
  generalize posL x l = k at hpos hins hpl hpn
  generalize idxI (fun y => decide (x < y)) l = z at hpos hidx
  generalize wthL x l = r at hins ⊢
  have HIDX := Lib.hid hidx
  have HCL := Lib.hid hclone
  have HINS := Lib.hid hins
  clear hidx hclone hins hr hn hx hi64 hsl hsz
  have hn63 : n ≤ 9437184 := HSZ.out
  rcases hpos with ⟨rfl, rfl⟩ | rfl
  all_goals
    have HPL := Lib.hid hpl
    clear hpl
    go_enter Try.func41, Try.ntmps41
    go_wp2_with fail
    refine (above_any x w).mono ?_
    rintro e w1 ⟨lb, rfl, hq, hb⟩
    have HB1 := Lib.hid hb
    have HQ := Lib.hid (HIDX.out w1 hb lb hq)
    clear hq hb
    go_wp2_with fail
    refine HQ.out.mono ?_
    rintro e w2 ⟨rfl, hb⟩
    have HB2 := Lib.hid (By.ext HB1.out hb)
    clear hb
    go_wp2_with fail
    refine (HCL.out w2 HB2.out).mono ?_
    rintro e w3 ⟨v, rfl, ho, hb⟩
    have HO := Lib.hid ho
    have HB3 := Lib.hid hb
    clear ho hb
    go_wp2_with fail
    refine (HINS.out w3 v w2.heap.size HB3.out.size HO.out).mono ?_
    rintro e w4 h4
    have H4 := Lib.hid (GivesB.z (w0 := w) h4 ((By.ext HB2.out HB3.out).alloc (By.ext HB2.out HB3.out).size _) HB2.out.size)
    clear h4
    obtain ⟨A4, c4, rfl, hc4, hl4, hb4⟩ := H4.out
    have HC4 := Lib.hid hc4
    have HL4 := Lib.hid hl4
    have HB4 := Lib.hid hb4
    clear hc4 hl4 hb4
    go_wp2
    go_ret
    exact ⟨_, _, rfl, HC4.out, HL4.out, HB4.out⟩
end Go.Proofs.Ythocmnfmialcaaa.Cn

/-! The package's without, and the reference's Without and With; as contracts of calls. -/
namespace Go.Proofs.Ythocmnfmialcaaa.Cn
open Go.RowKit Go.ChangeAt By CoP Co Mo Kd Go.Shelf

theorem OwnZ.below {base : Nat} {w w' : World} {v : Value} {l : List Int} (h : OwnZ base w v l) (hb : Below w.heap.size w w') : OwnZ base w' v l := by
  refine ⟨h.1, ?_⟩
  rcases h.2 with hn | ⟨k, cap, cur, rfl, hb2, hk, rest⟩
  · exact .inl hn
  · exact .inr ⟨k, cap, cur, rfl, hb2, (hb.block k (row_lt hk)).trans hk, rest⟩
theorem OwnZ.nil (base : Nat) (w : World) : OwnZ base w (.slice none 0 0) [] := World.ownsRow_nil w base _ 1
theorem OwnZ.form {base : Nat} {w : World} {v : Value} {l : List Int} (h : OwnZ base w v l) : ∃ A c, v = .slice A l.length c := by
  obtain ⟨A, c, e, _⟩ := owns_form h
  exact ⟨A, c, e⟩
theorem zvs_snoc (l : List Int) (y : Int) : zvs l ++ [.int .i64 y] = zvs (l ++ [y]) := by unfold zvs; rw [List.map_append]; rfl
/-- One more, behind: what a push gives. -/
theorem own_push {base : Nat} {w0 w1 w2 : World} {v : Value} {l : List Int} {y : Int} (hb : Below base w0 w1) (hbase : base ≤ w1.heap.size) (ho : OwnZ base w1 v l) {v' : Value} (ho2 : w2.ownsRow base 3 1 v' (l.length + 1) (zvs l ++ [.int .i64 y]))
    (hg : (w1.alloc (.cells #[.int .i64 y] 3)).grownBy w2 v.ownBlock) : OwnZ base w2 v' (l ++ [y]) ∧ Below base w0 w2 := by
  refine ⟨by unfold OwnZ; rw [List.length_append, ← zvs_snoc]; exact ho2, ?_⟩
  have h1 : Below base w0 (w1.alloc (.cells #[.int .i64 y] 3)) := hb.alloc hbase _
  exact h1.grown hg (by rw [World.size_alloc]; omega) (fun k hk => (World.ownsRow.lt ho k hk).1)
theorem filter_step {p : Int → Bool} {l : List Int} {k : Nat} {y : Int} (hy : l[k]? = some y) : (l.take (k + 1)).filter p = (l.take k).filter p ++ (if p y then [y] else []) := by
  obtain ⟨hk, e⟩ := List.getElem?_eq_some_iff.1 hy
  rw [List.take_succ_eq_append_getElem hk, List.filter_append, e]
  congr 1
  cases h : p y <;> simp [h]
set_option maxHeartbeats 1000000 in
theorem without_any (A : Option Addr) (n c B : Nat) (l : List Int) (hn : n = l.length) (hsz : n ≤ 9437184) (x : Int) (w : World) (hB : B ≤ w.heap.size) (hr : LiesI w B A l) :
    Calls Try.prog 42 #[.slice A n c, .int .i64 x] w (GivesZ (woL x l) w) := by
  have HI64 := Lib.hid (LiesI.i64 hr)
  have HN := Lib.hid hn
  have HR := Lib.hid hr
  have HSZ := Lib.hid hsz
  have HBB := Lib.hid hB
  have hn47 : n ≤ 140737488355328 := by omega
  clear hn hr hsz hB
  go_enter Try.func42, Try.ntmps42
  go_wp2_with fail
  refine (same_any x w).mono ?_
  rintro e w1 ⟨lb, rfl, hq, hb⟩
  have HB1 := Lib.hid hb
  have HQ := Lib.hid hq
  clear hq hb
  go_wp2
  go_loopw [6, 8, 13] (fun s _ i wr => ∃ (k : Nat) (F : List Int), k ≤ n ∧ i = .int .i64 k ∧ Below w.heap.size w wr ∧ Below w1.heap.size w1 wr ∧ OwnZ w1.heap.size wr s F ∧ F = ((l.take k).filter fun y => !(y == x)) ∧ F.length ≤ k) (fun _ _ i _ => n - (intOf i).toNat)
  case atStart => exact ⟨0, [], Nat.zero_le _, rfl, HB1.out, Below.refl _ _, OwnZ.nil _ _, rfl, Nat.le_refl _⟩
  case round =>
    obtain ⟨k, F, hk, rfl, hb, hbw1, ho, hF, hlen⟩ := hrel
    have HB := Lib.hid hb
    have HBW := Lib.hid hbw1
    have HO := Lib.hid ho
    have HFF := Lib.hid hF
    clear hF
    by_cases hkn : k < n
    · have hkl : k < l.length := by have := HN.out; omega
      obtain ⟨gg, o, rfl, hg, hc, hy0, hy1⟩ := (HR.out.below (hb.mono HBB.out)).at_ hkl
      have HY := Lib.hid (List.getElem?_eq_getElem hkl)
      generalize l[k] = y at hc hy0 hy1 HY
      have hcy : Calls Try.prog 57 (#[.int .i64 y] ++ lb) wr (Says (y == x) wr) := HQ.out _ y hy0 hy1 hbw1
      have HC := Lib.hid hcy
      have hf := filter_step (p := fun y => !(y == x)) HY.out
      rw [← HFF.out] at hf
      have HLEN := Lib.hid hlen
      obtain ⟨A0, c0, rfl⟩ := ho.form
      clear hkl hb hy0 hy1 ho hlen hbw1 hcy
      cases hq : (y == x) with
      | true =>
        rw [hq] at hf HC
        have HF2 := Lib.hid (hf.trans (List.append_nil _))
        clear hq hf
        go_wp2_with fail
        refine HC.out.mono ?_
        rintro e w' ⟨rfl, hb'⟩
        have HB' := Lib.hid hb'
        clear hb'
        go_wp2
        go_roundw
        case rel => exact ⟨k + 1, F, by omega, by go_num, ext HB.out HB'.out, ext HBW.out HB'.out, HO.out.below HB'.out, HF2.out.symm, by have := HLEN.out; omega⟩
        case measure => simp [intOf]; omega
      | false =>
        rw [hq] at hf HC
        have hf2 : (l.take (k + 1)).filter (fun y => !(y == x)) = F ++ [y] := hf
        have HF2 := Lib.hid hf2
        clear hq hf hf2
        go_wp2_with fail
        refine HC.out.mono ?_
        rintro e w' ⟨rfl, hb'⟩
        have HB' := Lib.hid hb'
        have HOW := Lib.hid (HO.out.below hb')
        have HBW2 := Lib.hid (ext HBW.out hb')
        clear hb'
        go_wp2_with (first
          | (at_builtin; refine wpList_pushI rfl (.tmp 21) (.tmp 23) rfl (news := [.int .i64 y]) rfl HOW.out rfl rfl (fun u hu => by rw [List.mem_singleton] at hu; subst hu; rfl) (by have h1 := HLEN.out; have h2 := HSZ.out; omega) HBW2.out.size ?_
             intro v3 w3 ho3 hg3 _
             have hp3 := own_push HBW2.out HBW2.out.size HOW.out ho3 hg3
             have HP3 := Lib.hid hp3
             clear ho3 hg3 hp3))
        go_roundw
        case rel => exact ⟨k + 1, F ++ [y], by omega, by go_num, HB1.out.trans (HP3.out.2.mono HB1.out.size), HP3.out.2, HP3.out.1, HF2.out.symm, by rw [List.length_append]; have := HLEN.out; simp; omega⟩
        case measure => simp [intOf]; omega
    · obtain rfl : k = n := by omega
      have hl : l.take k = l := List.take_of_length_le (by have := HN.out; omega)
      have hF := HFF.out
      rw [hl] at hF
      have HG := Lib.hid (OwnZ.ls (w := w) HO.out HB1.out.size (fun y hy => HI64.out y (by rw [hF] at hy; exact (List.mem_filter.1 hy).1)))
      have HFE := Lib.hid (show woL x l = F from hF.symm)
      clear hb hbw1 ho hlen hl hF
      obtain ⟨A0, c0, rfl, h1, h2⟩ := HG.out
      have H1 := Lib.hid h1
      have H2 := Lib.hid h2
      clear h1 h2
      go_wp2
      go_ret
      rw [HFE.out]
      exact ⟨A0, c0, rfl, H1.out, H2.out, HB.out⟩
end Go.Proofs.Ythocmnfmialcaaa.Cn

/-! The reference's Without and With, as contracts of calls. -/
namespace Go.Proofs.Ythocmnfmialcaaa.Cn
open Go.RowKit Go.ChangeAt By CoP Co Mo Kd Go.Shelf

set_option maxHeartbeats 1000000 in
theorem rWithout_any (A : Option Addr) (n c B : Nat) (l : List Int) (hn : n = l.length) (hsz : n ≤ 9437184) (x : Int) (w : World) (hB : B ≤ w.heap.size) (hr : LiesI w B A l) :
    Calls Try.prog 35 #[.slice A n c, .int .i64 x] w (GivesZ (woL x l) w) := by
  have HI64 := Lib.hid (LiesI.i64 hr)
  have HN := Lib.hid hn
  have HR := Lib.hid hr
  have HSZ := Lib.hid hsz
  have HBB := Lib.hid hB
  have hn47 : n ≤ 140737488355328 := by omega
  clear hn hr hsz hB
  go_enter Try.func35, Try.ntmps35
  go_wp2
  go_loopw [5, 6] (fun s i wr => ∃ (k : Nat) (F : List Int), k ≤ n ∧ i = .int .i64 k ∧ Below w.heap.size w wr ∧ OwnZ w.heap.size wr s F ∧ F = ((l.take k).filter fun y => !(y == x)) ∧ F.length ≤ k) (fun _ i _ => n - (intOf i).toNat)
  case atStart => exact ⟨0, [], Nat.zero_le _, rfl, Below.refl _ _, OwnZ.nil _ _, rfl, Nat.le_refl _⟩
  case round =>
    obtain ⟨k, F, hk, rfl, hb, ho, hF, hlen⟩ := hrel
    have HB := Lib.hid hb
    have HO := Lib.hid ho
    have HFF := Lib.hid hF
    clear hF
    by_cases hkn : k < n
    · have hkl : k < l.length := by have := HN.out; omega
      obtain ⟨gg, o, rfl, hg, hc, hy0, hy1⟩ := (HR.out.below (hb.mono HBB.out)).at_ hkl
      have HY := Lib.hid (List.getElem?_eq_getElem hkl)
      generalize l[k] = y at hc hy0 hy1 HY
      have hf := filter_step (p := fun y => !(y == x)) HY.out
      rw [← HFF.out] at hf
      have HLEN := Lib.hid hlen
      obtain ⟨A0, c0, rfl⟩ := ho.form
      clear hkl hb hy0 hy1 ho hlen
      cases hq : (y == x) with
      | true =>
        rw [hq] at hf
        have HF2 := Lib.hid (hf.trans (List.append_nil _))
        have hq2 : (y != x) = false := by rw [bne, hq]; rfl
        clear hf
        go_wp2
        go_roundw
        case rel => exact ⟨k + 1, F, by omega, by go_num, HB.out, HO.out, HF2.out.symm, by have := HLEN.out; omega⟩
        case measure => simp [intOf]; omega
      | false =>
        rw [hq] at hf
        have hf2 : (l.take (k + 1)).filter (fun y => !(y == x)) = F ++ [y] := hf
        have HF2 := Lib.hid hf2
        have hq2 : (y != x) = true := by rw [bne, hq]; rfl
        clear hf hf2
        go_wp2_with (first
          | (at_builtin; refine wpList_pushI rfl (.tmp 19) (.tmp 24) rfl (news := [.int .i64 y]) rfl HO.out rfl rfl (fun u hu => by rw [List.mem_singleton] at hu; subst hu; rfl) (by have h1 := HLEN.out; have h2 := HSZ.out; omega) HB.out.size ?_
             intro v3 w3 ho3 hg3 _
             have hp3 := own_push HB.out HB.out.size HO.out ho3 hg3
             have HP3 := Lib.hid hp3
             clear ho3 hg3 hp3))
        go_roundw
        case rel => exact ⟨k + 1, F ++ [y], by omega, by go_num, HP3.out.2, HP3.out.1, HF2.out.symm, by rw [List.length_append]; have := HLEN.out; simp; omega⟩
        case measure => simp [intOf]; omega
    · obtain rfl : k = n := by omega
      have hl : l.take k = l := List.take_of_length_le (by have := HN.out; omega)
      have hF := HFF.out
      rw [hl] at hF
      have HG := Lib.hid (OwnZ.ls (w := w) HO.out (Nat.le_refl _) (fun y hy => HI64.out y (by rw [hF] at hy; exact (List.mem_filter.1 hy).1)))
      have HFE := Lib.hid (show woL x l = F from hF.symm)
      clear hb ho hlen hl hF
      obtain ⟨A0, c0, rfl, h1, h2⟩ := HG.out
      have H1 := Lib.hid h1
      have H2 := Lib.hid h2
      clear h1 h2
      go_wp2
      go_ret
      rw [HFE.out]
      exact ⟨A0, c0, rfl, H1.out, H2.out, HB.out⟩
/-- With's list behind k rounds. -/
def outAt (l : List Int) (P k : Nat) (x : Int) : List Int := if P < k then insL' (l.take k) P x else l.take k
theorem insL_snoc {l : List Int} {P k : Nat} {x y : Int} (hP : P ≤ k) (hy : l[k]? = some y) : insL' (l.take (k + 1)) P x = insL' (l.take k) P x ++ [y] := by
  obtain ⟨hk, e⟩ := List.getElem?_eq_some_iff.1 hy
  unfold insL'
  rw [List.take_succ_eq_append_getElem hk, List.take_append_of_le_length (by rw [List.length_take]; omega), List.drop_append_of_le_length (by rw [List.length_take]; omega), e, List.append_assoc]
  rfl
theorem insL_end (l : List Int) (x : Int) : insL' l l.length x = l ++ [x] := by unfold insL'; simp
theorem outAt_below {l : List Int} {P k : Nat} {x y : Int} (hk : k < P) (hy : l[k]? = some y) : outAt l P (k + 1) x = outAt l P k x ++ [y] := by
  obtain ⟨hk2, e⟩ := List.getElem?_eq_some_iff.1 hy
  unfold outAt
  rw [if_neg (by omega), if_neg (by omega), List.take_succ_eq_append_getElem hk2, e]
theorem outAt_here {l : List Int} {P : Nat} {x y : Int} (hy : l[P]? = some y) : outAt l P (P + 1) x = (outAt l P P x ++ [x]) ++ [y] := by
  obtain ⟨hk2, e⟩ := List.getElem?_eq_some_iff.1 hy
  unfold outAt
  rw [if_pos (by omega), if_neg (by omega), insL_snoc (Nat.le_refl _) hy]
  have : insL' (l.take P) P x = l.take P ++ [x] := by
    have := insL_end (l.take P) x
    rwa [List.length_take, Nat.min_eq_left (by omega)] at this
  rw [this]
theorem outAt_above {l : List Int} {P k : Nat} {x y : Int} (hk : P < k) (hy : l[k]? = some y) : outAt l P (k + 1) x = outAt l P k x ++ [y] := by
  unfold outAt
  rw [if_pos (by omega), if_pos hk, insL_snoc (by omega) hy]
theorem outAt_len {l : List Int} {P k : Nat} {x : Int} (hk : k ≤ l.length) : (outAt l P k x).length ≤ k + 1 := by
  unfold outAt
  split
  · rw [insL_len x (by rw [List.length_take]; omega), List.length_take]; omega
  · rw [List.length_take]; omega
theorem outAt_mem {l : List Int} {P k : Nat} {x : Int} {Q : Int → Prop} (hl : ∀ y ∈ l, Q y) (hx : Q x) : ∀ y ∈ outAt l P k x, Q y := by
  intro y hy
  unfold outAt at hy
  split at hy
  · unfold insL' at hy
    rw [List.mem_append, List.mem_cons] at hy
    rcases hy with h | rfl | h
    · exact hl y (List.mem_of_mem_take (List.mem_of_mem_take h))
    · exact hx
    · exact hl y (List.mem_of_mem_take (List.mem_of_mem_drop h))
  · exact hl y (List.mem_of_mem_take hy)
end Go.Proofs.Ythocmnfmialcaaa.Cn

/-! The reference's With, as a contract of a call. -/
namespace Go.Proofs.Ythocmnfmialcaaa.Cn
open Go.RowKit Go.ChangeAt By CoP Co Mo Kd Go.Shelf

/-- Likewise, the new list as a letter. -/
theorem own_push2 {base : Nat} {w0 w1 w2 : World} {v : Value} {l : List Int} {y : Int} (hb : Below base w0 w1) (hbase : base ≤ w1.heap.size) (ho : OwnZ base w1 v l) {v' : Value} (ho2 : w2.ownsRow base 3 1 v' (l.length + 1) (zvs l ++ [.int .i64 y]))
    (hg : (w1.alloc (.cells #[.int .i64 y] 3)).grownBy w2 v.ownBlock) : ∃ F, RowKit.Hid (F = l ++ [y]) ∧ RowKit.Hid (F.length = l.length + 1) ∧ RowKit.Hid (OwnZ base w2 v' F) ∧ RowKit.Hid (Below base w0 w2) := by
  obtain ⟨h1, h2⟩ := own_push hb hbase ho ho2 hg
  exact ⟨_, Lib.hid rfl, Lib.hid (by rw [List.length_append, List.length_singleton]), Lib.hid h1, Lib.hid h2⟩
set_option maxHeartbeats 2000000 in
theorem rWith_any (A : Option Addr) (n c B : Nat) (l : List Int) (hn : n = l.length) (hsz : n ≤ 9000000) (x : Int) (hx : I64 x) (w : World) (hB : B ≤ w.heap.size) (hr : LiesI w B A l) :
    Calls Try.prog 34 #[.slice A n c, .int .i64 x] w (GivesZ (wthL x l) w) := by
  have HI64 := Lib.hid (LiesI.i64 hr)
  have HN := Lib.hid hn
  have HR := Lib.hid hr
  have HSZ := Lib.hid hsz
  have HBB := Lib.hid hB
  have HX := Lib.hid hx
  have HPB := Lib.hid (fun j y => posL_below (x := x) (l := l) (j := j) (y := y))
  have HPA := Lib.hid (fun y => posL_at (x := x) (l := l) (y := y))
  have HPL := Lib.hid (posL_le x l)
  have hw : wthL x l = insL' l (posL x l) x := rfl
  generalize posL x l = P at HPB HPA HPL hw
  have HW := Lib.hid hw
  have hn47 : n ≤ 140737488355328 := by omega
  clear hn hr hsz hB hx hw
  go_enter Try.func34, Try.ntmps34
  go_wp2
  go_loopw [5, 6, 7] (fun s pv i wr => ∃ (k : Nat) (F : List Int), k ≤ n ∧ i = .int .i64 k ∧ pv = .bool (decide (P < k)) ∧ Below w.heap.size w wr ∧ OwnZ w.heap.size wr s F ∧ F = outAt l P k x) (fun _ _ i _ => n - (intOf i).toNat)
  case atStart => exact ⟨0, [], Nat.zero_le _, rfl, rfl, Below.refl _ _, OwnZ.nil _ _, by unfold outAt; rw [if_neg (by omega)]; rfl⟩
  case round =>
    obtain ⟨k, F, hk, rfl, rfl, hb, ho, hF⟩ := hrel
    have HB := Lib.hid hb
    have HO := Lib.hid ho
    have HFF := Lib.hid hF
    have HLEN := Lib.hid (show F.length ≤ n + 1 by
      have := outAt_len (l := l) (P := P) (k := k) (x := x) (by have := HN.out; omega)
      rw [← hF] at this
      omega)
    clear hF
    by_cases hkn : k < n
    · have hkl : k < l.length := by have := HN.out; omega
      obtain ⟨gg, o, rfl, hg, hc, hy0, hy1⟩ := (HR.out.below (hb.mono HBB.out)).at_ hkl
      have HY := Lib.hid (List.getElem?_eq_getElem hkl)
      generalize l[k] = y at hc hy0 hy1 HY
      have HCW := Lib.hid (show w.cell? ⟨gg, o + k, none⟩ = some (.int .i64 y) from (hb.cell (p := ⟨gg, o + k, none⟩) (by have := HBB.out; show gg < w.heap.size; omega)).symm.trans hc)
      obtain ⟨A0, c0, rfl⟩ := ho.form
      clear hkl hb hy0 hy1 ho
      by_cases c1 : k = P
      · subst c1
        have hxy : decide (x < y) = true := decide_eq_true (HPA.out y HY.out)
        have hd : decide (k < k) = false := decide_eq_false (Nat.lt_irrefl k)
        have hf2 : outAt l k (k + 1) x = (F ++ [x]) ++ [y] := by rw [outAt_here HY.out, ← HFF.out]
        have HF2 := Lib.hid hf2
        rw [hd]
        clear hf2 hd
        go_wp2_with (first
          | (at_builtin; refine wpList_pushI rfl (.tmp 24) (.tmp 26) rfl (news := [.int .i64 x]) rfl HO.out rfl rfl (fun u hu => by rw [List.mem_singleton] at hu; subst hu; rfl) (by have h1 := HLEN.out; have h2 := HSZ.out; have h3 := HLEN.out; omega) HB.out.size ?_; intro v3 w3 ho3 hg3 _; obtain ⟨F1, HQ1, HL1, HO1, HB1⟩ := own_push2 HB.out HB.out.size HO.out ho3 hg3; obtain ⟨A1, c1, rfl⟩ := HO1.out.form; have hc3 := (HB1.out.cell (p := ⟨gg, o + k, none⟩) (by have := HBB.out; show gg < w.heap.size; omega)).trans HCW.out; clear ho3 hg3)
          | (at_builtin; refine wpList_pushI rfl (.tmp 28) (.tmp 33) rfl (news := [.int .i64 y]) rfl HO1.out rfl rfl (fun u hu => by rw [List.mem_singleton] at hu; subst hu; rfl) (by have h1 := HLEN.out; have h2 := HSZ.out; have h3 := HL1.out; omega) HB1.out.size ?_; intro v3 w3 ho3 hg3 _; obtain ⟨F2, HQ2, HL2, HO2, HB2⟩ := own_push2 HB1.out HB1.out.size HO1.out ho3 hg3; obtain ⟨A2, c2, rfl⟩ := HO2.out.form; clear ho3 hg3))
        go_roundw
        case rel => exact ⟨k + 1, F2, by omega, by go_num, by rw [decide_eq_true (Nat.lt_succ_self k)], HB2.out, HO2.out, by rw [HF2.out, HQ2.out, HQ1.out]⟩
        case measure => simp [intOf]; omega
      · by_cases c2 : k < P
        · have hxy : decide (x < y) = false := decide_eq_false (by have := HPB.out k y c2 HY.out; omega)
          have hd : decide (P < k) = false := decide_eq_false (by omega)
          have hf2 : outAt l P (k + 1) x = F ++ [y] := by rw [outAt_below c2 HY.out, ← HFF.out]
          have HF2 := Lib.hid hf2
          have HC1 := Lib.hid c1
          have HC2 := Lib.hid c2
          rw [hd]
          clear hf2 hd c1 c2
          go_wp2_with (at_builtin; refine wpList_pushI rfl (.tmp 28) (.tmp 33) rfl (news := [.int .i64 y]) rfl HO.out rfl rfl (fun u hu => by rw [List.mem_singleton] at hu; subst hu; rfl) (by have h1 := HLEN.out; have h2 := HSZ.out; have h3 := HLEN.out; omega) HB.out.size ?_; intro v3 w3 ho3 hg3 _; obtain ⟨F2, HQ2, HL2, HO2, HB2⟩ := own_push2 HB.out HB.out.size HO.out ho3 hg3; obtain ⟨A2, c2, rfl⟩ := HO2.out.form; clear ho3 hg3)
          go_roundw
          case rel => exact ⟨k + 1, F2, by omega, by go_num, by rw [decide_eq_false (by have := HC1.out; have := HC2.out; omega)], HB2.out, HO2.out, by rw [HF2.out, HQ2.out]⟩
          case measure => simp [intOf]; omega
        · have hd : decide (P < k) = true := decide_eq_true (by omega)
          have hf2 : outAt l P (k + 1) x = F ++ [y] := by rw [outAt_above (by omega) HY.out, ← HFF.out]
          have HF2 := Lib.hid hf2
          have HC1 := Lib.hid c1
          have HC2 := Lib.hid c2
          rw [hd]
          clear hf2 hd c1 c2
          cases hxy : decide (x < y)
          all_goals
            go_wp2_with (at_builtin; refine wpList_pushI rfl (.tmp 28) (.tmp 33) rfl (news := [.int .i64 y]) rfl HO.out rfl rfl (fun u hu => by rw [List.mem_singleton] at hu; subst hu; rfl) (by have h1 := HLEN.out; have h2 := HSZ.out; have h3 := HLEN.out; omega) HB.out.size ?_; intro v3 w3 ho3 hg3 _; obtain ⟨F2, HQ2, HL2, HO2, HB2⟩ := own_push2 HB.out HB.out.size HO.out ho3 hg3; obtain ⟨A2, c2, rfl⟩ := HO2.out.form; clear ho3 hg3)
            go_roundw
            case rel => exact ⟨k + 1, F2, by omega, by go_num, by rw [decide_eq_true (by have := HC1.out; have := HC2.out; omega)], HB2.out, HO2.out, by rw [HF2.out, HQ2.out]⟩
            case measure => simp [intOf]; omega
    · obtain rfl : k = n := by omega
      have hfin : (P < k ∧ insL' l P x = F) ∨ (P = k ∧ insL' l P x = F ++ [x]) := by
        have h1 := HN.out
        have h2 := HPL.out
        have h3 := HFF.out
        unfold outAt at h3
        by_cases c1 : P < k
        · rw [if_pos c1, List.take_of_length_le (by omega)] at h3
          exact .inl ⟨c1, h3.symm⟩
        · rw [if_neg c1, List.take_of_length_le (by omega)] at h3
          have e : P = l.length := by omega
          exact .inr ⟨by omega, by rw [e, insL_end, h3]⟩
      obtain ⟨A0, c0, rfl⟩ := ho.form
      clear hb ho
      rcases hfin with ⟨h1, h2⟩ | ⟨h1, h2⟩
      · have hd : decide (P < k) = true := decide_eq_true h1
        have HI := Lib.hid (HW.out.trans h2)
        have HG := Lib.hid (OwnZ.ls (w := w) HO.out (Nat.le_refl _) (by rw [HFF.out]; exact outAt_mem HI64.out HX.out))
        rw [hd]
        clear h1 h2 hd
        obtain ⟨A1, c1, e1, h1, h2⟩ := HG.out
        injection e1 with e1 e2 e3
        subst e1 e3
        have H1 := Lib.hid h1
        have H2 := Lib.hid h2
        clear h1 h2 HG
        go_wp2
        go_ret
        rw [HI.out]
        exact ⟨_, _, rfl, H1.out, H2.out, HB.out⟩
      · have hd : decide (P < k) = false := decide_eq_false (by omega)
        have HI := Lib.hid (HW.out.trans h2)
        rw [hd]
        clear h1 h2 hd
        go_wp2_with (at_builtin; refine wpList_pushI rfl (.tmp 37) (.tmp 39) rfl (news := [.int .i64 x]) rfl HO.out rfl rfl (fun u hu => by rw [List.mem_singleton] at hu; subst hu; rfl) (by have h1 := HLEN.out; have h2 := HSZ.out; have h3 := HLEN.out; omega) HB.out.size ?_; intro v3 w3 ho3 hg3 _; obtain ⟨F2, HQ2, HL2, HO2, HB2⟩ := own_push2 HB.out HB.out.size HO.out ho3 hg3; obtain ⟨A2, c2, rfl⟩ := HO2.out.form; clear ho3 hg3)
        have HG := Lib.hid (OwnZ.ls (w := w) HO2.out (Nat.le_refl _) (fun z hz => by
          rw [HQ2.out, List.mem_append, List.mem_singleton] at hz
          rcases hz with hz | rfl
          · rw [HFF.out] at hz; exact outAt_mem HI64.out HX.out z hz
          · exact HX.out))
        obtain ⟨A1, c1, e1, h1, h2⟩ := HG.out
        injection e1 with e1 e2 e3
        subst e1 e3
        have H1 := Lib.hid h1
        have H2 := Lib.hid h2
        clear h1 h2 HG
        go_ret
        rw [HI.out, ← HQ2.out]
        exact ⟨_, _, rfl, H1.out, H2.out, HB2.out⟩
end Go.Proofs.Ythocmnfmialcaaa.Cn
