/- Lists of lists of bytes of the call's own, and what a list of lists that comes in holds. Nothing here speaks of one function. -/
import Derived.Test.YtnjifhbooikdbaaGreatDoorGA
import Derived.Test.YtnjifhbooikdbaaGreatDoorGD
import Derived.Maps.AppendAt
import Derived.Deep.Matrix
namespace Go.Proofs.YtnjifhbooikdbaaGreatDoor.Sl
open Go.ChangeShapes Go.WideShapes Go.ChangeAt Go.RowKit By
set_option maxRecDepth 100000

/-- Appending bytes: in the same block, or in a new one. -/
theorem run_appB {base : Nat} {w : World} {v : Value} {l : List UInt8} (hown : Own base w v l) {B : Nat} {A : Option Addr} {m c : Nat} {l2 : List UInt8} (hm : m = l2.length) (hr : Lies w B A l2)
    (hsz : l.length + l2.length ≤ 140737488355328) (hbase : base ≤ w.heap.size) (ty : TypeId) :
    ∃ v' w', (Builtin.append_ #[32, 32] ty #[v, .slice A m c]).run Tryz.prog w = .ok v' w' ∧ Own base w' v' (l ++ l2) ∧ w.grownBy w' v.ownBlock ∧ (v'.ownBlock = v.ownBlock ∨ v'.ownBlock = some w.heap.size) := by
  obtain ⟨i0, hi, hz0, hz1, hz2⟩ := info_parts u8Info
  subst hm
  rcases A with _ | ad
  · have h0 : l2 = [] := by
      rcases Nat.eq_zero_or_pos l2.length with h0 | h0
      · exact List.length_eq_zero_iff.1 h0
      · obtain ⟨g, o, e, _⟩ := hr h0
        cases e
    subst h0
    exact ⟨v, w, run_append_none w base _ ty _ i0 1 Tryz.underlying32 hi v _ _ hown c, by simpa using hown, ⟨rfl, rfl, rfl, Nat.le_refl _, fun _ _ _ => rfl⟩, .inl rfl⟩
  · have hcells : ∀ j u, (bvs l2)[j]? = some u → w.cell? (ad.add j) = some u := by
      intro j u hu
      obtain ⟨x, hx, rfl⟩ := bvs_get hu
      have hj : j < l2.length := (List.getElem?_eq_some_iff.1 hx).1
      obtain ⟨g, o, e, _, hc⟩ := hr (by omega)
      injection e with e
      subst e
      rw [plainAdd]
      exact hc j x hx
    obtain ⟨v', w', hrun, h2, h3, _, h5⟩ := run_append_own_at (P := Tryz.prog) w base 32 ty 5 i0 (.int .u8 0) 1 1 Tryz.underlying32 hi hz0 hz1 hz2 rfl (by decide) v l.length (bvs l) hown ad l2.length c (bvs l2) (by rw [bvs_length]; omega) hcells bvs_one
      (by unfold maxLen; omega) (by omega) hbase
    exact ⟨v', w', hrun, by unfold Own; rw [List.length_append, bvs_append]; exact h2, h3, h5⟩
theorem wpList_appB {ops : Array Oper} {rest : List Oper} {o : Oper} {a : Act} {Q : Exit → Act → World → Prop} {w : World} (hgd : o.guard = none) (s x : Operand)
    (ho : o.op = .call { callee := .builtin .append, args := #[s, x], argTypes := #[32, 32] })
    {base : Nat} {v : Value} {l : List UInt8} (hs : a.eval s = v) (hown : Own base w v l) {B : Nat} {A : Option Addr} {m c : Nat} {l2 : List UInt8} (hx : a.eval x = .slice A m c) (hm : m = l2.length) (hr : Lies w B A l2)
    (hsz : l.length + l2.length ≤ 140737488355328) (hbase : base ≤ w.heap.size)
    (h : ∀ v' w', Own base w' v' (l ++ l2) → w.grownBy w' v.ownBlock → (v'.ownBlock = v.ownBlock ∨ v'.ownBlock = some w.heap.size) → wpList Tryz.prog ops Q rest (a.put o.dst v') w') : wpList Tryz.prog ops Q (o :: rest) a w :=
  wpList_plain hgd fun K hK => by
    obtain ⟨v', w', hrun, h2, h3, h4⟩ := run_appB hown hm hr hsz hbase o.type
    exact wp_app_run s x _ ho hs hx hrun (hK _ _ (h v' w' h2 h3 h4))

/-- Slices of the call's own, in a row of the call's own. -/
def OwnL (base : Nat) (w : World) (v : Value) (vs : List Value) : Prop := w.ownsRow base 32 1 v vs.length vs
theorem slInfo : (Tryz.prog.info? 32).map (fun i => (i.zero, i.size, i.bytes)) = some (some (.slice none 0 0), 1, 24) := by kernel_rfl
/-- One more. -/
theorem wpList_push {ops : Array Oper} {rest : List Oper} {o : Oper} {a : Act} {Q : Exit → Act → World → Prop} {w0 : World} (hgd : o.guard = none) (s x : Operand)
    (ho : o.op = .call { callee := .builtin .append, args := #[s, x], argTypes := #[22, 22] })
    {base : Nat} {v : Value} {vs : List Value} (hs : a.eval s = v) {A : Option Addr} {m c : Nat} (hown : OwnL base w0 v vs) (hx : a.eval x = .slice (some ⟨w0.heap.size, 0, none⟩) 1 1)
    (hsz : vs.length + 1 ≤ 1048577) (hbase : base ≤ w0.heap.size)
    (h : ∀ v' w', OwnL base w' v' (vs ++ [.slice A m c]) → (w0.alloc (.cells #[.slice A m c] 32)).grownBy w' v.ownBlock → wpList Tryz.prog ops Q rest (a.put o.dst v') w') :
    wpList Tryz.prog ops Q (o :: rest) a (w0.alloc (.cells #[.slice A m c] 32)) :=
  wpList_plain hgd fun K hK => by
    obtain ⟨i0, hi, hz0, hz1, hz2⟩ := info_parts slInfo
    have hnews := World.news_of_block (heap_alloc_new w0 (.cells #[.slice A m c] 32))
    obtain ⟨v', w', hrun, h2, h3, _⟩ := run_append_own (P := Tryz.prog) (w0.alloc (.cells #[.slice A m c] 32)) base 22 o.type 32 i0 (.slice none 0 0) 1 24 Tryz.underlying22 hi hz0 hz1 hz2 rfl (by decide) v vs.length vs
      (World.ownsRow.alloc hown _) ⟨w0.heap.size, 0, none⟩ 1 1 [.slice A m c] rfl hnews (by intro u hu; simp at hu; subst hu; rfl) (by unfold maxLen; omega) (by omega) (by rw [World.size_alloc]; omega)
    exact wp_app_run s x _ ho hs hx hrun (hK _ _ (h v' w' (by unfold OwnL; rw [List.length_append]; exact h2) h3))
/-- Blocks of unlike elements are unlike. -/
theorem ne_types {w : World} {b b' s s' n n' : Nat} {e e' : TypeId} {v v' : Value} {xs xs' : List Value} (h : w.ownsRow b e s v n xs) (h' : w.ownsRow b' e' s' v' n' xs') (hne : e ≠ e') : v.ownBlock = none ∨ v.ownBlock ≠ v'.ownBlock := by
  rcases h.2 with ⟨rfl, _⟩ | ⟨g, cap, cur, rfl, _, hg, _⟩
  · exact .inl rfl
  · refine .inr (fun e0 => ?_)
    rcases h'.2 with ⟨rfl, _⟩ | ⟨g', cap', cur', rfl, _, hg', _⟩
    · cases e0
    · have : g = g' := by simpa [Value.ownBlock] using e0
      subst this
      rw [hg] at hg'
      injection hg' with hg'
      injection hg' with _ ht
      exact hne ht

/-- A list of lists that comes in; M bounds its places, and what its lists hold together. -/
theorem rows {H : Type} {enc : TypeId × Value → H} {v : Value} {d : DataW H} {p : List MemPlace} {W : World} {base : Nat} (hv : Value.okWide Tryz.prog W .any base 22 v)
    (h : DataW.Trod enc Tryz.prog W 0 (fun _ => true) true 22 v d p) (bulk : DataW H → Nat) (hbk : ∀ elems spare, elems.length ≤ bulk (.slice elems spare)) (M : Nat)
    (hM : ∀ elems spare, d = .slice elems spare → elems.length + spare.length ≤ M ∧ (elems.map bulk).sum ≤ M) :
    ∃ (A : Option Addr) (n c : Nat) (ls : List (List UInt8)), v = .slice A n c ∧ n = ls.length ∧ n ≤ c ∧ c ≤ M ∧ ls.flatten.length ≤ M ∧ LiesL W W.heap.size A ls := by
  obtain ⟨a0, len, cap, rfl⟩ := okWide_slice Tryz.underlying22 hv
  obtain ⟨fuel, hf⟩ := h
  rcases Go.Deep.open_int_rows Tryz.underlying22 Tryz.underlying32 Tryz.underlying5 (by kernel_rfl) Opn.cellsU8 hf with ⟨hcs, _⟩ | ⟨a, len', cap', A, L, C, Z, hcs, _, hl, _, hx, hcell⟩
  · simp [Value.cells] at hcs
    obtain ⟨rfl, rfl, rfl⟩ := hcs
    exact ⟨none, 0, 0, [], rfl, rfl, Nat.le_refl _, Nat.zero_le _, Nat.zero_le _, LiesL.empty _ _ _⟩
  · simp [Value.cells] at hcs
    obtain ⟨rfl, rfl, rfl⟩ := hcs
    simp only [Prod.mk.injEq] at hx
    obtain ⟨rfl, _⟩ := hx
    obtain ⟨h1, h2⟩ := hM _ _ rfl
    simp only [List.length_map, List.length_range] at h1
    have hzl : ∀ r, r < cap → ((Z r).take (L r)).length = L r := fun r hr => by
      obtain ⟨_, e2, _, e4, _⟩ := hcell r hr
      rw [List.length_take]; omega
    refine ⟨some a, len, cap, (List.range len).map fun r => ((Z r).take (L r)).map fun z => UInt8.ofNat z.toNat, rfl, by simp, hl, by omega, ?_, fun hn => ?_⟩
    · rw [List.length_flatten, List.map_map]
      refine Nat.le_trans ?_ h2
      rw [List.map_map]
      have hle : ∀ rs : List Nat, (∀ r ∈ rs, r < len) → (rs.map (List.length ∘ fun r => ((Z r).take (L r)).map fun z => UInt8.ofNat z.toNat)).sum ≤ (rs.map (bulk ∘ fun r => Go.Deep.intRow .u8 (A r) (L r) (Z r))).sum := by
        intro rs hrs
        induction rs with
        | nil => simp
        | cons r rs ih =>
          have h3 := ih (fun r' hr' => hrs r' (List.mem_cons_of_mem _ hr'))
          have hr := hrs r List.mem_cons_self
          have h4 : (((Z r).take (L r)).map fun z => UInt8.ofNat z.toNat).length ≤ bulk (Go.Deep.intRow .u8 (A r) (L r) (Z r)) := by
            rw [List.length_map, hzl r (by omega)]
            obtain ⟨_, e2, _, e4, _, e6, _⟩ := hcell r (by omega)
            unfold Go.Deep.intRow
            rcases hA : A r with _ | a'
            · have := e6 hA
              omega
            · refine Nat.le_trans ?_ (hbk _ _)
              simp only [lits, List.length_map, List.length_take]
              omega
          simp only [List.map_cons, List.sum_cons, Function.comp] at h3 h4 ⊢
          omega
      exact hle _ (fun r hr => List.mem_range.1 hr)
    · simp only [List.length_map, List.length_range] at hn
      obtain ⟨b, off, spot⟩ := a
      have hspot : spot = none := by simpa [Addr.add] using World.cell?_spot (hcell 0 (by omega)).1
      subst hspot
      refine ⟨b, off, rfl, ?_, fun j l hj => ?_⟩
      · have h0 := World.block_lt_of_cell? W _ (hcell 0 (by omega)).1
        rwa [plainAdd] at h0
      · simp only [List.getElem?_map, Option.map_eq_some_iff] at hj
        obtain ⟨r, hr1, rfl⟩ := hj
        have hjl : j < len := by
          have := (List.getElem?_eq_some_iff.1 hr1).1
          rwa [List.length_range] at this
        have hrj : r = j := by
          rw [List.getElem?_range hjl] at hr1
          injection hr1 with hr1
          exact hr1.symm
        subst hrj
        obtain ⟨e1, e2, e3, e4, e5, e6, e7⟩ := hcell r (by omega)
        rw [plainAdd] at e1
        refine ⟨A r, C r, by rw [List.length_map, hzl r (by omega)]; exact e1, fun hn2 => ?_⟩
        rw [List.length_map, hzl r (by omega)] at hn2
        rcases hA : A r with _ | a'
        · have := e6 hA
          omega
        · obtain ⟨_, hc⟩ := e7 a' hA
          obtain ⟨b2, off2, spot2⟩ := a'
          have hspot2 : spot2 = none := by simpa [Addr.add] using World.cell?_spot (hc 0 (by omega))
          subst hspot2
          refine ⟨b2, off2, rfl, ?_, fun i x hi => ?_⟩
          · have h0 := World.block_lt_of_cell? W _ (hc 0 (by omega))
            rwa [plainAdd] at h0
          · simp only [List.getElem?_map, Option.map_eq_some_iff] at hi
            obtain ⟨z, hz1, rfl⟩ := hi
            have hil : i < L r := by
              have := (List.getElem?_eq_some_iff.1 hz1).1
              rw [hzl r (by omega)] at this
              exact this
            rw [List.getElem?_take, if_pos hil] at hz1
            have hci := hc i (by omega)
            rw [plainAdd] at hci
            rw [hci]
            have hw := Opn.wf_u8 (e5 z (List.mem_of_getElem? hz1))
            have e : (Z r).getD i 0 = z := by simp [List.getD, hz1]
            rw [e, bv]
            simp
            omega
end Go.Proofs.YtnjifhbooikdbaaGreatDoor.Sl
