/- Appending ints; package scupperref03's OwnConf. Written by genown.py. -/
import Derived.Test.YtdbaajgkcjpnoaaGreatGO
import Derived.Test.YtdbaajgkcjpnoaaGreatGP
import Derived.Deep.RegionHeld3
namespace Go.Proofs.YtdbaajgkcjpnoaaGreat.Kd
open Go.RowKit By CoP Co Mo

/-- What is given shares nothing with what was there. -/
def Owned (k : Kd) (d : Data) (w : World) (e : Ending) (w' : World) : Prop := ∃ vs, e = .returned (.agg vs) ∧ k.rep w' (New w w') vs.toList d ∧ Below w.heap.size w w'
def zvs (l : List Int) : List Value := l.map (Value.int .i64)
theorem zvs_get {l : List Int} {j : Nat} {u : Value} (h : (zvs l)[j]? = some u) : ∃ x, l[j]? = some x ∧ u = .int .i64 x := by
  unfold zvs at h
  rw [List.getElem?_map, Option.map_eq_some_iff] at h
  obtain ⟨x, h1, h2⟩ := h
  exact ⟨x, h1, h2.symm⟩
theorem run_appI0 {w : World} {base g : Nat} (hown : w.ownsRow base 3 1 (.slice (some ⟨g, 0, none⟩) 0 0) 0 []) {B : Nat} {A : Option Addr} {m c : Nat} {l : List Int} (hm : m = l.length) (hr : LiesI w B A l) (hsz : l.length ≤ 9437184) (hbase : base ≤ w.heap.size) (ty : TypeId) :
    ∃ v' w', (Builtin.append_ #[85, 85] ty #[.slice (some ⟨g, 0, none⟩) 0 0, .slice A m c]).run Tryz.prog w = .ok v' w' ∧ w'.ownsRow base 3 1 v' l.length (zvs l) ∧ Below base w w' ∧ w.grownBy w' (some g) ∧ (v'.ownBlock = some g ∨ v'.ownBlock = some w.heap.size) := by
  obtain ⟨i0, hi, hz0, hz1, hz2⟩ := info_parts infoI
  subst hm
  have hlt := hown.lt g rfl
  have far : ∀ {w1 : World}, w.grownBy w1 (some g) → Below base w w1 := fun hg => (Below.refl base w).grown hg hbase (fun k hk => by rw [← Option.some.inj hk]; exact hlt.1)
  rcases A with _ | ad
  · have h0 : l = [] := by
      rcases Nat.eq_zero_or_pos l.length with h0 | h0
      · exact List.length_eq_zero_iff.1 h0
      · obtain ⟨g, o, e, _⟩ := hr h0
        cases e
    subst h0
    exact ⟨_, w, run_append_none w base _ ty _ i0 1 Tryz.underlying85 hi _ _ _ hown c, hown, Below.refl _ _, ⟨rfl, rfl, rfl, Nat.le_refl _, fun _ _ _ => rfl⟩, .inl rfl⟩
  · have hcells : ∀ j u, (zvs l)[j]? = some u → w.cell? (ad.add j) = some u := by
      intro j u hu
      obtain ⟨x, hx, rfl⟩ := zvs_get hu
      have hj : j < l.length := (List.getElem?_eq_some_iff.1 hx).1
      obtain ⟨g, o, e, _, hc⟩ := hr (by omega)
      obtain rfl : ad = ⟨g, o, none⟩ := Option.some.inj e
      rw [plainAdd]
      exact (hc j x hx).1
    have hone : ∀ u ∈ zvs l, u.oneCell' = true := by
      intro u hu
      unfold zvs at hu
      rw [List.mem_map] at hu
      obtain ⟨x, _, rfl⟩ := hu
      rfl
    obtain ⟨v', w', hrun, h2, h3, _, h5⟩ := run_append_own_at (P := Tryz.prog) w base 85 ty 3 i0 (.int .i64 0) 1 8 Tryz.underlying85 hi hz0 hz1 hz2 rfl (by decide) _ 0 [] hown ad l.length c (zvs l) (by unfold zvs; rw [List.length_map]; omega) hcells hone
      (by unfold maxLen; omega) (by omega) hbase
    rw [Nat.zero_add, List.nil_append] at h2
    exact ⟨v', w', hrun, h2, far h3, h3, h5⟩
theorem step_appI0 {ops : Array Oper} {o : Oper} {a : Act} {w : World} {K : Act → World → Prop} {Q : Exit → Act → World → Prop} {E : Prop}
    (hgd : o.guard = none) (s x : Operand) (hop : o.op = .call { callee := .builtin .append, args := #[s, x], argTypes := #[85, 85] }) {base g : Nat}
    (hs : a.eval s = .slice (some ⟨g, 0, none⟩) 0 0) (hown : w.ownsRow base 3 1 (.slice (some ⟨g, 0, none⟩) 0 0) 0 []) {B : Nat} {A : Option Addr} {m c : Nat} {l : List Int} (hx : a.eval x = .slice A m c) (hm : m = l.length) (hr : LiesI w B A l)
    (hsz : l.length ≤ 9437184) (hbase : base ≤ w.heap.size)
    (hK : ∀ v' w', w'.ownsRow base 3 1 v' l.length (zvs l) → Below base w w' → w.grownBy w' (some g) → (v'.ownBlock = some g ∨ v'.ownBlock = some w.heap.size) → K (a.put o.dst v') w') :
    if Region.wanted o (yielded ops a.tmps) = true then Oper.wp Tryz.prog o a w K Q else E := by
  have hw : Region.wanted o (yielded ops a.tmps) = true := by simp [Region.wanted, hgd]
  rw [if_pos hw]
  obtain ⟨v', w', hrun, h2, h3, h4, h5⟩ := run_appI0 hown hm hr hsz hbase o.type
  exact wp_app_run s x _ hop hs hx hrun (hK _ _ h2 h3 h4 h5)
theorem ids_rep {w w' w0 : World} {A A0 : Option Addr} {c base B : Nat} {l : List Int} (ho : w'.ownsRow base 3 1 (.slice A l.length c) l.length (zvs l)) (hbase : w.heap.size ≤ base) (hl : LiesI w0 B A0 l) (hm : l.length ≤ 140737488355328) : idsK.rep w' (New w w') [.slice A l.length c] (.agg (l.map litZ)) := by
  obtain ⟨A', c', e, hc, _, hn⟩ := owns_form ho
  simp only [Value.slice.injEq, true_and] at e
  obtain ⟨rfl, rfl⟩ := e
  refine ⟨A, c, l.map litZ, by rw [List.length_map], rfl, by rw [List.length_map]; exact hc, by rw [List.length_map]; exact hm, fun hp => ?_⟩
  rw [List.length_map] at hp
  obtain ⟨g, rfl, _, h1, h2, h3⟩ := hn hp
  obtain ⟨_, _, _, _, h4⟩ := hl hp
  refine ⟨g, 0, rfl, ⟨Nat.le_trans hbase h1, h2⟩, fun j d hd => ?_⟩
  rw [List.getElem?_map, Option.map_eq_some_iff] at hd
  obtain ⟨x, hx, rfl⟩ := hd
  have hb := (h4 j x hx).2
  refine ⟨[.int .i64 x], ⟨x, hb.1, hb.2, rfl, rfl⟩, fun i v hv => ?_⟩
  have hi : i = 0 := by
    have := (List.getElem?_eq_some_iff.1 hv).1
    simpa using this
  subst hi
  have hv2 : Value.int .i64 x = v := by simpa using hv
  subst hv2
  have h5 : (zvs l)[j]? = some (.int .i64 x) := by unfold zvs; rw [List.getElem?_map, hx]; rfl
  have := h3 j _ h5
  have e1 : (intK 1 16).size = 1 := rfl
  rw [e1]
  rwa [show 0 + j * 1 + 0 = j by omega]
theorem conf_rep {w' : World} {S : Nat → Prop} {A A2 : Option Addr} {n c m c2 : Nat} {vs ls : List Int} (h1 : idsK.rep w' S [.slice A n c] (.agg (vs.map litZ))) (h2 : idsK.rep w' S [.slice A2 m c2] (.agg (ls.map litZ))) : confK.rep w' S [.slice A n c, .slice A2 m c2] (confD vs ls) :=
  ⟨_, rfl, _, _, _, _, rfl, rfl, h1, _, _, _, _, rfl, rfl, h2, rfl, rfl⟩
theorem World.grownBy.trans' {w w1 w2 : World} {r : Option Nat} (h1 : w.grownBy w1 r) (h2 : w1.grownBy w2 r) : w.grownBy w2 r := grown_trans h1 h2
theorem below_of' {w w' : World} {P : Prop} (h : Below w.heap.size w w' ∧ P) : Below w.heap.size w w' := h.1
theorem held_alloc {w w' : World} {g : Nat} {c : Obj} (X : Obj) (h : Below w.heap.size w w' ∧ w'.heap[g]? = some c) : Below w.heap.size w (w'.alloc X) ∧ (w'.alloc X).heap[g]? = some c :=
  ⟨h.1.alloc h.1.size _, (heap_alloc_old w' X (row_lt h.2)).trans h.2⟩
theorem row_lt' {w : World} {g : Nat} {c : Obj} (h : w.heap[g]? = some c) : g < w.heap.size := (Array.getElem?_eq_some_iff.1 h).1
theorem held_below {w w' w2 : World} {g B : Nat} {c : Obj} (h : Below w.heap.size w w' ∧ w'.heap[g]? = some c) (hb : Below B w' w2) (hB : w.heap.size ≤ B) (hg : g < B) : Below w.heap.size w w2 ∧ w2.heap[g]? = some c :=
  ⟨h.1.trans (hb.mono hB), (hb.block g hg).trans h.2⟩
theorem held_set2 {w w' : World} {g g2 : Nat} {c : Obj} (h : Below w.heap.size w w' ∧ w'.heap[g]? = some c) (hg : w.heap.size ≤ g2) (hne : g ≠ g2) (x y : Value) : Below w.heap.size w ((w'.setCell ⟨g2, 0, none⟩ x).setCell ⟨g2, 1, none⟩ y) ∧ ((w'.setCell ⟨g2, 0, none⟩ x).setCell ⟨g2, 1, none⟩ y).heap[g]? = some c :=
  ⟨(h.1.setCell (p := ⟨g2, 0, none⟩) hg x).setCell (p := ⟨g2, 1, none⟩) hg y, (heap_setCell_other _ ⟨g2, 1, none⟩ g _ hne).trans ((heap_setCell_other _ ⟨g2, 0, none⟩ g _ hne).trans h.2)⟩
end Go.Proofs.YtdbaajgkcjpnoaaGreat.Kd
