/- Appending ints; package scupperref03's OwnConf. Written by genown.py. -/
import Derived.Test.YthocmnfmialcaaaGO
import Derived.Test.YthocmnfmialcaaaGP
import Derived.Deep.RegionHeld3
namespace Go.Proofs.Ythocmnfmialcaaa.Kd
open Go.RowKit By CoP Co Mo

/-- What is given shares nothing with what was there. -/
def Owned (k : Kd) (d : Data) (w : World) (e : Ending) (w' : World) : Prop := ∃ vs, e = .returned (.agg vs) ∧ k.rep w' (New w w') vs.toList d ∧ Below w.heap.size w w'
def zvs (l : List Int) : List Value := l.map (Value.int .i64)
theorem zvs_get {l : List Int} {j : Nat} {u : Value} (h : (zvs l)[j]? = some u) : ∃ x, l[j]? = some x ∧ u = .int .i64 x := by
  unfold zvs at h
  rw [List.getElem?_map, Option.map_eq_some_iff] at h
  obtain ⟨x, h1, h2⟩ := h
  exact ⟨x, h1, h2.symm⟩
theorem run_appI0 {w : World} {base g : Nat} (hown : w.ownsRow base 3 1 (.slice (some ⟨g, 0, none⟩) 0 0) 0 []) {B : Nat} {A : Option Addr} {m c : Nat} {l : List Int} (hm : m = l.length) (hr : LiesI w B A l) (hsz : l.length ≤ 9437184) (hbase : base ≤ w.heap.size) (ty : TypeId) :
    ∃ v' w', (Builtin.append_ #[22, 22] ty #[.slice (some ⟨g, 0, none⟩) 0 0, .slice A m c]).run Try.prog w = .ok v' w' ∧ w'.ownsRow base 3 1 v' l.length (zvs l) ∧ Below base w w' ∧ w.grownBy w' (some g) ∧ (v'.ownBlock = some g ∨ v'.ownBlock = some w.heap.size) := by
  obtain ⟨i0, hi, hz0, hz1, hz2⟩ := info_parts infoI
  subst hm
  have hlt := hown.lt g rfl
  have far : ∀ {w1 : World}, w.grownBy w1 (some g) → Below base w w1 := fun hg => (Below.refl base w).grown hg hbase (fun k hk => by rw [← Option.some.inj hk]; exact hlt.1)
  rcases A with _ | ad
  · have h0 : l = [] := by
      rcases Nat.eq_zero_or_pos l.length with h0 | h0
      · exact List.length_eq_zero_iff.1 h0
      · obtain ⟨g, o, e, _⟩ := hr h0
        cases e
    subst h0
    exact ⟨_, w, run_append_none w base _ ty _ i0 1 Try.underlying22 hi _ _ _ hown c, hown, Below.refl _ _, ⟨rfl, rfl, rfl, Nat.le_refl _, fun _ _ _ => rfl⟩, .inl rfl⟩
  · have hcells : ∀ j u, (zvs l)[j]? = some u → w.cell? (ad.add j) = some u := by
      intro j u hu
      obtain ⟨x, hx, rfl⟩ := zvs_get hu
      have hj : j < l.length := (List.getElem?_eq_some_iff.1 hx).1
      obtain ⟨g, o, e, _, hc⟩ := hr (by omega)
      obtain rfl : ad = ⟨g, o, none⟩ := Option.some.inj e
      rw [plainAdd]
      exact (hc j x hx).1
    have hone : ∀ u ∈ zvs l, u.oneCell' = true := by
      intro u hu
      unfold zvs at hu
      rw [List.mem_map] at hu
      obtain ⟨x, _, rfl⟩ := hu
      rfl
    obtain ⟨v', w', hrun, h2, h3, _, h5⟩ := run_append_own_at (P := Try.prog) w base 22 ty 3 i0 (.int .i64 0) 1 8 Try.underlying22 hi hz0 hz1 hz2 rfl (by decide) _ 0 [] hown ad l.length c (zvs l) (by unfold zvs; rw [List.length_map]; omega) hcells hone
      (by unfold maxLen; omega) (by omega) hbase
    rw [Nat.zero_add, List.nil_append] at h2
    exact ⟨v', w', hrun, h2, far h3, h3, h5⟩
theorem step_appI0 {ops : Array Oper} {o : Oper} {a : Act} {w : World} {K : Act → World → Prop} {Q : Exit → Act → World → Prop} {E : Prop}
    (hgd : o.guard = none) (s x : Operand) (hop : o.op = .call { callee := .builtin .append, args := #[s, x], argTypes := #[22, 22] }) {base g : Nat}
    (hs : a.eval s = .slice (some ⟨g, 0, none⟩) 0 0) (hown : w.ownsRow base 3 1 (.slice (some ⟨g, 0, none⟩) 0 0) 0 []) {B : Nat} {A : Option Addr} {m c : Nat} {l : List Int} (hx : a.eval x = .slice A m c) (hm : m = l.length) (hr : LiesI w B A l)
    (hsz : l.length ≤ 9437184) (hbase : base ≤ w.heap.size)
    (hK : ∀ v' w', w'.ownsRow base 3 1 v' l.length (zvs l) → Below base w w' → w.grownBy w' (some g) → (v'.ownBlock = some g ∨ v'.ownBlock = some w.heap.size) → K (a.put o.dst v') w') :
    if Region.wanted o (yielded ops a.tmps) = true then Oper.wp Try.prog o a w K Q else E := by
  have hw : Region.wanted o (yielded ops a.tmps) = true := by simp [Region.wanted, hgd]
  rw [if_pos hw]
  obtain ⟨v', w', hrun, h2, h3, h4, h5⟩ := run_appI0 hown hm hr hsz hbase o.type
  exact wp_app_run s x _ hop hs hx hrun (hK _ _ h2 h3 h4 h5)
theorem ids_rep {w w' w0 : World} {A A0 : Option Addr} {c base B : Nat} {l : List Int} (ho : w'.ownsRow base 3 1 (.slice A l.length c) l.length (zvs l)) (hbase : w.heap.size ≤ base) (hl : LiesI w0 B A0 l) (hm : l.length ≤ 140737488355328) : idsK.rep w' (New w w') [.slice A l.length c] (.agg (l.map litZ)) := by
  obtain ⟨A', c', e, hc, _, hn⟩ := owns_form ho
  simp only [Value.slice.injEq, true_and] at e
  obtain ⟨rfl, rfl⟩ := e
  refine ⟨A, c, l.map litZ, by rw [List.length_map], rfl, by rw [List.length_map]; exact hc, by rw [List.length_map]; exact hm, fun hp => ?_⟩
  rw [List.length_map] at hp
  obtain ⟨g, rfl, _, h1, h2, h3⟩ := hn hp
  obtain ⟨_, _, _, _, h4⟩ := hl hp
  refine ⟨g, 0, rfl, ⟨Nat.le_trans hbase h1, h2⟩, fun j d hd => ?_⟩
  rw [List.getElem?_map, Option.map_eq_some_iff] at hd
  obtain ⟨x, hx, rfl⟩ := hd
  have hb := (h4 j x hx).2
  refine ⟨[.int .i64 x], ⟨x, hb.1, hb.2, rfl, rfl⟩, fun i v hv => ?_⟩
  have hi : i = 0 := by
    have := (List.getElem?_eq_some_iff.1 hv).1
    simpa using this
  subst hi
  have hv2 : Value.int .i64 x = v := by simpa using hv
  subst hv2
  have h5 : (zvs l)[j]? = some (.int .i64 x) := by unfold zvs; rw [List.getElem?_map, hx]; rfl
  have := h3 j _ h5
  have e1 : (intK 1 16).size = 1 := rfl
  rw [e1]
  rwa [show 0 + j * 1 + 0 = j by omega]
theorem conf_rep {w' : World} {S : Nat → Prop} {A A2 : Option Addr} {n c m c2 : Nat} {vs ls : List Int} (h1 : idsK.rep w' S [.slice A n c] (.agg (vs.map litZ))) (h2 : idsK.rep w' S [.slice A2 m c2] (.agg (ls.map litZ))) : confK.rep w' S [.slice A n c, .slice A2 m c2] (confD vs ls) :=
  ⟨_, rfl, _, _, _, _, rfl, rfl, h1, _, _, _, _, rfl, rfl, h2, rfl, rfl⟩
theorem World.grownBy.trans' {w w1 w2 : World} {r : Option Nat} (h1 : w.grownBy w1 r) (h2 : w1.grownBy w2 r) : w.grownBy w2 r := grown_trans h1 h2
theorem below_of' {w w' : World} {P : Prop} (h : Below w.heap.size w w' ∧ P) : Below w.heap.size w w' := h.1
theorem held_alloc {w w' : World} {g : Nat} {c : Obj} (X : Obj) (h : Below w.heap.size w w' ∧ w'.heap[g]? = some c) : Below w.heap.size w (w'.alloc X) ∧ (w'.alloc X).heap[g]? = some c :=
  ⟨h.1.alloc h.1.size _, (heap_alloc_old w' X (row_lt h.2)).trans h.2⟩
theorem row_lt' {w : World} {g : Nat} {c : Obj} (h : w.heap[g]? = some c) : g < w.heap.size := (Array.getElem?_eq_some_iff.1 h).1
theorem held_below {w w' w2 : World} {g B : Nat} {c : Obj} (h : Below w.heap.size w w' ∧ w'.heap[g]? = some c) (hb : Below B w' w2) (hB : w.heap.size ≤ B) (hg : g < B) : Below w.heap.size w w2 ∧ w2.heap[g]? = some c :=
  ⟨h.1.trans (hb.mono hB), (hb.block g hg).trans h.2⟩
theorem held_set2 {w w' : World} {g g2 : Nat} {c : Obj} (h : Below w.heap.size w w' ∧ w'.heap[g]? = some c) (hg : w.heap.size ≤ g2) (hne : g ≠ g2) (x y : Value) : Below w.heap.size w ((w'.setCell ⟨g2, 0, none⟩ x).setCell ⟨g2, 1, none⟩ y) ∧ ((w'.setCell ⟨g2, 0, none⟩ x).setCell ⟨g2, 1, none⟩ y).heap[g]? = some c :=
  ⟨(h.1.setCell (p := ⟨g2, 0, none⟩) hg x).setCell (p := ⟨g2, 1, none⟩) hg y, (heap_setCell_other _ ⟨g2, 1, none⟩ g _ hne).trans ((heap_setCell_other _ ⟨g2, 0, none⟩ g _ hne).trans h.2)⟩
set_option maxRecDepth 100000 in
set_option maxHeartbeats 4000000 in
theorem ownConf_any {xs : List Value} {d : Data} (w : World) (hrep : confK.rep w (Old w) xs d) (hs : (confK.put d).length ≤ 9437184) : Calls Try.prog 10 #[.agg xs.toArray] w (Owned confK d w) := by
  obtain ⟨A, c, l, A2, c2, l2, rfl, rfl, hc1, hm1, hl1, hc2, hm2, hl2⟩ := confK_shape hrep
  rw [conf_put] at hs
  have hle := putConf_le l l2
  have HM1 := Lib.hid (show l.length ≤ 9437184 by omega)
  have HM2 := Lib.hid (show l2.length ≤ 9437184 by omega)
  obtain ⟨W, hW⟩ : ∃ W, W = (w.alloc (.cells #[.slice A l.length c, .slice A2 l2.length c2] 24)).alloc (.cells #[.slice none 0 0, .slice none 0 0] 24) := ⟨_, rfl⟩
  have hbW : Below w.heap.size w W := by rw [hW]; exact ((Below.refl _ _).alloc (Nat.le_refl _) _).alloc (by simp) _
  have hzW : W.heap.size = w.heap.size + 1 + 1 := by rw [hW]; simp
  have hr1 : W.heap[w.heap.size]? = some (.cells #[.slice A l.length c, .slice A2 l2.length c2] 24 (0, 0)) := by rw [hW]; exact heap_alloc2_old w _ _
  have hr2 : W.heap[w.heap.size + 1]? = some (.cells #[.slice none 0 0, .slice none 0 0] 24 (0, 0)) := by rw [hW]; exact heap_alloc2_new w _ _
  have hheld : Below w.heap.size w W.drew ∧ W.drew.heap[w.heap.size]? = some (.cells #[.slice A l.length c, .slice A2 l2.length c2] 24 (0, 0)) := ⟨hbW.drew, hr1⟩
  have hx0 : ∀ w' : World, w'.heap[w.heap.size]? = some (.cells #[.slice A l.length c, .slice A2 l2.length c2] 24 (0, 0)) → w'.cell? ⟨w.heap.size, 0, none⟩ = some (.slice A l.length c) := fun w' h => by rw [cell_of_row w' _ 0 _ _ _ h]; rfl
  have hx1 : ∀ w' : World, w'.heap[w.heap.size]? = some (.cells #[.slice A l.length c, .slice A2 l2.length c2] 24 (0, 0)) → w'.cell? ⟨w.heap.size, 1, none⟩ = some (.slice A2 l2.length c2) := fun w' h => by rw [cell_of_row w' _ 1 _ _ _ h]; rfl
  have HR2 := Lib.hid hr2
  have HBW := Lib.hid hbW
  have HROW1 := Lib.hid hr1
  have HL1 := Lib.hid hl1
  have HL2 := Lib.hid hl2
  have HZW := Lib.hid hzW
  have HC1 := Lib.hid hc1
  have HC2 := Lib.hid hc2
  have HOA := Lib.hid (show (W.alloc (.cells #[] 3)).drew.ownsRow W.heap.size 3 1 (.slice (some ⟨W.heap.size, 0, none⟩) 0 0) 0 [] from World.ownsRow_made (base := W.heap.size) (e := 3) (size := 1) W #[] 0 (Nat.le_refl _) (by decide) rfl)
  have HOA2 := Lib.hid (show ((W.alloc (.cells #[] 3)).alloc (.cells #[] 3)).drew.ownsRow W.heap.size 3 1 (.slice (some ⟨W.heap.size, 0, none⟩) 0 0) 0 [] from World.ownsRow.alloc (World.ownsRow_made (base := W.heap.size) (e := 3) (size := 1) W #[] 0 (Nat.le_refl _) (by decide) rfl) _)
  have HOB := Lib.hid (show ((W.alloc (.cells #[] 3)).alloc (.cells #[] 3)).drew.ownsRow W.heap.size 3 1 (.slice (some ⟨W.heap.size + 1, 0, none⟩) 0 0) 0 [] from (World.size_alloc W (.cells #[] 3)) ▸ World.ownsRow_made (base := W.heap.size) (e := 3) (size := 1) (W.alloc (.cells #[] 3)) #[] 0 (by rw [World.size_alloc]; exact Nat.le_succ _) (by decide) rfl)
  clear hrep hs hle hbW hzW hr1 hr2 hl1 hl2 hc1 hc2 hm1 hm2
  go_enter Try.func10, Try.ntmps10
  go_wp2_with fail
  rw [← hW]
  clear hW
  have zW1 : (W.alloc (.cells #[] 3)).drew.heap.size = W.heap.size + 1 := World.size_alloc W _
  have zW2 : ((W.alloc (.cells #[] 3)).alloc (.cells #[] 3)).drew.heap.size = W.heap.size + 1 + 1 := (World.size_alloc (W.alloc (.cells #[] 3)) _).trans (congrArg (· + 1) zW1)
  go_region_held3 (fun w' => Below w.heap.size w w' ∧ w'.heap[w.heap.size]? = some (.cells #[.slice A l.length c, .slice A2 l2.length c2] 24 (0, 0)))
    (first
      | assumption
      | exact hheld
      | exact held_alloc _ (by assumption)
      | exact held_set2 (by assumption) (Nat.le_succ _) (Nat.ne_of_lt (Nat.lt_succ_self _)) _ _)
    (first
      | (have hq := M7a
         clear hq
         refine step_appI0 (base := W.heap.size) (g := W.heap.size + 1) rfl (.tmp 7) (.tmp 9) rfl ?_ M7a.out.1 (A := A2) (m := l2.length) (c := c2) (by simp [Act.eval]) rfl (HL2.out.below (below_of' (by assumption))) HM2.out (by have := HB1.out.size; omega) ?_
         simp [Act.eval]
         intro v2 w2 ho2 hb2 hg2 hk2
         have hB2 : Below W.heap.size W w2 := HB1.out.trans hb2
         have hheld2 := held_below ⟨HBW.out, HROW1.out⟩ hB2 (by have := HZW.out; omega) (by have := HZW.out; omega)
         have hrz := (hB2.block (w.heap.size + 1) (by have := HZW.out; omega)).trans HR2.out
         have cz0 : w2.cell? ⟨w.heap.size + 1, 0, none⟩ = some (.slice none 0 0) := by rw [cell_of_row w2 _ 0 _ _ _ hrz]; rfl
         have cz1 : w2.cell? ⟨w.heap.size + 1, 1, none⟩ = some (.slice none 0 0) := by rw [cell_of_row w2 _ 1 _ _ _ hrz]; rfl
         have fz0 : w2.frozen? ⟨w.heap.size + 1, 0, none⟩ = false := frozen_of_row w2 _ 0 _ _ hrz
         have fz1 : w2.frozen? ⟨w.heap.size + 1, 1, none⟩ = false := frozen_of_row w2 _ 1 _ _ hrz
         obtain ⟨Y2, y2, rfl, _, _, _⟩ := owns_form ho2
         have HO1B := Lib.hid (HO1.out.kept hg2 (.inr M7a.out.2))
         have HO2 := Lib.hid ho2
         have HB2 := Lib.hid hB2
         have HRZ := Lib.hid hrz
         clear hb2 hg2 hk2 ho2 hB2 hrz)
      | (have hq := M7b
         clear hq
         refine step_appI0 (base := W.heap.size) (g := W.heap.size) rfl (.tmp 7) (.tmp 9) rfl ?_ M7b.out.1 (A := A2) (m := l2.length) (c := c2) (by simp [Act.eval]) rfl (HL2.out.below (below_of' (by assumption))) HM2.out (by have := HB1.out.size; omega) ?_
         simp [Act.eval]
         intro v2 w2 ho2 hb2 hg2 hk2
         have hB2 : Below W.heap.size W w2 := HB1.out.trans hb2
         have hheld2 := held_below ⟨HBW.out, HROW1.out⟩ hB2 (by have := HZW.out; omega) (by have := HZW.out; omega)
         have hrz := (hB2.block (w.heap.size + 1) (by have := HZW.out; omega)).trans HR2.out
         have cz0 : w2.cell? ⟨w.heap.size + 1, 0, none⟩ = some (.slice none 0 0) := by rw [cell_of_row w2 _ 0 _ _ _ hrz]; rfl
         have cz1 : w2.cell? ⟨w.heap.size + 1, 1, none⟩ = some (.slice none 0 0) := by rw [cell_of_row w2 _ 1 _ _ _ hrz]; rfl
         have fz0 : w2.frozen? ⟨w.heap.size + 1, 0, none⟩ = false := frozen_of_row w2 _ 0 _ _ hrz
         have fz1 : w2.frozen? ⟨w.heap.size + 1, 1, none⟩ = false := frozen_of_row w2 _ 1 _ _ hrz
         obtain ⟨Y2, y2, rfl, _, _, _⟩ := owns_form ho2
         have HO1B := Lib.hid (HO1.out.kept hg2 (.inr M7b.out.2))
         have HO2 := Lib.hid ho2
         have HB2 := Lib.hid hB2
         have HRZ := Lib.hid hrz
         clear hb2 hg2 hk2 ho2 hB2 hrz)
      | (have hq := M7c
         clear hq
         refine step_appI0 (base := W.heap.size) (g := w1.heap.size) rfl (.tmp 7) (.tmp 9) rfl ?_ (World.ownsRow_made w1 #[] 0 HB1.out.size (by decide) rfl) (A := A2) (m := l2.length) (c := c2) (by simp [Act.eval]) rfl (HL2.out.below (below_of' (by assumption))) HM2.out (by rw [World.size_alloc]; have := HB1.out.size; omega) ?_
         simp [Act.eval]
         intro v2 w2 ho2 hb2 hg2 hk2
         have hB2 : Below W.heap.size W w2 := (HB1.out.alloc (by have := HB1.out.size; omega) _).trans hb2
         have hheld2 := held_below ⟨HBW.out, HROW1.out⟩ hB2 (by have := HZW.out; omega) (by have := HZW.out; omega)
         have hrz := (hB2.block (w.heap.size + 1) (by have := HZW.out; omega)).trans HR2.out
         have cz0 : w2.cell? ⟨w.heap.size + 1, 0, none⟩ = some (.slice none 0 0) := by rw [cell_of_row w2 _ 0 _ _ _ hrz]; rfl
         have cz1 : w2.cell? ⟨w.heap.size + 1, 1, none⟩ = some (.slice none 0 0) := by rw [cell_of_row w2 _ 1 _ _ _ hrz]; rfl
         have fz0 : w2.frozen? ⟨w.heap.size + 1, 0, none⟩ = false := frozen_of_row w2 _ 0 _ _ hrz
         have fz1 : w2.frozen? ⟨w.heap.size + 1, 1, none⟩ = false := frozen_of_row w2 _ 1 _ _ hrz
         obtain ⟨Y2, y2, rfl, _, _, _⟩ := owns_form ho2
         have HO1B := Lib.hid ((HO1.out.alloc _).kept hg2 (.inr (fun e => by have := (HO1.out.lt _ e).2; omega)))
         have HO2 := Lib.hid ho2
         have HB2 := Lib.hid hB2
         have HRZ := Lib.hid hrz
         clear hb2 hg2 hk2 ho2 hB2 hrz)
      | (refine step_appI0 (base := W.heap.size) (g := W.heap.size) rfl (.tmp 3) (.tmp 5) rfl ?_ HOA2.out (A := A) (m := l.length) (c := c) (by simp [Act.eval]) rfl (HL1.out.below (below_of' (by assumption))) HM1.out (by rw [zW2]; omega) ?_
         simp [Act.eval]
         intro v1 w1 ho1 hb1 hg1 hk1
         have hbz := hb1.size
         rw [zW2] at hbz
         have hB1 : Below W.heap.size W w1 := (((Below.refl W.heap.size W).alloc (Nat.le_refl _) _).alloc (by rw [World.size_alloc]; exact Nat.le_succ _) _).drew.trans hb1
         have hheld1 := held_below ⟨HBW.out, HROW1.out⟩ hB1 (by have := HZW.out; omega) (by have := HZW.out; omega)
         have M7a := Lib.hid (show (World.ownsRow w1 W.heap.size 3 1 (.slice (some ⟨W.heap.size + 1, 0, none⟩) 0 0) 0 [] ∧ v1.ownBlock ≠ some (W.heap.size + 1)) from ⟨World.ownsRow.kept HOB.out hg1 (.inr (fun e => by have h : W.heap.size + 1 = W.heap.size := Option.some.inj e; omega)), fun e => by
           rcases hk1 with e2 | e2
           · have h : W.heap.size + 1 = W.heap.size := Option.some.inj (e.symm.trans e2)
             omega
           · have h : W.heap.size + 1 = ((W.alloc (.cells #[] 3)).alloc (.cells #[] 3)).drew.heap.size := Option.some.inj (e.symm.trans e2)
             rw [zW2] at h
             omega⟩)
         obtain ⟨Y1, y1, rfl, _, _, _⟩ := owns_form ho1
         have HO1 := Lib.hid ho1
         have HB1 := Lib.hid hB1
         clear hb1 hg1 hk1 ho1 hB1)
      | (refine step_appI0 (base := W.heap.size) (g := W.heap.size + 1) rfl (.tmp 3) (.tmp 5) rfl ?_ HOB.out (A := A) (m := l.length) (c := c) (by simp [Act.eval]) rfl (HL1.out.below (below_of' (by assumption))) HM1.out (by rw [zW2]; omega) ?_
         simp [Act.eval]
         intro v1 w1 ho1 hb1 hg1 hk1
         have hbz := hb1.size
         rw [zW2] at hbz
         have hB1 : Below W.heap.size W w1 := (((Below.refl W.heap.size W).alloc (Nat.le_refl _) _).alloc (by rw [World.size_alloc]; exact Nat.le_succ _) _).drew.trans hb1
         have hheld1 := held_below ⟨HBW.out, HROW1.out⟩ hB1 (by have := HZW.out; omega) (by have := HZW.out; omega)
         have M7b := Lib.hid (show (World.ownsRow w1 W.heap.size 3 1 (.slice (some ⟨W.heap.size, 0, none⟩) 0 0) 0 [] ∧ v1.ownBlock ≠ some (W.heap.size)) from ⟨World.ownsRow.kept HOA2.out hg1 (.inr (fun e => by have h : W.heap.size = W.heap.size + 1 := Option.some.inj e; omega)), fun e => by
           rcases hk1 with e2 | e2
           · have h : W.heap.size = W.heap.size + 1 := Option.some.inj (e.symm.trans e2)
             omega
           · have h : W.heap.size = ((W.alloc (.cells #[] 3)).alloc (.cells #[] 3)).drew.heap.size := Option.some.inj (e.symm.trans e2)
             rw [zW2] at h
             omega⟩)
         obtain ⟨Y1, y1, rfl, _, _, _⟩ := owns_form ho1
         have HO1 := Lib.hid ho1
         have HB1 := Lib.hid hB1
         clear hb1 hg1 hk1 ho1 hB1)
      | (refine step_appI0 (base := W.heap.size) (g := W.heap.size) rfl (.tmp 3) (.tmp 5) rfl ?_ HOA.out (A := A) (m := l.length) (c := c) (by simp [Act.eval]) rfl (HL1.out.below (below_of' (by assumption))) HM1.out (by rw [zW1]; omega) ?_
         simp [Act.eval]
         intro v1 w1 ho1 hb1 hg1 hk1
         have hbz := hb1.size
         rw [zW1] at hbz
         have hB1 : Below W.heap.size W w1 := ((Below.refl W.heap.size W).alloc (Nat.le_refl _) _).drew.trans hb1
         have hheld1 := held_below ⟨HBW.out, HROW1.out⟩ hB1 (by have := HZW.out; omega) (by have := HZW.out; omega)
         have M7c := Lib.hid True.intro
         obtain ⟨Y1, y1, rfl, _, _, _⟩ := owns_form ho1
         have HO1 := Lib.hid ho1
         have HB1 := Lib.hid hB1
         clear hb1 hg1 hk1 ho1 hB1))
  all_goals
    go_wp2
    have r0 := heap_setCell_same w2 (w.heap.size + 1) 0 _ _ (.slice Y1 l.length y1) HRZ.out
    have r1 := heap_setCell_same _ (w.heap.size + 1) 1 _ _ (.slice Y2 l2.length y2) r0
    have g1 := World.grownBy.trans' (grown_set (w := w2) (w.heap.size + 1) 0 (.slice Y1 l.length y1)) (grown_set (w := w2.setCell ⟨w.heap.size + 1, 0, none⟩ (.slice Y1 l.length y1)) (w.heap.size + 1) 1 (.slice Y2 l2.length y2))
    have o1 := HO1B.out.kept g1 (.inr fun e => by have := (HO1B.out.lt _ e).1; have := HZW.out; omega)
    have o2 := HO2.out.kept g1 (.inr fun e => by have := (HO2.out.lt _ e).1; have := HZW.out; omega)
    have hbz := ((HBW.out.trans (HB2.out.mono HBW.out.size)).setCell (p := ⟨w.heap.size + 1, 0, none⟩) (Nat.le_succ _) (.slice Y1 l.length y1)).setCell (p := ⟨w.heap.size + 1, 1, none⟩) (Nat.le_succ _) (.slice Y2 l2.length y2)
    exact bodyPost_ret (v := .agg #[.slice Y1 l.length y1, .slice Y2 l2.length y2]) (results_cell_row rfl _ _ (w.heap.size + 1) 24 #[.slice Y1 l.length y1, .slice Y2 l2.length y2] (0, 0) _ rfl r1 Try.underlying24 rfl (by kernel_rfl)) rfl
      ⟨_, rfl, conf_rep (ids_rep o1 HBW.out.size HL1.out (by have := HM1.out; omega)) (ids_rep o2 HBW.out.size HL2.out (by have := HM2.out; omega)), hbz⟩
end Go.Proofs.Ythocmnfmialcaaa.Kd
