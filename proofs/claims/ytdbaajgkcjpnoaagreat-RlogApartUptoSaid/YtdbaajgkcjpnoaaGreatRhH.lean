/- For the law RlogApart: how many entries all calls have; a copy beside a log; a list whose data may be written. -/
import Derived.Test.YtdbaajgkcjpnoaaGreatRhG
namespace Go.Proofs.YtdbaajgkcjpnoaaGreat.Rg
open Go.RowKit Go.ChangeShapes Go.WideShapes By CoP Co Mo Kd

theorem sum_put (l : List A11) : (l.map fun a => a.l.length).sum ≤ ((l.map a11D).flatMap actK.put).length := by
  induction l with
  | nil => simp
  | cons a r ih =>
    rw [List.map_cons, List.map_cons, List.flatMap_cons, List.length_append, List.sum_cons]
    have := (act_put a).1
    omega
section
variable {H : Type} {enc : TypeId × Value → H} {W : World}
theorem acts_sum {A : Option Addr} {c : Nat} {ds : List Data} {n : Nat} (h : (listK actK 100).rep W (Old W) [.slice A n c] (.agg ds)) (hp : ((listK actK 100).put (.agg ds)).length ≤ 9437184) : ∃ l, ActsAt W.heap.size W A n c l ∧ (l.map fun a => a.l.length).sum ≤ 9437184 := by
  obtain ⟨A', c', ds', e1, e2, h1, h2, h3⟩ := h
  obtain rfl := Data.agg.inj e2
  simp only [List.cons.injEq, Value.slice.injEq, and_true] at e1
  obtain ⟨rfl, rfl, rfl⟩ := e1
  have hput : (ds.flatMap actK.put).length ≤ 9437184 := by
    have e : (listK actK 100).put (.agg ds) = putNum ds.length ++ ds.flatMap actK.put := rfl
    rw [e, List.length_append] at hp
    omega
  have hall : ∀ d ∈ ds, ∃ a, d = a11D a := fun d hd => by
    obtain ⟨j, hj⟩ := List.mem_iff_getElem?.1 hd
    obtain ⟨g, o, _, _, h6⟩ := h3 (by have := (List.getElem?_eq_some_iff.1 hj).1; omega)
    obtain ⟨vs, h7, _⟩ := h6 j d hj
    obtain ⟨a, A2, c2, _, e, _⟩ := act_shape h7
    exact ⟨a, e⟩
  obtain ⟨l, rfl⟩ : ∃ l : List A11, ds = l.map a11D := by
    clear h1 h2 h3 hput hp e2
    induction ds with
    | nil => exact ⟨[], rfl⟩
    | cons d r ih =>
      obtain ⟨a, rfl⟩ := hall d (by simp)
      obtain ⟨l, rfl⟩ := ih (fun x hx => hall x (by simp [hx]))
      exact ⟨a :: l, rfl⟩
  have hlen : (l.map a11D).length = l.length := List.length_map _
  have hcount : l.length ≤ ((l.map a11D).flatMap actK.put).length := by
    clear h1 h2 h3 hput hp e2 hall hlen
    induction l with
    | nil => simp
    | cons a r ih =>
      rw [List.map_cons, List.flatMap_cons, List.length_append, List.length_cons]
      have := (act_put a).2
      omega
  have hsum := sum_put l
  refine ⟨l, ⟨hlen, h1, by omega, fun hp0 => ?_⟩, by omega⟩
  obtain ⟨g, o, e, hg, h6⟩ := h3 hp0
  refine ⟨g, o, e, hg, fun j a ha => ?_⟩
  obtain ⟨vs, h7, h8⟩ := h6 j (a11D a) (by rw [List.getElem?_map, ha]; rfl)
  obtain ⟨a', A2, c2, rfl, e2, hv⟩ := act_shape h7
  have ea : a' = a := by
    obtain ⟨k1, n1, i1, t1, l1⟩ := a
    obtain ⟨k2, n2, i2, t2, l2⟩ := a'
    simp only [a11D, Data.agg.injEq, List.cons.injEq, Data.lit.injEq, Lit.int.injEq, true_and, and_true] at e2
    obtain ⟨e1, e2, e3, e4, e5⟩ := e2
    have hl : l1 = l2 := by
      have hinj : ∀ (x y : List En), x.map eD = y.map eD → x = y := by
        intro x
        induction x with
        | nil => intro y hy; cases y with
          | nil => rfl
          | cons b r => simp at hy
        | cons b r ih =>
          intro y hy
          cases y with
          | nil => simp at hy
          | cons b2 r2 =>
            rw [List.map_cons, List.map_cons] at hy
            obtain ⟨h1, h2⟩ := List.cons.inj hy
            rw [ih _ h2]
            obtain ⟨p1, p2, p3, p4, p5⟩ := b
            obtain ⟨q1, q2, q3, q4, q5⟩ := b2
            simp only [eD, entryD, Data.agg.injEq, List.cons.injEq, Data.lit.injEq, Lit.int.injEq, Lit.string.injEq, true_and, and_true] at h1
            obtain ⟨t1, t2, t3, t4, t5⟩ := h1
            simp only [List.cons.injEq, En.mk.injEq, and_true]
            exact ⟨by omega, by omega, t3, t4, t5⟩
      exact hinj _ _ e5
    simp only [A11.mk.injEq]
    exact ⟨e1.symm, e2.symm, by omega, by omega, hl.symm⟩
  subst ea
  have hfew : a'.l.length ≤ 9437184 := by
    have h9 := (act_put a').1
    have h10 := mem_put (k := actK) (ds := l.map a11D) (d := a11D a') (List.mem_map.2 ⟨a', List.mem_of_getElem? ha, rfl⟩)
    omega
  refine ⟨A2, c2, ⟨hv.ix, hv.tm, hfew, hv.rep⟩, ?_, ?_, ?_, ?_, ?_⟩
  · exact h8 0 _ rfl
  · exact h8 1 _ rfl
  · exact h8 2 _ rfl
  · exact h8 3 _ rfl
  · exact h8 4 _ rfl
set_option maxRecDepth 100000 in
theorem comes_sum {base : Nat} {v : Value} {d : DataW H} {p : List MemPlace} (hv : Value.okWide Tryz.prog W .any base tActs v)
    (h : DataW.Trod enc Tryz.prog W 0 (fun _ => true) true tActs v d p) (hlt : ∀ x ∈ p, x.block < W.heap.size) (hb : Rows.uptoBulk d ≤ 1048576) : ∃ A n c l, v = .slice A n c ∧ ActsAt W.heap.size W A n c l ∧ (l.map fun a => a.l.length).sum ≤ 9437184 := by
  obtain ⟨a0, len, cap, rfl⟩ := okWide_slice Tryz.underlying23 hv
  obtain ⟨fuel, hf⟩ := h
  obtain ⟨e, h1, h2⟩ := opens_acts (W := W) fuel _ _ hf hlt hb
  have h1' : (listK actK 100).rep W (Old W) [.slice a0 len cap] e := h1
  obtain ⟨A, c, ds, e1, rfl, _⟩ := id h1'
  obtain ⟨l, hl, hs⟩ := acts_sum h1' (by dsimp only at h2; omega)
  exact ⟨_, _, _, l, rfl, hl, hs⟩
end
theorem growL_sum : ∀ (l : List A11) (s : Lg) (k : Nat), (growL s l k).es.length ≤ s.es.length + (l.map fun a => a.l.length).sum
  | [], s, k => by
    unfold growL
    simp
  | a :: r, s, 0 => by
    rw [growL_zero]
    omega
  | a :: r, s, k + 1 => by
    have h1 := growL_sum r (actL s a) k
    have h2 := actL_len s a
    have e : growL s (a :: r) (k + 1) = growL (actL s a) r k := rfl
    rw [e, List.map_cons, List.sum_cons]
    omega
/-- An act on one of two pairs. -/
theorem pair_act {B : Nat} {w : World} {p q x y : Nat} {s s2 u u2 : Lg} (h : Pairs B w p q x y s s2 u u2) (a : A11) (A : Option Addr) (c : Nat) (ha : A11At B w a A c) (hn1 : s.es.length + a.l.length ≤ 1073741823) (hn2 : s2.es.length + a.l.length ≤ 1073741823) :
    Calls Tryz.prog 12 #[ptr p, ptr q, .agg #[.int .i64 a.kd, .int .i64 a.n, .int .u64 (a.ix : Int), .int .u64 (a.tm : Int), .slice A a.l.length c]] w (fun e w' => ∃ bb, e = .returned (.bool bb) ∧ Pairs B w' p q x y (actL s a) (actL s2 a) u u2 ∧ Below B w w') := by
  obtain ⟨F, G, hF, hG, hd⟩ := h
  refine (act_any hF a A c ha hn1 hn2).mono ?_
  rintro e w' ⟨bb, rfl, -, hst⟩
  exact ⟨bb, rfl, Pairs.step hF hG hd hst⟩
/-- A log's copy, beside a reference's that begins. -/
theorem pair_begin {B : Nat} {w w' : World} {p q g : Nat} {s : Lg} {v : Value} {F S' : Nat → Prop} (h : TwoAt B w p q s s F) (h1 : LogIs w' g s v S') (h2 : ∀ b, S' b → w.heap.size ≤ b) (hb : Below w.heap.size w w') :
    Pairs B (w'.alloc (.cells #[.int .u64 3, .int .u64 1, .slice none 0 0] tRef)) g w'.heap.size p q s ⟨3, 1, []⟩ s s ∧ Below B w (w'.alloc (.cells #[.int .u64 3, .int .u64 1, .slice none 0 0] tRef)) := by
  have hz := hb.size
  have hlow := h.low
  have hba : Below w.heap.size w (w'.alloc (.cells #[.int .u64 3, .int .u64 1, .slice none 0 0] tRef)) := hb.alloc hz _
  refine ⟨⟨fun b => S' b ∨ b = w'.heap.size, F, ⟨v, S', .slice none 0 0, fun b => b = w'.heap.size, h1.below ((Below.refl _ _).alloc (Nat.le_refl _) _),
    ⟨heap_alloc_new _ _, ⟨[], World.ownsRow_nil _ _ _ _, fun i e he => by simp at he⟩, rfl, (fun b hh => by cases hh), (fun b hh => by subst hh; rw [World.size_alloc]; omega), (fun b hh => ⟨by rw [World.size_alloc]; omega, fun h2 => by omega⟩), ⟨trivial, by decide, by decide, fun e he => by simp at he⟩⟩,
    fun b hh => .inl hh, fun b hh => .inr hh, fun b e1 e2 => by have := h1.lt b e1; omega, fun b hh => ?_⟩, h.below hba, fun b e1 e2 => ?_⟩, hba.mono hlow⟩
  · rw [World.size_alloc]
    rcases hh with hh | hh
    · have := h2 b hh; have := h1.lt b hh; omega
    · omega
  · have := (h.lt b e2).2
    rcases e1 with e1 | e1
    · have := h2 b e1; omega
    · omega
theorem from_whole (s : Lg) {most : Int} (h : (s.es.length : Int) ≤ most) : fromR s (s.ix + 1) most = (s.es, 0) := by
  unfold fromR
  rw [if_neg (by omega), if_neg (by omega), if_neg (by omega), Nat.sub_self, List.drop_zero, List.take_of_length_le (by omega)]
theorem isSome_any {w : World} {p r : Addr} (v : Value) (h : (w.cell? r).isSome = true) : ((w.setCell p v).cell? r).isSome = true := by
  by_cases e : p = r
  · subst e
    obtain ⟨u, hu⟩ := Option.isSome_iff_exists.1 h
    simp [World.cell?_setCell_same _ _ _ hu]
  · rw [World.cell?_setCell_other _ _ _ _ e]
    exact h
theorem free_set {w : World} {b g o : Nat} (h : Free w b) (v : Value) : Free (w.setCell ⟨g, o, none⟩ v) b := by
  obtain ⟨cs, t, h⟩ := h
  by_cases e : b = g
  · subst e
    exact ⟨_, t, heap_setCell_same w b o cs t v h⟩
  · exact ⟨cs, t, (heap_setCell_other w ⟨g, o, none⟩ b v e).trans h⟩
/-- A list in memory whose data may be written. -/
def Writes (lo : Nat) (w : World) (z : Nat) (l : List En) : Prop := ∀ i e, l[i]? = some e → ∃ Ad cd, w.cell? ⟨z, i * 5 + 4, none⟩ = some (.slice Ad e.da.length cd) ∧ e.da.length ≤ 140737488355328 ∧
  (0 < e.da.length → ∃ g o, Ad = some ⟨g, o, none⟩ ∧ lo ≤ g ∧ g ≠ z ∧ Free w g ∧ ∀ j, j < e.da.length → (w.cell? ⟨g, o + j, none⟩).isSome = true)
theorem Writes.set {lo z g o : Nat} {w : World} {l : List En} (h : Writes lo w z l) (hg : g ≠ z) (v : Value) : Writes lo (w.setCell ⟨g, o, none⟩ v) z l := fun i e he => by
  obtain ⟨Ad, cd, h1, hm, h2⟩ := h i e he
  refine ⟨Ad, cd, (World.cell?_setCell_other _ _ _ _ (by first | (simp; done) | (simp; omega))).trans h1, hm, fun hp => ?_⟩
  obtain ⟨g2, o2, h3, h4, h5, h6, h7⟩ := h2 hp
  exact ⟨g2, o2, h3, h4, h5, free_set h6 v, fun j hj => isSome_any v (h7 j hj)⟩
theorem writes_of {w w' : World} {v : Value} {rows : List Value} {l : List En} (ho : w'.ownsRow w.heap.size tApi 5 v l.length rows) (hi : ItemsF entryK w w' v rows (l.map eD)) :
    ∃ A c, v = .slice A l.length c ∧ (0 < l.length → ∃ z, A = some ⟨z, 0, none⟩ ∧ Writes w.heap.size w' z l) := by
  obtain ⟨A, c, rfl, _, _, hn⟩ := owns_form ho
  refine ⟨A, c, rfl, fun hp => ?_⟩
  obtain ⟨z, rfl, hob, _, _, hcell⟩ := hn hp
  refine ⟨z, rfl, fun i e he => ?_⟩
  obtain ⟨vs, h1, h2⟩ := hi i (eD e) (by rw [List.getElem?_map, he]; rfl)
  obtain ⟨Ad, cd, rfl, h3⟩ := enV_of h1
  refine ⟨Ad, cd, hcell _ _ (h2 4 _ rfl), h3.few, fun hd => ?_⟩
  obtain ⟨g, o, e1, h4, h5⟩ := h3.lies hd
  refine ⟨g, o, e1, h4.1.1.1, fun e => h4.2 (by rw [hob, e]), h4.1.2, fun j hj => ?_⟩
  rw [h5 j _ (List.getElem?_eq_getElem hj)]
  rfl
theorem append_nil (w : World) (i t : Int) (A : Option Addr) (n c : Nat) : Calls Tryz.prog 17 #[.pointer none, .int .u64 i, .int .u64 t, .slice A n c] w (RetB (appV (0, 0, 1)) w) := by
  have q := logTest
  go_enter Tryz.func17, Tryz.ntmps17
  go_wp2
  go_ret3
  exact ⟨rfl, (Below.refl _ _).alloc (Nat.le_refl _) _⟩
end Go.Proofs.YtdbaajgkcjpnoaaGreat.Rg
