/- The reference's list of cut ways, one more, one less; acts. -/
import Derived.Test.YtenaecpmmbigdaaPoN
import Derived.Deep.DeepCutAuto
namespace Go.Proofs.Ytenaecpmmbigdaa.Po
open Go.RowKit Go.Maps By Mp

theorem cut_same {cuts : List (Int × Int)} {q : Int × Int} : ∀ {k : Nat}, cuts.Nodup → cuts[k]? = some q → cuts.filter (fun x => decide (x ≠ q)) = cuts.take k ++ cuts.drop (k + 1) := by
  induction cuts with
  | nil => intro k _ h; cases h
  | cons x l ih =>
    intro k hn h
    obtain ⟨h1, h2⟩ := List.nodup_cons.1 hn
    cases k with
    | zero =>
      simp only [List.getElem?_cons_zero, Option.some.injEq] at h
      subst h
      rw [List.filter_cons_of_neg (by simp)]
      simp only [List.take_zero, List.nil_append, List.drop_succ_cons, List.drop_zero]
      rw [List.filter_eq_self]
      intro y hy
      exact decide_eq_true (fun e => h1 (e ▸ hy))
    | succ k =>
      have h3 : l[k]? = some q := by simpa using h
      have hx : x ≠ q := fun e => h1 (e ▸ List.mem_of_getElem? h3)
      rw [List.filter_cons_of_pos (by simpa using hx), ih h2 h3]
      simp
theorem heal_not {cuts : List (Int × Int)} {q : Int × Int} (h : q ∉ cuts) : cuts.filter (fun x => decide (x ≠ q)) = cuts := by
  rw [List.filter_eq_self]
  intro y hy
  exact decide_eq_true (fun e => h (e ▸ hy))
/-- A way more among those that are cut. -/
theorem ref_cutadd {w2 wb w6 : World} {r : Nat} {q : P8} {lv cv : Value} {dv : List Value} {T : Nat → Prop} {a b : Int} {A6 : Option Addr} {c6 n : Nat} (h : RAt w2 r q lv cv dv T) (hbb : Below w2.heap.size w2 wb) (ha : End8 a) (hb : End8 b) (hnot : (a, b) ∉ q.cuts)
    (ho : w6.ownsRow 0 tPair 2 (.slice A6 n c6) n (pRow q.cuts ++ [.int .i64 a, .int .i64 b])) (hn : n = q.cuts.length + 1) (hg : wb.grownBy w6 cv.ownBlock) (hv : ∀ b, (Value.slice A6 n c6).ownBlock = some b → cv.ownBlock = some b ∨ wb.heap.size ≤ b) (hr6 : w6.heap[r]? = some (.cells #[.int .i64 q.room, lv, cv] tRP (0, 0))) :
    RefIs (w6.setCell ⟨r, 2, none⟩ (.slice A6 n c6)) r (cutP q a b) (fun b => T b ∨ (w2.heap.size ≤ b ∧ b < w6.heap.size)) ∧ Kept T w2 (w6.setCell ⟨r, 2, none⟩ (.slice A6 n c6)) := by
  subst hn
  have hzb := hbb.size
  have hz6 := hg.size
  have hs : (w6.setCell ⟨r, 2, none⟩ (.slice A6 (q.cuts.length + 1) c6)).heap.size = w6.heap.size := by simp [World.setCell]
  have hgo : ∀ b, b ≠ r → (w6.setCell ⟨r, 2, none⟩ (.slice A6 (q.cuts.length + 1) c6)).heap[b]? = w6.heap[b]? := fun b hb => heap_setCell_other w6 ⟨r, 2, none⟩ b _ hb
  have hgl := row_lt h.row
  have hcg : cv.ownBlock ≠ some r := row_apart h.cuts h.row tRP_neP
  have hne : ∀ b, (Value.slice A6 (q.cuts.length + 1) c6).ownBlock = some b → b ≠ r := fun b hb e => by
    subst e
    rcases hv b hb with h | h
    · exact hcg h
    · omega
  have hall : ∀ b, b < w2.heap.size → cv.ownBlock ≠ some b → b ≠ r → (w6.setCell ⟨r, 2, none⟩ (.slice A6 (q.cuts.length + 1) c6)).heap[b]? = w2.heap[b]? := fun b hb hne hbg => ((hgo b hbg).trans (hg.block b (by omega) (fun e => hne e.symm))).trans (hbb.block b hb)
  have hcu : (cutP q a b).cuts = q.cuts ++ [(a, b)] := if_neg hnot
  refine ⟨⟨lv, .slice A6 (q.cuts.length + 1) c6, dv, ⟨heap_setCell_same w6 r 2 _ _ _ hr6, ?_, h.len, fun k y v h1 h2 => ?_, ?_, .inl h.sg, fun b hb => .inl (h.sl b hb), fun b hb => ?_, fun b hb => ?_, cut_ok h.ok ha hb⟩⟩, ⟨hg.os.trans hbb.os, hg.tape.trans hbb.tape, hg.output.trans hbb.output, by rw [hs]; omega, fun b hb hn => hall b hb (fun e => hn (h.sc b e)) (fun e => hn (e ▸ h.sg))⟩⟩
  · exact ownsRow_keep h.list (fun b hb => hall b (ownsRow_lt h.list hb).2 (fun e => rows_apart h.list h.cuts tRL_neP hb e) (fun e => row_apart h.list h.row tRP_neL (by rw [← e]; exact hb)))
  · obtain ⟨d1, d2⟩ := h.data k y v h1 h2
    exact ⟨ownsRow_keep d1 (fun b hb => hall b (ownsRow_lt d1 hb).2 (fun e => rows_apart h.cuts d1 tPair_ne8 e hb) (fun e => row_apart d1 h.row tRP_ne8 (by rw [← e]; exact hb))), fun b hb => .inl (d2 b hb)⟩
  · rw [hcu, List.length_append, pRow_app]
    have := ownsRow_keep ho (fun b hb => hgo b (hne b hb))
    simpa [pRow] using this
  · rcases hv b hb with h' | h'
    · exact .inl (h.sc b h')
    · exact .inr ⟨by omega, (ownsRow_lt ho hb).2⟩
  · rw [hs]
    rcases hb with hb | hb
    · have := h.lt b hb; omega
    · exact hb.2
/-- A way less. -/
theorem ref_cutdel {w1 w2 w4 : World} {r : Nat} {q : P8} {lv cv v4 : Value} {dv : List Value} {T : Nat → Prop} {k n4 : Nat} {a b : Int} (h : RAt w1 r q lv cv dv T) (hb2 : Below w1.heap.size w1 w2) (hb4 : Below w2.heap.size w2 w4) (hk : q.cuts[k]? = some (a, b))
    (ho : w4.ownsRow w2.heap.size tPair 2 v4 n4 ((pRow q.cuts).take (k * 2) ++ (pRow q.cuts).drop ((k + 1) * 2))) (hn4 : n4 = k + (q.cuts.length - (k + 1))) :
    RefIs (w4.setCell ⟨r, 2, none⟩ v4) r (healP q a b) (fun b => T b ∨ (w1.heap.size ≤ b ∧ b < w4.heap.size)) ∧ Kept T w1 (w4.setCell ⟨r, 2, none⟩ v4) := by
  have hkl := (List.getElem?_eq_some_iff.1 hk).1
  have hb : Below w1.heap.size w1 w4 := By.ext hb2 hb4
  have h4 := h.below hb
  have hz2 := hb2.size
  have hz4 := hb.size
  have hrl := h.lt r h.sg
  have hs : (w4.setCell ⟨r, 2, none⟩ v4).heap.size = w4.heap.size := by simp [World.setCell]
  have hgo : ∀ b, b ≠ r → (w4.setCell ⟨r, 2, none⟩ v4).heap[b]? = w4.heap[b]? := fun b hb => heap_setCell_other w4 ⟨r, 2, none⟩ b _ hb
  have hcu : (healP q a b).cuts = q.cuts.take k ++ q.cuts.drop (k + 1) := cut_same h.ok.nodup hk
  rw [← pRow_take _ _ (by omega), ← pRow_drop _ _ (by omega), ← pRow_app] at ho
  refine ⟨⟨lv, v4, dv, ⟨heap_setCell_same w4 r 2 _ _ _ h4.row, ?_, h.len, fun j y v h1 h2 => ?_, ?_, .inl h.sg, fun b hb => .inl (h.sl b hb), fun b hb => ?_, fun b hb => ?_, heal_ok h.ok a b⟩⟩, ⟨hb.os, hb.tape, hb.output, by rw [hs]; exact hz4, fun b hb2 hn => (hgo b (fun e => hn (e ▸ h.sg))).trans (hb.block b hb2)⟩⟩
  · exact ownsRow_keep h4.list (fun b hb => hgo b (fun e => row_apart h4.list h4.row tRP_neL (by rw [← e]; exact hb)))
  · obtain ⟨d1, d2⟩ := h4.data j y v h1 h2
    exact ⟨ownsRow_keep d1 (fun b hb => hgo b (fun e => row_apart d1 h4.row tRP_ne8 (by rw [← e]; exact hb))), fun b hb => .inl (d2 b hb)⟩
  · rw [hcu]
    have e : (q.cuts.take k ++ q.cuts.drop (k + 1)).length = n4 := by simp; omega
    rw [e]
    refine ownsRow_base (ownsRow_keep ho (fun b hb => hgo b (fun e => ?_))) (Nat.zero_le _)
    have := (ownsRow_lt ho hb).1
    omega
  · have := ownsRow_lt ho hb
    exact .inr ⟨by omega, this.2⟩
  · rw [hs]
    rcases hb with hb | hb
    · have := h.lt b hb; omega
    · exact hb.2
/-- An act. -/
structure A8 where
  kind : Int
  a : Int
  b : Int
  d : Bs
abbrev tAct : TypeId := 35
abbrev actV (x : A8) (A : Option Addr) (c : Nat) : Value := .agg #[.int .i64 x.kind, .int .i64 x.a, .int .i64 x.b, .slice A x.d.length c]
/-- What an act does to a post. -/
def actP (p : P8) (x : A8) : P8 :=
  if x.kind = 1 then (sendR p x.a x.b x.d).1 else if x.kind = 2 then (takeR p x.a).1 else if x.kind = 3 then (twinR p x.a).1 else if x.kind = 4 then (cutR p x.a x.b).1 else if x.kind = 5 then (healR p x.a x.b).1 else p
theorem acells {w : World} {g : Nat} {t : TypeId} {a b c d : Value} (hr : w.heap[g]? = some (.cells #[a, b, c, d] t (0, 0))) : w.cell? ⟨g, 0, none⟩ = some a ∧ w.cell? ⟨g, 1, none⟩ = some b ∧ w.cell? ⟨g, 2, none⟩ = some c ∧ w.cell? ⟨g, 3, none⟩ = some d :=
  ⟨(cell_of_row w _ 0 _ _ _ hr).trans rfl, (cell_of_row w _ 1 _ _ _ hr).trans rfl, (cell_of_row w _ 2 _ _ _ hr).trans rfl, (cell_of_row w _ 3 _ _ _ hr).trans rfl⟩
end Go.Proofs.Ytenaecpmmbigdaa.Po
