/- Package disk's tear, as a contract of a call. -/
import Derived.Test.YtnjifhbooikdbaaGreatDoorEJ
import Derived.Test.YtnjifhbooikdbaaGreatDoorDkD
namespace Go.Proofs.YtnjifhbooikdbaaGreatDoor.Dk
open Go.RowKit Go.Maps By Mp

def cutData (t : Int) (x : W1) : W1 := if 0 ≤ t ∧ t < (x.data.length : Int) then { x with data := x.data.take t.toNat } else x
theorem torn_nil (t : Int) : torn t [] = [] := rfl
theorem torn_snoc (t : Int) (l : List W1) (x : W1) : torn t (l ++ [x]) = if x.kind = 1 then l ++ [cutData t x] else torn t l ++ [x] := by
  unfold torn
  rw [List.reverse_append]
  show (tornR t (x :: l.reverse)).reverse = _
  simp only [tornR]
  by_cases h : x.kind = 1
  · rw [if_pos h, if_pos h, List.reverse_cons, List.reverse_reverse]; rfl
  · rw [if_neg h, if_neg h, List.reverse_cons]
theorem torn_length (t : Int) (l : List W1) : (torn t l).length = l.length := by
  have h : ∀ l : List W1, (tornR t l).length = l.length := by
    intro l
    induction l with
    | nil => rfl
    | cons x r ih =>
      simp only [tornR]
      split
      · simp
      · simp [ih]
  simp [torn, h]
theorem wRow_set {x' : W1} {a : AC} {v : Value} : ∀ {l : List W1} {ac : List AC} {k : Nat} {x : W1}, l[k]? = some x → ac[k]? = some a → ac.length = l.length → x'.kind = x.kind → x'.name = x.name → x'.off = x.off → v = .slice a.1 x'.data.length a.2 → (wRow l ac).set (k * 4 + 3) v = wRow (l.set k x') ac
  | [], _, _, _, h, _, _, _, _, _, _ => by simp at h
  | _ :: _, [], _, _, _, h, _, _, _, _, _ => by simp at h
  | y :: l, b :: ac, 0, x, hx, ha, _, h1, h2, h3, h4 => by
    simp only [List.getElem?_cons_zero, Option.some.injEq] at hx ha
    subst hx ha h4
    show (wCells y b ++ wRow l ac).set (0 * 4 + 3) _ = wCells x' b ++ wRow l ac
    simp [wCells, h1, h2, h3]
  | y :: l, b :: ac, k + 1, x, hx, ha, h, h1, h2, h3, h4 => by
    have ih := wRow_set (l := l) (ac := ac) (k := k) (x := x) (x' := x') (a := a) (v := v) (by simpa using hx) (by simpa using ha) (by simpa using h) h1 h2 h3 h4
    show (wCells y b ++ wRow l ac).set ((k + 1) * 4 + 3) v = wCells y b ++ wRow (l.set k x') ac
    rw [← ih, show (k + 1) * 4 + 3 = (wCells y b).length + (k * 4 + 3) by simp [wCells]; omega]
    rw [List.set_append_right _ _ (by omega), Nat.add_sub_cancel_left]
theorem lies_takeS {w : World} {S : Nat → Prop} {A : Option Addr} {l : Bs} (h : LiesS w S A l) (k : Nat) : LiesS w S A (l.take k) := fun hn => by
  obtain ⟨g, o, e, hg, hc⟩ := h (by rw [List.length_take] at hn; omega)
  refine ⟨g, o, e, hg, fun j x hx => hc j x ?_⟩
  rw [List.getElem?_take] at hx
  split at hx
  · exact hx
  · cases hx
/-- A change's data is cut in its row. -/
theorem WsAt.cut {w : World} {base : Nat} {S : Nat → Prop} {ub n cap : Nat} {l : List W1} (h : WsAt w base S (.slice (some ⟨ub, 0, none⟩) n cap) l) (hn : n = l.length) {k : Nat} (hk : k < l.length) {t : Nat} (ht : t ≤ l[k].data.length) {A : Option Addr} {c : Nat}
    (hA : w.cell? ⟨ub, k * 4 + 3, none⟩ = some (.slice A l[k].data.length c)) (hS : ∀ b, S b → b ≠ ub) : WsAt (w.setCell ⟨ub, k * 4 + 3, none⟩ (.slice A t c)) base S (.slice (some ⟨ub, 0, none⟩) n cap) (l.set k { l[k] with data := l[k].data.take t }) := by
  obtain ⟨ac, h1, h2, h3⟩ := h
  subst hn
  have hx : l[k]? = some l[k] := List.getElem?_eq_getElem hk
  have ha : ac[k]? = some ac[k] := List.getElem?_eq_getElem (by omega)
  obtain ⟨h4, h5⟩ := h3 k _ _ hx ha
  have hcell : w.cell? ⟨ub, k * 4 + 3, none⟩ = (wCells l[k] ac[k])[3]? := by
    rcases h2.2 with ⟨e, _⟩ | ⟨g, cap', cur, e, hb, hg, hc, hm, hs, htk⟩
    · cases e
    · injection e with e _ _
      injection e with e
      injection e with e
      subst e
      rw [cell_of_row w ub _ _ _ _ hg, ← wRow_get (by omega) hx ha h1, ← htk, List.getElem?_take_of_lt (by omega)]
      simp
  rw [hA] at hcell
  simp only [wCells, List.getElem?_cons_succ, List.getElem?_cons_zero, Option.some.injEq, Value.slice.injEq, true_and] at hcell
  obtain ⟨rfl, rfl⟩ := hcell
  have hst := h2.stored (k * 4 + 3) (.slice ac[k].1 t ac[k].2)
  have hro : (wRow l ac).set (k * 4 + 3) (.slice ac[k].1 t ac[k].2) = wRow (l.set k { l[k] with data := l[k].data.take t }) ac :=
    wRow_set hx ha h1 rfl rfl rfl (by simp only [List.length_take]; rw [Nat.min_eq_left ht])
  refine ⟨ac, by rw [List.length_set, h1], ?_, fun i y a hy haa => ?_⟩
  · rw [List.length_set, ← hro]
    exact hst.1
  · have hkeep : ∀ b, S b → (w.setCell ⟨ub, k * 4 + 3, none⟩ (.slice ac[k].1 t ac[k].2)).heap[b]? = w.heap[b]? := fun b hb => heap_setCell_other w ⟨ub, _, none⟩ b _ (hS b hb)
    by_cases hi : i = k
    · subst hi
      rw [List.getElem?_set_self hk] at hy
      injection hy with hy
      rw [ha] at haa
      injection haa with haa
      subst hy haa
      exact ⟨by simp only [List.length_take]; omega, (lies_takeS h5 t).keep hkeep (fun _ h => h)⟩
    · rw [List.getElem?_set_ne (by omega)] at hy
      exact ⟨(h3 i y a hy haa).1, (h3 i y a hy haa).2.keep hkeep (fun _ h => h)⟩
theorem ws_free {w : World} {base : Nat} {S : Nat → Prop} {ub n cap : Nat} {l : List W1} (h : WsAt w base S (.slice (some ⟨ub, 0, none⟩) n cap) l) (o : Nat) : w.frozen? ⟨ub, o, none⟩ = false := by
  obtain ⟨ac, _, h2, _⟩ := h
  rcases h2.2 with ⟨e, _⟩ | ⟨g, cap', cur, e, hb, hg, _⟩
  · cases e
  · injection e with e _ _
    injection e with e
    injection e with e
    subst e
    exact frozen_of_row w ub o _ _ hg
end Go.Proofs.YtnjifhbooikdbaaGreatDoor.Dk
