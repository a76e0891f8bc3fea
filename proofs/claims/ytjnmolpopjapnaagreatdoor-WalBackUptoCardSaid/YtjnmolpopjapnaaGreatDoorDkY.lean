/- Package disk's tear, as a contract of a call. -/
import Derived.Test.YtjnmolpopjapnaaGreatDoorEJ
import Derived.Test.YtjnmolpopjapnaaGreatDoorDkD
namespace Go.Proofs.YtjnmolpopjapnaaGreatDoor.Dk
open Go.RowKit Go.Maps By Mp

def cutData (t : Int) (x : W1) : W1 := if 0 ≤ t ∧ t < (x.data.length : Int) then { x with data := x.data.take t.toNat } else x
theorem torn_nil (t : Int) : torn t [] = [] := rfl
theorem torn_snoc (t : Int) (l : List W1) (x : W1) : torn t (l ++ [x]) = if x.kind = 1 then l ++ [cutData t x] else torn t l ++ [x] := by
  unfold torn
  rw [List.reverse_append]
  show (tornR t (x :: l.reverse)).reverse = _
  simp only [tornR]
  by_cases h : x.kind = 1
  · rw [if_pos h, if_pos h, List.reverse_cons, List.reverse_reverse]; rfl
  · rw [if_neg h, if_neg h, List.reverse_cons]
theorem torn_length (t : Int) (l : List W1) : (torn t l).length = l.length := by
  have h : ∀ l : List W1, (tornR t l).length = l.length := by
    intro l
    induction l with
    | nil => rfl
    | cons x r ih =>
      simp only [tornR]
      split
      · simp
      · simp [ih]
  simp [torn, h]
theorem wRow_set {x' : W1} {a : AC} {v : Value} : ∀ {l : List W1} {ac : List AC} {k : Nat} {x : W1}, l[k]? = some x → ac[k]? = some a → ac.length = l.length → x'.kind = x.kind → x'.name = x.name → x'.off = x.off → v = .slice a.1 x'.data.length a.2 → (wRow l ac).set (k * 4 + 3) v = wRow (l.set k x') ac
  | [], _, _, _, h, _, _, _, _, _, _ => by simp at h
  | _ :: _, [], _, _, _, h, _, _, _, _, _ => by simp at h
  | y :: l, b :: ac, 0, x, hx, ha, _, h1, h2, h3, h4 => by
    simp only [List.getElem?_cons_zero, Option.some.injEq] at hx ha
    subst hx ha h4
    show (wCells y b ++ wRow l ac).set (0 * 4 + 3) _ = wCells x' b ++ wRow l ac
    simp [wCells, h1, h2, h3]
  | y :: l, b :: ac, k + 1, x, hx, ha, h, h1, h2, h3, h4 => by
    have ih := wRow_set (l := l) (ac := ac) (k := k) (x := x) (x' := x') (a := a) (v := v) (by simpa using hx) (by simpa using ha) (by simpa using h) h1 h2 h3 h4
    show (wCells y b ++ wRow l ac).set ((k + 1) * 4 + 3) v = wCells y b ++ wRow (l.set k x') ac
    rw [← ih, show (k + 1) * 4 + 3 = (wCells y b).length + (k * 4 + 3) by simp [wCells]; omega]
    rw [List.set_append_right _ _ (by omega), Nat.add_sub_cancel_left]
theorem lies_takeS {w : World} {S : Nat → Prop} {A : Option Addr} {l : Bs} (h : LiesS w S A l) (k : Nat) : LiesS w S A (l.take k) := fun hn => by
  obtain ⟨g, o, e, hg, hc⟩ := h (by rw [List.length_take] at hn; omega)
  refine ⟨g, o, e, hg, fun j x hx => hc j x ?_⟩
  rw [List.getElem?_take] at hx
  split at hx
  · exact hx
  · cases hx
/-- A change's data is cut in its row. -/
theorem WsAt.cut {w : World} {base : Nat} {S : Nat → Prop} {ub n cap : Nat} {l : List W1} (h : WsAt w base S (.slice (some ⟨ub, 0, none⟩) n cap) l) (hn : n = l.length) {k : Nat} (hk : k < l.length) {t : Nat} (ht : t ≤ l[k].data.length) {A : Option Addr} {c : Nat}
    (hA : w.cell? ⟨ub, k * 4 + 3, none⟩ = some (.slice A l[k].data.length c)) (hS : ∀ b, S b → b ≠ ub) : WsAt (w.setCell ⟨ub, k * 4 + 3, none⟩ (.slice A t c)) base S (.slice (some ⟨ub, 0, none⟩) n cap) (l.set k { l[k] with data := l[k].data.take t }) := by
  obtain ⟨ac, h1, h2, h3⟩ := h
  subst hn
  have hx : l[k]? = some l[k] := List.getElem?_eq_getElem hk
  have ha : ac[k]? = some ac[k] := List.getElem?_eq_getElem (by omega)
  obtain ⟨h4, h5⟩ := h3 k _ _ hx ha
  have hcell : w.cell? ⟨ub, k * 4 + 3, none⟩ = (wCells l[k] ac[k])[3]? := by
    rcases h2.2 with ⟨e, _⟩ | ⟨g, cap', cur, e, hb, hg, hc, hm, hs, htk⟩
    · cases e
    · injection e with e _ _
      injection e with e
      injection e with e
      subst e
      rw [cell_of_row w ub _ _ _ _ hg, ← wRow_get (by omega) hx ha h1, ← htk, List.getElem?_take_of_lt (by omega)]
      simp
  rw [hA] at hcell
  simp only [wCells, List.getElem?_cons_succ, List.getElem?_cons_zero, Option.some.injEq, Value.slice.injEq, true_and] at hcell
  obtain ⟨rfl, rfl⟩ := hcell
  have hst := h2.stored (k * 4 + 3) (.slice ac[k].1 t ac[k].2)
  have hro : (wRow l ac).set (k * 4 + 3) (.slice ac[k].1 t ac[k].2) = wRow (l.set k { l[k] with data := l[k].data.take t }) ac :=
    wRow_set hx ha h1 rfl rfl rfl (by simp only [List.length_take]; rw [Nat.min_eq_left ht])
  refine ⟨ac, by rw [List.length_set, h1], ?_, fun i y a hy haa => ?_⟩
  · rw [List.length_set, ← hro]
    exact hst.1
  · have hkeep : ∀ b, S b → (w.setCell ⟨ub, k * 4 + 3, none⟩ (.slice ac[k].1 t ac[k].2)).heap[b]? = w.heap[b]? := fun b hb => heap_setCell_other w ⟨ub, _, none⟩ b _ (hS b hb)
    by_cases hi : i = k
    · subst hi
      rw [List.getElem?_set_self hk] at hy
      injection hy with hy
      rw [ha] at haa
      injection haa with haa
      subst hy haa
      exact ⟨by simp only [List.length_take]; omega, (lies_takeS h5 t).keep hkeep (fun _ h => h)⟩
    · rw [List.getElem?_set_ne (by omega)] at hy
      exact ⟨(h3 i y a hy haa).1, (h3 i y a hy haa).2.keep hkeep (fun _ h => h)⟩
theorem ws_free {w : World} {base : Nat} {S : Nat → Prop} {ub n cap : Nat} {l : List W1} (h : WsAt w base S (.slice (some ⟨ub, 0, none⟩) n cap) l) (o : Nat) : w.frozen? ⟨ub, o, none⟩ = false := by
  obtain ⟨ac, _, h2, _⟩ := h
  rcases h2.2 with ⟨e, _⟩ | ⟨g, cap', cur, e, hb, hg, _⟩
  · cases e
  · injection e with e _ _
    injection e with e
    injection e with e
    subst e
    exact frozen_of_row w ub o _ _ hg
set_option maxRecDepth 100000 in
set_option maxHeartbeats 2000000 in
theorem tear_any (v0 : Value) (base : Nat) (S : Nat → Prop) (l : List W1) (t : Int) (w : World) (h : WsAt w base S v0 l) (hS : ∀ b, S b → v0.ownBlock ≠ some b) (hok : ∀ x ∈ l, OkW x) (hl : l.length ≤ 68719476736) :
    Calls Tryz.prog 35 #[v0, .int .i64 t] w (Does fun w' => WsAt w' base S v0 (torn t l) ∧ Kept (fun b => v0.ownBlock = some b) w w') := by
  obtain ⟨A, c, rfl, hc, hm, hub⟩ := h.form
  unfold maxLen at hm
  have H := Lib.hid h
  have HS := Lib.hid hS
  have HOK := Lib.hid hok
  clear h hS hok hub
  go_enter Tryz.func35, Tryz.ntmps35
  go_wp2
  go_loop [4] (fun i => ∃ k : Nat, k ≤ l.length ∧ i = .int .i64 ((k : Int) - 1) ∧ torn t l = torn t (l.take k) ++ l.drop k) (fun i => (intOf i + 1).toNat)
  case atStart => exact ⟨l.length, Nat.le_refl _, rfl, by rw [List.take_length, List.drop_length, List.append_nil]⟩
  case round =>
    obtain ⟨k, hk, rfl, htn⟩ := hrel
    have HT := Lib.hid htn
    clear htn
    rcases Nat.eq_zero_or_pos k with h0 | hpos
    · have H0 := Lib.hid h0
      subst h0
      go_wp2
      go_end0
      have h1 := HT.out
      rw [List.take_zero, torn_nil, List.nil_append, List.drop_zero] at h1
      exact ⟨rfl, by rw [h1]; exact H.out, Kept.refl _ _⟩
    · obtain ⟨j, rfl⟩ : ∃ j, k = j + 1 := ⟨k - 1, by omega⟩
      have hlt : j < l.length := by omega
      obtain ⟨ub, cap, A1, c1, e0, _, hub, hd1, hd2, hx0, hx1, hx2, hx3⟩ := H.out.at_ hlt
      simp only [Value.slice.injEq, true_and] at e0
      obtain ⟨rfl, rfl⟩ := e0
      have hfz := ws_free H.out (j * 4 + 3)
      have hfx := Lib.hid hfz
      obtain ⟨x, hx⟩ : ∃ x, x = l[j] := ⟨_, rfl⟩
      rw [← hx] at hd1 hd2 hx0 hx1 hx2 hx3
      have hox := HOK.out x (hx ▸ List.getElem_mem hlt)
      have hsn := torn_snoc t (l.take j) l[j]
      rw [← List.take_succ_eq_append_getElem hlt, ← hx] at hsn
      have e4 : ((j + 1 : Nat) : Int) - 1 = (j : Int) := by omega
      rw [e4]
      have hdl : x.data.length ≤ 4194304 := by have := hox.2.2.1; omega
      have HSN := Lib.hid hsn
      have HX := Lib.hid hx
      have HD := Lib.hid hd2
      have HX3 := Lib.hid hx3
      have hki := hox.1
      have hki2 := hox.2.1
      clear hx hd2 hx1 hx2 hsn hox e4
      by_cases hk1 : x.kind = 1
      · have d1 : ((x.kind : Int) != 1) = false := by rw [hk1]; rfl
        rw [if_pos hk1] at HSN
        have HK := Lib.hid hk1
        clear hk1
        by_cases ht : 0 ≤ t ∧ t < (x.data.length : Int)
        · obtain ⟨ht0, ht1⟩ := ht
          obtain ⟨tn, rfl⟩ : ∃ tn : Nat, t = (tn : Int) := ⟨t.toNat, by omega⟩
          have htl : tn < x.data.length := by omega
          have hrt := run_to w A1 x.data.length c1 tn (by omega)
          go_wp2
          go_end0
          have h1 := H.out.cut (t := tn) rfl hlt (by rw [← HX.out]; omega) (by rw [← HX.out]; exact HX3.out) (fun b hb e => HS.out b hb (by rw [e]; rfl))
          have h2 : l.set j { l[j] with data := l[j].data.take tn } = torn (tn : Int) l := by
            rw [HT.out, HSN.out]
            unfold cutData
            rw [if_pos ⟨by omega, ht1⟩, HX.out, Int.toNat_natCast, List.append_assoc, List.singleton_append, List.set_eq_take_append_cons_drop, if_pos hlt]
          rw [h2] at h1
          exact ⟨rfl, h1, (Kept.refl (fun b => (Value.slice (some ⟨ub, 0, none⟩) l.length c).ownBlock = some b) w).setCell (p := ⟨ub, j * 4 + 3, none⟩) (fun _ => rfl) _⟩
        · have hno : torn t l = l := by
            rw [HT.out, HSN.out]
            unfold cutData
            rw [if_neg ht, HX.out, List.append_assoc, List.singleton_append, List.getElem_cons_drop, List.take_append_drop]
          have HNO := Lib.hid hno
          clear hno
          rcases Int.lt_or_le t 0 with h0 | h0
          · have hd : decide (0 ≤ t) = false := decide_eq_false (by omega)
            clear ht
            go_wp2
            go_end0
            exact ⟨rfl, by rw [HNO.out]; exact H.out, Kept.refl _ _⟩
          · have h1 : ¬ t < (x.data.length : Int) := fun e => ht ⟨h0, e⟩
            have hd : decide (t < (x.data.length : Int)) = false := decide_eq_false h1
            clear ht
            go_wp2
            go_end0
            exact ⟨rfl, by rw [HNO.out]; exact H.out, Kept.refl _ _⟩
      · have d1 : ((x.kind : Int) != 1) = true := by simpa using (show (x.kind : Int) ≠ 1 by omega)
        rw [if_neg hk1] at HSN
        have HK := Lib.hid hk1
        clear hk1
        go_wp2
        go_round
        case rel => exact ⟨j, by omega, rfl, by rw [HT.out, HSN.out, List.append_assoc, HX.out, List.singleton_append, List.getElem_cons_drop]⟩
        case measure => simp [intOf]
end Go.Proofs.YtjnmolpopjapnaaGreatDoor.Dk
