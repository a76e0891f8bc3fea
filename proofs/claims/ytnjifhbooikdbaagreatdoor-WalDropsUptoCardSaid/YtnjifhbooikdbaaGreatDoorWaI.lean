/- sort.Search over the closure of holds; holds; as contracts of calls. -/
import Derived.Test.YtnjifhbooikdbaaGreatDoorWaG
namespace Go.Proofs.YtnjifhbooikdbaaGreatDoor.Wa
open Go.RowKit Go.Maps By Mp Dk

def SearchPost (n : Nat) (p : Nat → Bool) (w : World) (e : Ending) (w' : World) : Prop := ∃ t : Nat, e = .returned (.int .i64 (t : Int)) ∧ t ≤ n ∧ (∀ k, k < t → p k = false) ∧ (∀ k, t ≤ k → k < n → p k = true) ∧ Below w.heap.size w w'
set_option maxRecDepth 100000 in
set_option maxHeartbeats 2000000 in
theorem search_any (n : Nat) (bl bi : Nat) (p : Nat → Bool) (w : World) (hn : n ≤ 1099511627776) (hmono : ∀ a b, a ≤ b → b < n → p a = true → p b = true)
    (hcall : ∀ (k : Nat) (w' : World), k < n → Below w.heap.size w w' → Calls Tryz.prog 52 #[.int .i64 (k : Nat), .pointer (some ⟨bl, 0, none⟩), .pointer (some ⟨bi, 0, none⟩)] w' (RetB (.bool (p k)) w')) :
    Calls Tryz.prog 51 #[.int .i64 (n : Nat), .func (.func 52) #[] #[.pointer (some ⟨bl, 0, none⟩), .pointer (some ⟨bi, 0, none⟩)]] w (SearchPost n p w) := by
  have HM := Lib.hid hmono
  have HC := Lib.hid hcall
  clear hmono hcall
  go_enter Tryz.func51, Tryz.ntmps51
  go_wp2
  go_loopw [5, 6] (fun x y wr => ∃ i j : Nat, x = .int .i64 (i : Int) ∧ y = .int .i64 (j : Int) ∧ i ≤ j ∧ j ≤ n ∧ (∀ k, k < i → p k = false) ∧ (∀ k, j ≤ k → k < n → p k = true) ∧ Below w.heap.size w wr) (fun x y _ => (intOf y).toNat - (intOf x).toNat)
  case atStart => exact ⟨0, n, rfl, rfl, Nat.zero_le _, Nat.le_refl _, fun k hk => by omega, fun k h1 h2 => by omega, Below.refl _ _⟩
  case round =>
    obtain ⟨i, j, rfl, rfl, hij, hjn, hlo, hhi, hb⟩ := hrel
    have HLO := Lib.hid hlo
    have HHI := Lib.hid hhi
    have HB := Lib.hid hb
    clear hlo hhi hb
    by_cases hlt : i < j
    · obtain ⟨h, hh⟩ : ∃ h, h = (i + j) / 2 := ⟨_, rfl⟩
      have hhn : h < n := by omega
      have hij64 : (i : Int) + (j : Int) ≤ 4398046511104 := by omega
      go_upto_region 4 with fail
      rw [show ((i : Int) + (j : Int)) / 2 = (h : Int) by omega]
      have HCH := Lib.hid (HC.out h wr hhn HB.out)
      have hih : i ≤ h := by omega
      have hhj : h < j := by omega
      clear hh hij64
      go_wp2_with fail
      refine HCH.out.mono ?_
      rintro e w2 ⟨rfl, hb2⟩
      have HB2 := Lib.hid (By.ext HB.out hb2)
      clear hb2
      cases hp : p h with
      | true =>
        go_wp2
        go_roundw
        case rel => exact ⟨i, h, rfl, rfl, hih, by omega, HLO.out, fun k h1 h2 => HM.out h k h1 h2 hp, HB2.out⟩
        case measure => simp [intOf]; omega
      | false =>
        go_wp2
        go_roundw
        case rel =>
          refine ⟨h + 1, j, by go_num, rfl, hhj, hjn, fun k hk => ?_, HHI.out, HB2.out⟩
          cases hpk : p k with
          | false => rfl
          | true =>
            have := HM.out k h (by omega) hhn hpk
            rw [hp] at this
            cases this
        case measure => simp [intOf]; omega
    · have hije : i = j := by omega
      subst hije
      have HFIN := Lib.hid (show SearchPost n p w (.returned (.int .i64 (i : Int))) wr from ⟨i, rfl, hjn, HLO.out, HHI.out, HB.out⟩)
      go_wp2
      go_ret
      exact HFIN.out
theorem two_new (w : World) (oa ob : Obj) : ((w.alloc oa).alloc ob).heap[w.heap.size]? = some oa ∧ ((w.alloc oa).alloc ob).heap[w.heap.size + 1]? = some ob ∧ Below w.heap.size w ((w.alloc oa).alloc ob) := by
  refine ⟨(heap_alloc_old (w.alloc oa) _ (by simp)).trans (heap_alloc_new w oa), ?_, bAlloc (bAlloc (Below.refl _ _) _) _⟩
  have h := heap_alloc_new (w.alloc oa) ob
  rwa [World.size_alloc] at h
def beyond (l : List Seg) (i k : Nat) : Bool := match l[k]? with | some s => decide (i < s.first) | none => true
set_option maxRecDepth 100000 in
set_option maxHeartbeats 2000000 in
theorem closure_any (g d bl bi i k : Nat) (l : List Seg) (dead : Bool) (T : Nat → Prop) (w : World) (h : LogAt w g d l dead T) (hk : k < l.length) (hl : w.cell? ⟨bl, 0, none⟩ = some (.pointer (some ⟨g, 0, none⟩))) (hi : w.cell? ⟨bi, 0, none⟩ = some (.int .u64 (i : Nat))) :
    Calls Tryz.prog 52 #[.int .i64 (k : Nat), .pointer (some ⟨bl, 0, none⟩), .pointer (some ⟨bi, 0, none⟩)] w (RetB (.bool (beyond l i k)) w) := by
  obtain ⟨v, ac, h⟩ := h
  obtain ⟨ub, cap, A, c, rfl, hub, -, -, -, -, hc1, -, -⟩ := h.at_ hk
  have h1 : w.cell? ⟨g, 1, none⟩ = some (.slice (some ⟨ub, 0, none⟩) l.length cap) := by rw [cell_of_row w g 1 _ _ _ h.row]; rfl
  have e : beyond l i k = decide (i < l[k].first) := by unfold beyond; rw [List.getElem?_eq_getElem hk]
  rw [e]
  have hfew := h.few
  obtain ⟨n, hn⟩ : ∃ n, n = l.length := ⟨_, rfl⟩
  obtain ⟨f, hf⟩ : ∃ f, f = l[k].first := ⟨_, rfl⟩
  rw [← hf] at hc1 ⊢
  rw [← hn] at h1 hk hfew
  clear h e hn hf
  go_enter Tryz.func52, Tryz.ntmps52
  go_upto_region 1 with fail
  go_quiet (fail)
  go_wp2
  go_ret
  exact ⟨rfl, belowDrewN (Below.refl _ _) _⟩
/-- Segments in the order of their records. -/
def Rising (l : List Seg) : Prop := ∀ (a b : Nat) (s u : Seg), a ≤ b → l[a]? = some s → l[b]? = some u → s.first ≤ u.first
def HoldsPost (l : List Seg) (i : Nat) (w : World) (e : Ending) (w' : World) : Prop := ∃ k : Nat, e = .returned (.int .i64 (k : Int)) ∧ k < l.length ∧ (∀ s, l[k]? = some s → s.first ≤ i) ∧ (∀ b s, k < b → l[b]? = some s → i < s.first) ∧ Below w.heap.size w w'
set_option maxRecDepth 100000 in
set_option maxHeartbeats 2000000 in
theorem holds_any (g d i : Nat) (l : List Seg) (dead : Bool) (T : Nat → Prop) (w : World) (h : LogAt w g d l dead T) (hup : Rising l) (hne : 0 < l.length) (hfi : ∀ s, l[0]? = some s → s.first ≤ i) :
    Calls Tryz.prog 28 #[.pointer (some ⟨g, 0, none⟩), .int .u64 (i : Nat)] w (HoldsPost l i w) := by
  have hbb := two_new w (.cells #[.pointer (some ⟨g, 0, none⟩)] 28) (.cells #[.int .u64 (i : Nat)] 34)
  have HBB := Lib.hid hbb
  obtain ⟨w0, hw0⟩ : ∃ w0, w0 = (w.alloc (.cells #[.pointer (some ⟨g, 0, none⟩)] 28)).alloc (.cells #[.int .u64 (i : Nat)] 34) := ⟨_, rfl⟩
  rw [← hw0] at HBB
  have HW0 := Lib.hid hw0
  have HLOG := Lib.hid (h.below HBB.out.2.2)
  have hse := search_any l.length w.heap.size (w.heap.size + 1) (beyond l i) w0 (by obtain ⟨v, ac, h⟩ := h; exact h.few) (fun a b hab hb ha => by
      have hxa : l[a]? = some (l[a]'(by omega)) := List.getElem?_eq_getElem (by omega)
      have hxb : l[b]? = some l[b] := List.getElem?_eq_getElem hb
      unfold beyond at ha ⊢
      rw [hxa] at ha
      rw [hxb]
      have := hup a b _ _ hab hxa hxb
      simp only [decide_eq_true_eq] at ha ⊢
      omega)
    (fun k w' hk hb => closure_any g d w.heap.size (w.heap.size + 1) i k l dead T w' (HLOG.out.below hb) hk (by
        rw [cell_of_row w' _ 0 _ _ _ ((hb.block _ (row_lt HBB.out.1)).trans HBB.out.1)]; rfl) (by
        rw [cell_of_row w' _ 0 _ _ _ ((hb.block _ (row_lt HBB.out.2.1)).trans HBB.out.2.1)]; rfl))
  have HSE := Lib.hid hse
  obtain ⟨v, ac, hl0⟩ := HLOG.out
  obtain ⟨A, c, hv⟩ := hl0.form
  subst hv
  have hg1 : w0.cell? ⟨g, 1, none⟩ = some (.slice A l.length c) := by rw [cell_of_row w0 g 1 _ _ _ hl0.row]; rfl
  have hx0 : w0.cell? ⟨w.heap.size, 0, none⟩ = some (.pointer (some ⟨g, 0, none⟩)) := by rw [cell_of_row w0 _ 0 _ _ _ HBB.out.1]; rfl
  have hfew := hl0.few
  obtain ⟨n, hn⟩ : ∃ n, n = l.length := ⟨_, rfl⟩
  have HN := Lib.hid hn
  rw [← hn] at hg1 hfew HSE hne
  have HFI := Lib.hid hfi
  clear h hbb hse hl0 hup hn hfi
  go_enter Tryz.func28, Tryz.ntmps28
  go_upto_region 1 with fail
  rw [← HW0.out]
  clear hw0 HW0
  go_wp2_with fail
  refine HSE.out.mono ?_
  rintro e w2 ⟨t, rfl, htn, hlo, hhi, hb2⟩
  have ht0 : 0 < t := by
    rcases Nat.eq_zero_or_pos t with h0 | h0
    · have h1 := hhi 0 (by omega) hne
      have hx : l[0]? = some (l[0]'(by have := HN.out; omega)) := List.getElem?_eq_getElem _
      unfold beyond at h1
      rw [hx] at h1
      have := HFI.out _ hx
      simp only [decide_eq_true_eq] at h1
      omega
    · exact h0
  have HFIN := Lib.hid (show HoldsPost l i w (.returned (.int .i64 ((t - 1 : Nat) : Int))) w2 from ⟨t - 1, rfl, by have := HN.out; omega, fun s hs => by
      have h1 := hlo (t - 1) (by omega)
      unfold beyond at h1
      rw [hs] at h1
      simp only [decide_eq_false_iff_not] at h1
      omega, fun b s hb hs => by
      have hbl := (List.getElem?_eq_some_iff.1 hs).1
      have h1 := hhi b (by omega) (by have := HN.out; omega)
      unfold beyond at h1
      rw [hs] at h1
      simpa using h1, By.ext HBB.out.2.2 hb2⟩)
  have hti : ((t : Int) - 1) = ((t - 1 : Nat) : Int) := by omega
  clear hlo hhi hb2
  go_wp2
  go_ret
  exact HFIN.out
end Go.Proofs.YtnjifhbooikdbaaGreatDoor.Wa
