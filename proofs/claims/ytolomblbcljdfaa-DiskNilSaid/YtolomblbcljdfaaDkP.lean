/- Files in memory behind a put and a removal of one of them. No walk. -/
import Derived.Test.YtolomblbcljdfaaDkB
namespace Go.Proofs.Ytolomblbcljdfaa.Dk
open Go.RowKit Go.Maps By Mp

theorem LiesS.cells {w : World} {S : Nat → Prop} {A : Option Addr} {l : Bs} (h : LiesS w S A l) : LiesS w (fun b => S b ∧ ∃ cs t fr, w.heap[b]? = some (.cells cs t fr)) A l := fun hn => by
  obtain ⟨g, o, e, hg, hc⟩ := h hn
  refine ⟨g, o, e, ⟨hg, ?_⟩, hc⟩
  have h0 := hc 0 _ (List.getElem?_eq_getElem hn)
  unfold World.cell? at h0
  cases hh : w.heap[g]? with
  | none => simp [hh] at h0
  | some ob =>
    cases ob <;> simp [hh] at h0
    exact ⟨_, _, _, rfl⟩
theorem map_not_cells {w : World} {P : Program} {k : TypeId} {q n : Nat} {get : Lit → Option Value} (h : MapIs P k w q get n) {cs : Array Value} {t : TypeId} {fr : Nat × Nat} : w.heap[q]? ≠ some (.cells cs t fr) := fun e => by
  obtain ⟨D, ⟨es, clock, hb, _⟩, _⟩ := h
  rw [e] at hb
  cases hb
theorem foot_map {w : World} {bm : Option Nat} {F : Fs} {pb : Bs → Option Nat} (h : FilesAt w bm F pb) {q : Nat} (hq : foot bm F pb q) {cs : Array Value} {t : TypeId} {fr : Nat × Nat} : w.heap[q]? ≠ some (.cells cs t fr) := by
  rcases hq with hq | ⟨n, b, hn, hq⟩
  · exact map_not_cells (h.map q hq)
  · have := h.file n b hn
    rw [hq] at this
    obtain ⟨get, m, h1, _⟩ := this
    exact map_not_cells h1
theorem sameS {n m : Bs} : (Lit.string n).sameKey (.string m) = decide (n = m) := by
  rw [Bool.eq_iff_iff]
  simp [Lit.sameKey]
theorem files_put {w w6 : World} {bm : Option Nat} {F : Fs} {pb : Bs → Option Nat} (h : FilesAt w bm F pb) (hup : Up F) {name nb : Bs} {pm' : Option Nat} {qm : Nat}
    (hkeep : ∀ n b q, n ≠ name → fget F n = some b → pb n = some q → w6.heap[q]? = w.heap[q]?) (hfile : FileAt w6 pm' nb)
    (hmap : MapIs Try.prog tStr w6 qm (upd (fsGet F pb) (.string name) (some (fileV nb pm'))) (if (fget F name).isSome then F.length else F.length + 1))
    (hq : ∀ q, pm' = some q → (pb name = some q ∧ ∃ b, fget F name = some b) ∨ w.heap.size ≤ q) (hqm : bm = some qm ∨ (bm = none ∧ w.heap.size ≤ qm ∧ pm' ≠ some qm)) :
    FilesAt w6 (some qm) (fput name nb F) (fun n => if n = name then pm' else pb n) ∧ ∀ q, foot (some qm) (fput name nb F) (fun n => if n = name then pm' else pb n) q → foot bm F pb q ∨ w.heap.size ≤ q := by
  have hlt : ∀ n b q, fget F n = some b → pb n = some q → q < w.heap.size := fun n b q h1 h2 => h.lt (.inr ⟨n, b, h1, h2⟩)
  constructor
  · constructor
    · intro e; cases e
    · intro q e
      injection e with e
      subst e
      have hl : (fput name nb F).length = if (fget F name).isSome then F.length else F.length + 1 := by
        rw [(size_put name nb hup).2]; split <;> rfl
      rw [hl]
      refine hmap.same (fun l hl => ?_)
      unfold upd
      cases l with
      | string n =>
        rw [sameS]
        by_cases hn : n = name
        · rw [decide_eq_true hn, if_pos rfl]
          simp [fsGet, fget_put, hn]
        · rw [decide_eq_false hn, if_neg (by simp)]
          simp [fsGet, fget_put, hn]
      | _ => simp [fsGet, Lit.sameKey]
    · intro n b hn
      rw [fget_put] at hn
      by_cases e : n = name
      · rw [if_pos e] at hn ⊢
        injection hn with hn
        subst hn
        exact hfile
      · rw [if_neg e] at hn ⊢
        exact (h.file n b hn).keep (fun q hq2 => hkeep n b q e hn hq2)
    · intro n m b c q hn hm hpn hpm
      rw [fget_put] at hn hm
      by_cases e1 : n = name <;> by_cases e2 : m = name
      · rw [e1, e2]
      · rw [if_pos e1] at hpn
        rw [if_neg e2] at hm
        simp only [if_neg e2] at hpm
        rcases hq q hpn with ⟨h1, b', h2⟩ | h1
        · rw [e1]
          exact h.apart name m b' c q h2 hm h1 hpm
        · have := hlt m c q hm hpm; omega
      · rw [if_pos e2] at hpm
        rw [if_neg e1] at hn
        simp only [if_neg e1] at hpn
        rcases hq q hpm with ⟨h1, b', h2⟩ | h1
        · rw [e2]
          exact h.apart n name b b' q hn h2 hpn h1
        · have := hlt n b q hn hpn; omega
      · rw [if_neg e1] at hn
        rw [if_neg e2] at hm
        simp only [if_neg e1] at hpn
        simp only [if_neg e2] at hpm
        exact h.apart n m b c q hn hm hpn hpm
    · intro n b q hn hpn e
      injection e with e
      subst e
      rw [fget_put] at hn
      by_cases e1 : n = name
      · simp only [if_pos e1] at hpn
        rcases hqm with hb | ⟨_, _, hne⟩
        · rcases hq _ hpn with ⟨h1, b', h2⟩ | h1
          · exact h.own name b' _ h2 h1 hb
          · have := h.lt (.inl hb : foot bm F pb qm); omega
        · exact hne hpn
      · rw [if_neg e1] at hn
        simp only [if_neg e1] at hpn
        rcases hqm with hb | ⟨_, hge, _⟩
        · exact h.own n b _ hn hpn hb
        · have := hlt n b _ hn hpn; omega
  · intro q hf
    rcases hf with e | ⟨n, b, hn, hpn⟩
    · injection e with e
      subst e
      rcases hqm with hb | ⟨_, hge, _⟩
      · exact .inl (.inl hb)
      · exact .inr hge
    · rw [fget_put] at hn
      by_cases e1 : n = name
      · simp only [if_pos e1] at hpn
        rcases hq q hpn with ⟨h1, b', h2⟩ | h1
        · exact .inl (.inr ⟨name, b', h2, h1⟩)
        · exact .inr h1
      · rw [if_neg e1] at hn
        simp only [if_neg e1] at hpn
        exact .inl (.inr ⟨n, b, hn, hpn⟩)
theorem files_del {w w6 : World} {qm : Nat} {F : Fs} {pb : Bs → Option Nat} (h : FilesAt w (some qm) F pb) (hup : Up F) {name : Bs} (hkeep : ∀ n b q, fget F n = some b → pb n = some q → w6.heap[q]? = w.heap[q]?)
    (hmap : MapIs Try.prog tStr w6 qm (upd (fsGet F pb) (.string name) none) (if (fget F name).isSome then F.length - 1 else F.length)) :
    FilesAt w6 (some qm) (fdel name F) pb ∧ ∀ q, foot (some qm) (fdel name F) pb q → foot (some qm) F pb q := by
  have hd : ∀ n b, fget (fdel name F) n = some b → fget F n = some b := by
    intro n b hn
    rw [fget_del] at hn
    split at hn
    · cases hn
    · exact hn
  constructor
  · constructor
    · intro e; cases e
    · intro q e
      injection e with e
      subst e
      have hl : (fdel name F).length = if (fget F name).isSome then F.length - 1 else F.length := by
        have := (size_del name hup).2
        split <;> rename_i hc <;> simp [hc] at this <;> omega
      rw [hl]
      refine hmap.same (fun l hl => ?_)
      unfold upd
      cases l with
      | string n =>
        rw [sameS]
        by_cases hn : n = name
        · rw [decide_eq_true hn, if_pos rfl]
          simp [fsGet, fget_del, hn]
        · rw [decide_eq_false hn, if_neg (by simp)]
          simp [fsGet, fget_del, hn]
      | _ => simp [fsGet, Lit.sameKey]
    · intro n b hn
      exact (h.file n b (hd n b hn)).keep (fun q hq2 => hkeep n b q (hd n b hn) hq2)
    · intro n m b c q hn hm hpn hpm
      exact h.apart n m b c q (hd n b hn) (hd m c hm) hpn hpm
    · intro n b q hn hpn
      exact h.own n b q (hd n b hn) hpn
  · intro q hf
    rcases hf with e | ⟨n, b, hn, hpn⟩
    · exact .inl e
    · exact .inr ⟨n, b, hd n b hn, hpn⟩
end Go.Proofs.Ytolomblbcljdfaa.Dk
