/- Package scupperref03's ToHard, ToShot, as contracts of calls. Written by genref2.py. -/
import Derived.Test.YtlgbipmmpocepaaGreatKvB
import Derived.Test.YtlgbipmmpocepaaGreatGS
namespace Go.Proofs.YtlgbipmmpocepaaGreat.Kd
open Go.RowKit By CoP Co Mo

theorem inAt_set {B g X : Nat} {w : World} {b : List UInt8} {s : St} (h : InAt B g w b s) (hX : X ≠ g) (hB : B ≤ X) (o : Nat) (u : Value) : InAt B g (w.setCell ⟨X, o, none⟩ u) b s := by
  obtain ⟨A, c, at_, bad, h1, h2, h3, h4, h5, h6⟩ := h
  exact ⟨A, c, at_, bad, h1, h2, h3, (heap_setCell_other w ⟨X, o, none⟩ g u (fun e => hX e.symm)).trans h4, h5.setCell (p := ⟨X, o, none⟩) hB u, h6⟩
theorem asI_len (l : List Nat) : (asI l).length = l.length := by simp [asI]
theorem ownI_ids {base : Nat} {w : World} {A : Option Addr} {c : Nat} {l : List Nat} (h : OwnI base w (.slice A l.length c) l) (hl : ∀ x ∈ l, x ≤ 16) (h16 : l.length ≤ 16) {S : Nat → Prop} (hS : ∀ q, base ≤ q → q < w.heap.size → S q) :
    idsK.rep w S [.slice A l.length c] (.agg ((asI l).map litZ)) := by
  have hr := h.lies hl
  have hlt := h.lt
  obtain ⟨A', c', e, hc, _⟩ := h.form
  simp only [Value.slice.injEq, true_and] at e
  obtain ⟨rfl, rfl⟩ := e
  refine ⟨A, c, (asI l).map litZ, by rw [List.length_map, asI_len], rfl, by rw [List.length_map, asI_len]; exact hc, by rw [List.length_map, asI_len]; omega, fun hp => ?_⟩
  rw [List.length_map, asI_len] at hp
  obtain ⟨g, o, rfl, hg, h4⟩ := hr (by rw [asI_len]; exact hp)
  have hb := hlt g rfl
  refine ⟨g, o, rfl, hS g hb.1 hb.2, fun j d hd => ?_⟩
  rw [List.getElem?_map, Option.map_eq_some_iff] at hd
  obtain ⟨x, hx, rfl⟩ := hd
  obtain ⟨h5, h6, h7⟩ := h4 j x hx
  refine ⟨[.int .i64 x], ⟨x, h6, h7, rfl, rfl⟩, fun i v hv => ?_⟩
  have hi : i = 0 := by
    have := (List.getElem?_eq_some_iff.1 hv).1
    simpa using this
  subst hi
  have hv2 : Value.int .i64 x = v := by simpa using hv
  subst hv2
  have e1 : (intK 1 16).size = 1 := rfl
  rw [e1, Nat.mul_one, Nat.add_zero]
  exact h5
theorem ownI_conf {base : Nat} {w : World} {A0 A1 : Option Addr} {c0 c1 : Nat} {vs ls : List Nat} (h0 : OwnI base w (.slice A0 vs.length c0) vs) (h1 : OwnI base w (.slice A1 ls.length c1) ls) (hl0 : ∀ x ∈ vs, x ≤ 16) (hl1 : ∀ x ∈ ls, x ≤ 16) (k0 : vs.length ≤ 16) (k1 : ls.length ≤ 16)
    {S : Nat → Prop} (hS : ∀ q, base ≤ q → q < w.heap.size → S q) : confK.rep w S [.slice A0 vs.length c0, .slice A1 ls.length c1] (confD (asI vs) (asI ls)) :=
  ⟨_, rfl, [_], _, _, _, rfl, rfl, ownI_ids h0 hl0 k0 hS, [_], _, _, _, rfl, rfl, ownI_ids h1 hl1 k1 hS, rfl, rfl⟩
def pConfD : Rdr := fun s => (confD (asI (pConf s).1.1) (asI (pConf s).1.2), (pConf s).2)
def pShotD : Rdr := pRec [pNumD, pNumD, pConfD, pDataD]
theorem pIds_st (s : St) : stLen (pIds s).2 ≤ stLen s := by
  have hL : ∀ (n : Nat) (s : St), stLen (pIdsL n s).2 ≤ stLen s := by
    intro n
    induction n with
    | zero => intro s; exact Nat.le_refl _
    | succ n ih =>
      intro s
      cases s with
      | none => rw [pIdsL_none]; exact Nat.le_refl _
      | some r => exact Nat.le_trans (ih _) (pInt_len 16 (some r))
  exact Nat.le_trans (hL _ _) (pInt_len 16 s)
theorem pConf_st (s : St) : stLen (pConf s).2 ≤ stLen s := Nat.le_trans (pIds_st _) (pIds_st s)
end Go.Proofs.YtlgbipmmpocepaaGreat.Kd
