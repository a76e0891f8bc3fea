/- What DiskSwaps wants: changes of unlike files in either order; both were done if two changes more are unsure. No walk. -/
import Derived.Test.YtcfnfphnjkllcaaLaJ
namespace Go.Proofs.Ytcfnfphnjkllcaa.Dk
open Go.RowKit Go.Maps By Mp

theorem bytesOf_doW {F : Fs} {x : W1} {n : Bs} (h : n ≠ x.name) : bytesOf (doW F x) n = bytesOf F n := by
  unfold bytesOf doW
  split
  · rw [fget_del, if_neg h]
  · rw [fget_put, if_neg h]
theorem fget_doW (F : Fs) (x : W1) (n : Bs) : fget (doW F x) n = if n = x.name then (if x.kind = 3 then none else some (if x.kind = 2 then cutB (bytesOf F x.name) x.off else putB (bytesOf F x.name) x.off x.data)) else fget F n := by
  unfold doW
  by_cases h3 : x.kind = 3
  · rw [if_pos h3, fget_del, if_pos h3]
  · rw [if_neg h3, fget_put, if_neg h3]
/-- Changes of unlike files, in either order. -/
theorem doW_swap {F : Fs} (h : Up F) {x y : W1} (hn : x.name ≠ y.name) : doW (doW F x) y = doW (doW F y) x := by
  refine up_ext ((h.doW x).doW y) ((h.doW y).doW x) (fun n => ?_)
  rw [fget_doW, fget_doW, fget_doW (doW F y), fget_doW F y, bytesOf_doW (fun e => hn e.symm), bytesOf_doW hn]
  by_cases hx : n = x.name
  · subst hx
    rw [if_neg hn, if_pos rfl, if_pos rfl]
  · rw [if_neg hx, if_neg hx]
theorem chg_cases {s : DS} (hf : s.fuse = 0) (k : Nat) (nm : Bs) (off : Int) (d : Bs) : chgS s k nm off d = s ∨ chgS s k nm off d = { s with unsure := s.unsure ++ [⟨k, nm, off.toNat, d⟩] } := by
  have hb : burns s = false := by unfold burns; rw [hf]; rfl
  have hu : burnt s = s := by unfold burnt; rw [if_pos hf]
  unfold chgS
  split
  · exact .inl rfl
  · rw [if_neg (by rw [hb]; simp), hu]
    exact .inr rfl
/-- The change that an act of kind 1, 2 or 3 asks for. -/
def actW (a : A1) : W1 := if a.kind = 1 then ⟨1, a.name, a.n.toNat, a.data⟩ else if a.kind = 2 then ⟨2, a.name, a.n.toNat, []⟩ else ⟨3, a.name, 0, []⟩
theorem actW_name (a : A1) : (actW a).name = a.name := by
  unfold actW
  split
  · rfl
  · split <;> rfl
theorem act_cases {s : DS} (hf : s.fuse = 0) {a : A1} (ha : 1 ≤ a.kind ∧ a.kind ≤ 3) : actS s a = s ∨ actS s a = { s with unsure := s.unsure ++ [actW a] } := by
  unfold actS actW
  by_cases k1 : a.kind = 1
  · rw [if_pos k1, if_pos k1]
    exact chg_cases hf 1 a.name a.n a.data
  · rw [if_neg k1, if_neg k1]
    by_cases k2 : a.kind = 2
    · rw [if_pos k2, if_pos k2]
      exact chg_cases hf 2 a.name a.n []
    · rw [if_neg k2, if_neg k2, if_pos (by omega)]
      exact chg_cases hf 3 a.name 0 []
theorem act_both {s : DS} (hf : s.fuse = 0) {a b : A1} (ha : 1 ≤ a.kind ∧ a.kind ≤ 3) (hb : 1 ≤ b.kind ∧ b.kind ≤ 3) (hl : (actS (actS s a) b).unsure.length = s.unsure.length + 2) : actS (actS s a) b = { s with unsure := s.unsure ++ [actW a] ++ [actW b] } := by
  rcases act_cases hf ha with h1 | h1
  · rw [h1] at hl ⊢
    rcases act_cases hf hb with h2 | h2
    · rw [h2] at hl; omega
    · rw [h2] at hl
      simp at hl
  · rw [h1] at hl ⊢
    rcases act_cases (s := { s with unsure := s.unsure ++ [actW a] }) hf hb with h2 | h2
    · rw [h2] at hl
      simp at hl
    · rw [h2]
/-- Both orders have the same files behind a fall that loses nothing. -/
theorem swap_files {s : DS} (hok : s.Ok) {a b : A1} (hn : a.name ≠ b.name) : ({ s with unsure := s.unsure ++ [actW a] ++ [actW b] } : DS).files = ({ s with unsure := s.unsure ++ [actW b] ++ [actW a] } : DS).files := by
  have e : ∀ x y : W1, ({ s with unsure := s.unsure ++ [x] ++ [y] } : DS).files = doW (doW s.files x) y := by
    intro x y
    show (s.unsure ++ [x] ++ [y]).foldl doW s.sure = doW (doW (s.unsure.foldl doW s.sure) x) y
    rw [List.foldl_append, List.foldl_append]
    rfl
  rw [e, e]
  exact doW_swap (up_all hok.up) (by rw [actW_name, actW_name]; exact hn)
end Go.Proofs.Ytcfnfphnjkllcaa.Dk
