/- The reference's files in memory: a slice of names and bytes. No walk. -/
import Derived.Test.YtcfnfphnjkllcaaDlC
namespace Go.Proofs.Ytcfnfphnjkllcaa.Dk
open Go.RowKit Go.Maps By Mp

abbrev tRF : TypeId := 52
abbrev tRFs : TypeId := 41
abbrev tRD : TypeId := 44
def fCells (p : Bs × Bs) (a : AC) : List Value := [.string (str p.1), .slice a.1 p.2.length a.2]
def fRow : Fs → List AC → List Value
  | p :: l, a :: ac => fCells p a ++ fRow l ac
  | _, _ => []
theorem fRow_length : ∀ {l : Fs} {ac : List AC}, ac.length = l.length → (fRow l ac).length = l.length * 2
  | [], [], _ => rfl
  | [], _ :: _, h => by simp at h
  | _ :: _, [], h => by simp at h
  | x :: l, a :: ac, h => by
    show (fCells x a ++ fRow l ac).length = _
    rw [List.length_append, fRow_length (by simpa using h)]
    simp [fCells]
    omega
theorem fRow_app : ∀ {l m : Fs} {ac bc : List AC}, ac.length = l.length → fRow (l ++ m) (ac ++ bc) = fRow l ac ++ fRow m bc
  | [], _, [], _, _ => rfl
  | [], _, _ :: _, _, h => by simp at h
  | _ :: _, _, [], _, h => by simp at h
  | y :: l, m, b :: ac, bc, h => by
    show fCells y b ++ fRow (l ++ m) (ac ++ bc) = (fCells y b ++ fRow l ac) ++ fRow m bc
    rw [fRow_app (by simpa using h), List.append_assoc]
theorem fRow_one (p : Bs × Bs) (a : AC) : fRow [p] [a] = fCells p a := by simp [fRow]
theorem fRow_take : ∀ (k : Nat) {l : Fs} {ac : List AC}, ac.length = l.length → (fRow l ac).take (k * 2) = fRow (l.take k) (ac.take k)
  | 0, l, ac, _ => by simp [fRow]
  | k + 1, [], [], _ => by simp [fRow]
  | k + 1, [], _ :: _, h => by simp at h
  | k + 1, _ :: _, [], h => by simp at h
  | k + 1, y :: l, b :: ac, h => by
    show (fCells y b ++ fRow l ac).take ((k + 1) * 2) = fCells y b ++ fRow (l.take k) (ac.take k)
    rw [← fRow_take k (by simpa using h), List.take_append, List.take_of_length_le (by simp [fCells]; omega), show (k + 1) * 2 - (fCells y b).length = k * 2 by simp [fCells]; omega]
theorem fRow_drop : ∀ (k : Nat) {l : Fs} {ac : List AC}, ac.length = l.length → (fRow l ac).drop (k * 2) = fRow (l.drop k) (ac.drop k)
  | 0, l, ac, _ => by simp
  | k + 1, [], [], _ => by simp [fRow]
  | k + 1, [], _ :: _, h => by simp at h
  | k + 1, _ :: _, [], h => by simp at h
  | k + 1, y :: l, b :: ac, h => by
    show (fCells y b ++ fRow l ac).drop ((k + 1) * 2) = fRow (l.drop k) (ac.drop k)
    rw [← fRow_drop k (by simpa using h), List.drop_append, List.drop_of_length_le (by simp [fCells]; omega), show (k + 1) * 2 - (fCells y b).length = k * 2 by simp [fCells]; omega, List.nil_append]
theorem fRow_get {j : Nat} (hj : j < 2) : ∀ {l : Fs} {ac : List AC} {k : Nat} {x : Bs × Bs} {a : AC}, l[k]? = some x → ac[k]? = some a → ac.length = l.length → (fRow l ac)[k * 2 + j]? = (fCells x a)[j]?
  | [], _, _, _, _, h, _, _ => by simp at h
  | _ :: _, [], _, _, _, _, h, _ => by simp at h
  | y :: l, b :: ac, 0, x, a, hx, ha, _ => by
    simp only [List.getElem?_cons_zero, Option.some.injEq] at hx ha
    subst hx ha
    show (fCells y b ++ fRow l ac)[0 * 2 + j]? = _
    rw [Nat.zero_mul, Nat.zero_add, List.getElem?_append_left (by simpa [fCells] using hj)]
  | y :: l, b :: ac, k + 1, x, a, hx, ha, h => by
    show (fCells y b ++ fRow l ac)[(k + 1) * 2 + j]? = _
    rw [List.getElem?_append_right (by simp [fCells]; omega), show (k + 1) * 2 + j - (fCells y b).length = k * 2 + j by simp [fCells]; omega]
    exact fRow_get hj (by simpa using hx) (by simpa using ha) (by simpa using h)
theorem fRow_one' : ∀ {l : Fs} {ac : List AC} {u : Value}, u ∈ fRow l ac → u.oneCell' = true
  | [], _, _, h => by simp [fRow] at h
  | _ :: _, [], _, h => by simp [fRow] at h
  | y :: l, b :: ac, u, h => by
    have h : u ∈ fCells y b ++ fRow l ac := h
    rcases List.mem_append.1 h with h | h
    · simp only [fCells, List.mem_cons, List.not_mem_nil, or_false] at h
      rcases h with rfl | rfl <;> rfl
    · exact fRow_one' h
/-- The bytes of files lie in blocks of S. -/
def FData (w : World) (S : Nat → Prop) (l : Fs) (ac : List AC) : Prop := ∀ (i : Nat) (x : Bs × Bs) (a : AC), l[i]? = some x → ac[i]? = some a → x.2.length ≤ a.2 ∧ LiesS w S a.1 x.2
/-- A slice of files, its row from block base on, their bytes in blocks of S. -/
def RfAt (w : World) (base : Nat) (S : Nat → Prop) (v : Value) (l : Fs) : Prop := ∃ ac : List AC, ac.length = l.length ∧ w.ownsRow base tRF 2 v l.length (fRow l ac) ∧ FData w S l ac
theorem RfAt.nil (w : World) (base : Nat) (S : Nat → Prop) : RfAt w base S (.slice none 0 0) [] := ⟨[], rfl, World.ownsRow_nil w base _ 2, fun i x a h _ => by simp at h⟩
theorem RfAt.keep {w w' : World} {base : Nat} {S S' : Nat → Prop} {v : Value} {l : Fs} (h : RfAt w base S v l) (hb : ∀ b, v.ownBlock = some b → w'.heap[b]? = w.heap[b]?) (hs : ∀ b, S b → w'.heap[b]? = w.heap[b]?) (hS : ∀ b, S b → S' b) : RfAt w' base S' v l := by
  obtain ⟨ac, h1, h2, h3⟩ := h
  exact ⟨ac, h1, ownsRow_keep h2 hb, fun i x a hx ha => ⟨(h3 i x a hx ha).1, (h3 i x a hx ha).2.keep hs hS⟩⟩
theorem RfAt.base {w : World} {base base' : Nat} {S : Nat → Prop} {v : Value} {l : Fs} (h : RfAt w base S v l) (hb : base' ≤ base) : RfAt w base' S v l := by
  obtain ⟨ac, h1, h2, h3⟩ := h
  exact ⟨ac, h1, ownsRow_base h2 hb, h3⟩
theorem RfAt.form {w : World} {base : Nat} {S : Nat → Prop} {v : Value} {l : Fs} (h : RfAt w base S v l) : ∃ A c, v = .slice A l.length c ∧ l.length ≤ c ∧ c ≤ maxLen ∧ (0 < l.length → ∃ ub, A = some ⟨ub, 0, none⟩ ∧ base ≤ ub ∧ ub < w.heap.size) := by
  obtain ⟨ac, _, h2, _⟩ := h
  rcases h2.2 with ⟨rfl, h⟩ | ⟨g, cap, cur, rfl, h1, h2, h3, h4, _⟩
  · exact ⟨none, 0, by rw [h], by omega, by unfold maxLen; omega, fun hp => by omega⟩
  · exact ⟨_, cap, rfl, h3, h4, fun _ => ⟨g, rfl, h1, row_lt h2⟩⟩
/-- One file. -/
theorem RfAt.at_ {w : World} {base : Nat} {S : Nat → Prop} {v : Value} {l : Fs} (h : RfAt w base S v l) {k : Nat} (hk : k < l.length) : ∃ ub cap A c, v = .slice (some ⟨ub, 0, none⟩) l.length cap ∧ base ≤ ub ∧ ub < w.heap.size ∧ l[k].2.length ≤ c ∧ LiesS w S A l[k].2 ∧
    w.cell? ⟨ub, k * 2, none⟩ = some (.string (str l[k].1)) ∧ w.cell? ⟨ub, k * 2 + 1, none⟩ = some (.slice A l[k].2.length c) := by
  obtain ⟨ac, h1, h2, h3⟩ := h
  have hx : l[k]? = some l[k] := List.getElem?_eq_getElem hk
  have ha : ac[k]? = some ac[k] := List.getElem?_eq_getElem (by omega)
  obtain ⟨h4, h5⟩ := h3 k _ _ hx ha
  rcases h2.2 with ⟨rfl, h⟩ | ⟨g, cap, cur, rfl, hb, hg, hc, hm, hs, ht⟩
  · omega
  · have hcell : ∀ j, j < 2 → w.cell? ⟨g, k * 2 + j, none⟩ = (fCells l[k] ac[k])[j]? := by
      intro j hj
      rw [cell_of_row w g _ _ _ _ hg, ← fRow_get hj hx ha h1, ← ht, List.getElem?_take_of_lt (by omega)]
      simp
    exact ⟨g, cap, ac[k].1, ac[k].2, rfl, hb, row_lt hg, h4, h5, hcell 0 (by omega), hcell 1 (by omega)⟩
theorem FData.snoc {w w' : World} {S S' : Nat → Prop} {l : Fs} {x : Bs × Bs} {A : Option Addr} {c : Nat} {ac : List AC} (hS : ∀ b, S b → w'.heap[b]? = w.heap[b]?) (hSS : ∀ b, S b → S' b)
    (hac : ac.length = l.length) (hda : FData w S l ac) (hc : x.2.length ≤ c) (hd : LiesS w' S' A x.2) : FData w' S' (l ++ [x]) (ac ++ [(A, c)]) := fun i y a hy ha => by
  by_cases hi : i < l.length
  · rw [List.getElem?_append_left hi] at hy
    rw [List.getElem?_append_left (by omega)] at ha
    exact ⟨(hda i y a hy ha).1, (hda i y a hy ha).2.keep hS hSS⟩
  · rw [List.getElem?_append_right (by omega)] at hy
    rw [List.getElem?_append_right (by omega), hac] at ha
    have : i - l.length = 0 := by
      have := (List.getElem?_eq_some_iff.1 hy).1
      simp at this
      omega
    rw [this] at hy ha
    simp at hy ha
    subst hy ha
    exact ⟨hc, hd⟩
theorem fInfo : (Try.prog.info? tRF).map (fun i => (i.zero, i.size, i.bytes)) = some (some (.agg #[.string ⟨#[]⟩, .slice none 0 0]), 2, 40) := by kernel_rfl
theorem u8_neF {w : World} {base : Nat} {size n : Nat} {v : Value} {xs : List Value} (h : w.ownsRow base tRF size v n xs) {b : Nat} (hb : U8 w b) : some b ≠ v.ownBlock := fun e => by
  obtain ⟨cs, fr, h1⟩ := hb
  obtain ⟨cur, h2⟩ := ownsRow_type h e.symm
  rw [h1] at h2
  injection h2 with h2
  injection h2 with _ h2
  exact absurd h2 (by decide)
/-- Gives files of the call's own. -/
def GivesF (l : Fs) (w : World) (e : Ending) (w' : World) : Prop := ∃ v, e = .returned v ∧ RfAt w' w.heap.size (New8 w w') v l ∧ Below w.heap.size w w'
/-- Files whose bytes are the call's own, each in a block of its own. -/
def RfOwn (w : World) (base : Nat) (v : Value) (l : Fs) : Prop := ∃ ac : List AC, ac.length = l.length ∧ w.ownsRow base tRF 2 v l.length (fRow l ac) ∧ (∀ (i : Nat) (x : Bs × Bs) (a : AC), l[i]? = some x → ac[i]? = some a → Own base w (.slice a.1 x.2.length a.2) x.2) ∧
  ∀ (i j : Nat) (a b : AC) (q n m : Nat), ac[i]? = some a → ac[j]? = some b → (Value.slice a.1 n a.2).ownBlock = some q → (Value.slice b.1 m b.2).ownBlock = some q → i = j
def GivesO (l : Fs) (w : World) (e : Ending) (w' : World) : Prop := ∃ v, e = .returned v ∧ RfOwn w' w.heap.size v l ∧ Below w.heap.size w w'
theorem own_data {base : Nat} {w : World} {l : Fs} {ac : List AC} (h : ∀ (i : Nat) (x : Bs × Bs) (a : AC), l[i]? = some x → ac[i]? = some a → Own base w (.slice a.1 x.2.length a.2) x.2) : FData w (fun b => base ≤ b ∧ b < w.heap.size ∧ U8 w b) l ac := fun i x a hx ha => by
  have h1 := h i x a hx ha
  obtain ⟨A, c, e, h2, _⟩ := h1.form
  injection e with _ _ e
  rw [e]
  exact ⟨h2, lies8 (c := a.2) h1⟩
end Go.Proofs.Ytcfnfphnjkllcaa.Dk
