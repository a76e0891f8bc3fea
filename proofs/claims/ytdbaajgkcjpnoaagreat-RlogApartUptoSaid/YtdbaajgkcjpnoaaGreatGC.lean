/- What a kind of values is, as plain functions (its bytes, what is sound, what is read), and what it means that three function values in memory do just that. Nothing here speaks of one function. | Fields one by one: what a struct's kind does, field for field. Nothing here speaks of one function. | There and back: what is written of a value is read as it, whatever comes behind; nothing else is. Plain facts. -/
import Derived.Test.YtdbaajgkcjpnoaaGreatGB
import Derived.Shelf.Abstract
import Derived.Laws.EntriesVeiled
import Derived.Laws.Tables
/-! What a kind of values is, as plain functions (its bytes, what is sound, what is read), and what it means that three function values in memory do just that. Nothing here speaks of one function. -/
namespace Go.Proofs.YtdbaajgkcjpnoaaGreat.Kd
open Go.RowKit By CoP Co Mo

/-- The cells of block g from o on hold these. -/
def Rd (w : World) (g o : Nat) (vs : List Value) : Prop := ∀ i v, vs[i]? = some v → w.cell? ⟨g, o + i, none⟩ = some v
/-- Blocks that were there; blocks that are new. -/
def Old (w : World) : Nat → Prop := fun b => b < w.heap.size
def New (w w' : World) : Nat → Prop := fun b => w.heap.size ≤ b ∧ b < w'.heap.size
theorem New.mono {w w' a b : World} (h1 : a.heap.size ≤ w.heap.size) (h2 : w'.heap.size ≤ b.heap.size) (q : Nat) (h : New w w' q) : New a b q := ⟨Nat.le_trans h1 h.1, Nat.lt_of_lt_of_le h.2 h2⟩
/-- A row that nothing holds fast. -/
def Free (w : World) (b : Nat) : Prop := ∃ cs t, w.heap[b]? = some (.cells cs t (0, 0))
theorem Free.keep {w w' : World} {b : Nat} (h : Free w b) (e : w'.heap[b]? = w.heap[b]?) : Free w' b := by
  obtain ⟨cs, t, h⟩ := h
  exact ⟨cs, t, e.trans h⟩
/-- New blocks, free ones. -/
def NewF (w w' : World) : Nat → Prop := fun b => New w w' b ∧ Free w' b
theorem NewF.mono {w w' a b : World} (h1 : a.heap.size ≤ w.heap.size) (h2 : w'.heap.size ≤ b.heap.size) (q : Nat) (h : NewF w w' q) (e : b.heap[q]? = w'.heap[q]?) : NewF a b q := ⟨New.mono h1 h2 q h.1, h.2.keep e⟩
theorem New.ne {w w' : World} {q g : Nat} (h : New w w' q) (hg : g < w.heap.size) : some q ≠ some g := fun e => by
  have h1 := Option.some.inj e
  have h2 := h.1
  omega

section
variable {w w' : World} {g o : Nat} {vs a b : List Value} {v : Value}
theorem Rd.nil : Rd w g o [] := fun i v h => by simp at h
theorem Rd.below (h : Rd w g o vs) (hb : Below w.heap.size w w') : Rd w' g o vs := fun i v hv => (hb.cell (p := ⟨g, o + i, none⟩) (block_lt_of_cell (h i v hv))).trans (h i v hv)
theorem Rd.block (h : Rd w g o vs) (hb : w'.heap[g]? = w.heap[g]?) : Rd w' g o vs := fun i v hv => (World.cell?_of_block (w := w) (a := ⟨g, o + i, none⟩) hb).trans (h i v hv)
theorem Rd.part (h : Rd w g o (a ++ b)) : Rd w g (o + a.length) b := fun i v hv => by
  rw [Nat.add_assoc]
  exact h (a.length + i) v (by rw [List.getElem?_append_right (by omega)]; simpa using hv)
theorem Rd.head (h : Rd w g o (a ++ b)) : Rd w g o a := fun i v hv => h i v (by rw [List.getElem?_append_left (List.getElem?_eq_some_iff.1 hv).1]; exact hv)
theorem Rd.row {cs : Array Value} {t : TypeId} {fr : Nat × Nat} (hr : w.heap[g]? = some (.cells cs t fr)) : Rd w g 0 cs.toList := fun i v hv => by
  rw [cell_of_row w g (0 + i) _ _ _ hr, Nat.zero_add]; simpa using hv
theorem Rd.cell (h : Rd w g o (v :: vs)) : w.cell? ⟨g, o, none⟩ = some v := h 0 v rfl
theorem Rd.one {A : Addr} (h : Rd w g o [v]) (e : A = ⟨g, o, none⟩) : w.cell? A = some v := by subst e; exact h.cell
end

/-- A kind of values. -/
structure Kd where
  zero : List Value
  rep : World → (Nat → Prop) → List Value → Data → Prop
  sound : Data → Bool
  put : Data → List UInt8
  get : List UInt8 → Option (Data × Nat)
  fits : Data → Prop
def Kd.size (k : Kd) : Nat := k.zero.length
structure Kd.Ok (k : Kd) : Prop where
  len : ∀ {w S vs d}, k.rep w S vs d → vs.length = k.size
  keep : ∀ {w w' : World} {S S' : Nat → Prop} {vs d}, k.rep w S vs d → (∀ b, S b → w'.heap[b]? = w.heap[b]?) → (∀ b, S b → S' b) → k.rep w' S' vs d
  used : ∀ {b d u}, k.get b = some (d, u) → u ≤ b.length
  one : ∀ {w S vs d}, k.rep w S vs d → ∀ v ∈ vs, v.oneCell' = true
  zone : ∀ v ∈ k.zero, v.oneCell' = true
theorem Kd.Ok.below {k : Kd} (hk : k.Ok) {w w' : World} {vs d} (h : k.rep w (Old w) vs d) (hb : Below w.heap.size w w') : k.rep w' (Old w') vs d :=
  hk.keep h (fun b hB => hb.block b hB) (fun _ hB => Nat.lt_of_lt_of_le hB hb.size)

/-- A slice's bytes, in such blocks. -/
def LiesS (w : World) (S : Nat → Prop) (A : Option Addr) (l : List UInt8) : Prop :=
  0 < l.length → ∃ g o, A = some ⟨g, o, none⟩ ∧ S g ∧ ∀ j x, l[j]? = some x → w.cell? ⟨g, o + j, none⟩ = some (bv x)
theorem LiesS.lies {w : World} {A : Option Addr} {l : List UInt8} (h : LiesS w (Old w) A l) : Lies w w.heap.size A l := h
theorem LiesS.of {w : World} {B : Nat} {A : Option Addr} {l : List UInt8} (h : Lies w B A l) (hB : B ≤ w.heap.size) : LiesS w (Old w) A l := fun hn => by
  obtain ⟨g, o, e, hg, hc⟩ := h hn
  exact ⟨g, o, e, Nat.lt_of_lt_of_le hg hB, hc⟩
theorem LiesS.keep {w w' : World} {S S' : Nat → Prop} {A : Option Addr} {l : List UInt8} (h : LiesS w S A l) (hb : ∀ b, S b → w'.heap[b]? = w.heap[b]?) (hs : ∀ b, S b → S' b) : LiesS w' S' A l := fun hn => by
  obtain ⟨g, o, e, hg, hc⟩ := h hn
  exact ⟨g, o, e, hs g hg, fun j x hx => (World.cell?_of_block (w := w) (a := ⟨g, o + j, none⟩) (hb g hg)).trans (hc j x hx)⟩
theorem LiesS.own {base : Nat} {w : World} {A : Option Addr} {n c : Nat} {l : List UInt8} (h : Own base w (.slice A n c) l) : LiesS w (fun b => base ≤ b ∧ b < w.heap.size) A l := fun hn => by
  have hlt := h.lt
  obtain ⟨A', c', e, _, _, _, hr, _⟩ := h.form
  injection e with e1 e2 e3
  subst e1
  obtain ⟨g, o, e4, hg, hc⟩ := hr hn
  subst e4
  refine ⟨g, o, rfl, ?_, hc⟩
  rcases h.2 with ⟨e5, _⟩ | ⟨g', cap, cur, e5, hb, hk, _⟩
  · cases e5
  · injection e5 with e6 e7 e8
    injection e6 with e6
    injection e6 with e6 _ _
    subst e6
    exact ⟨hb, row_lt hk⟩

theorem LiesS.ownF {base : Nat} {w : World} {A : Option Addr} {n c : Nat} {l : List UInt8} (h : Own base w (.slice A n c) l) : LiesS w (fun b => (base ≤ b ∧ b < w.heap.size) ∧ Free w b) A l := fun hn => by
  have hlt := h.lt
  obtain ⟨A', c', e, _, _, _, hr, _⟩ := h.form
  injection e with e1 e2 e3
  subst e1
  obtain ⟨g, o, e4, hg, hc⟩ := hr hn
  subst e4
  refine ⟨g, o, rfl, ?_, hc⟩
  rcases h.2 with ⟨e5, _⟩ | ⟨g', cap, cur, e5, hb, hk, _⟩
  · cases e5
  · injection e5 with e6 e7 e8
    injection e6 with e6
    injection e6 with e6 _ _
    subst e6
    exact ⟨⟨hb, row_lt hk⟩, _, _, hk⟩

/-- Numbers of 64 bits from lo to hi. -/
def numK (lo hi : Int) : Kd where
  zero := [.int .u64 0]
  rep := fun _ _ vs d => ∃ n : Nat, n < 18446744073709551616 ∧ vs = [.int .u64 (n : Int)] ∧ d = .lit (.int .u64 (n : Int))
  sound := fun d => match d with | .lit (.int .u64 n) => decide (lo ≤ n) && decide (n ≤ hi) | _ => false
  put := fun d => match d with | .lit (.int .u64 n) => putNum n.toNat | _ => []
  get := fun b => if (numR b).2.2 ≠ 0 then none else some (.lit (.int .u64 ((numR b).1 : Nat)), (numR b).2.1)
  fits := fun d => ∃ n : Nat, n < 18446744073709551616 ∧ d = .lit (.int .u64 (n : Int))
/-- Ints from lo to hi. -/
def intK (lo hi : Int) : Kd where
  zero := [.int .i64 0]
  rep := fun _ _ vs d => ∃ z : Int, -9223372036854775808 ≤ z ∧ z ≤ 9223372036854775807 ∧ vs = [.int .i64 z] ∧ d = .lit (.int .i64 z)
  sound := fun d => match d with | .lit (.int .i64 z) => decide (lo ≤ z) && decide (z ≤ hi) | _ => false
  put := fun d => match d with | .lit (.int .i64 z) => putNum (u64N z) | _ => []
  get := fun b => if (numR b).2.2 ≠ 0 then none else some (.lit (.int .i64 (wrap64 ((numR b).1 : Nat))), (numR b).2.1)
  fits := fun d => ∃ z : Int, -9223372036854775808 ≤ z ∧ z ≤ 9223372036854775807 ∧ d = .lit (.int .i64 z)
/-- Truths. -/
def flagK : Kd where
  zero := [.bool false]
  rep := fun _ _ vs d => ∃ b : Bool, vs = [.bool b] ∧ d = .lit (.bool b)
  sound := fun _ => true
  put := fun d => match d with | .lit (.bool b) => putNum (flagN b) | _ => []
  get := fun b => if (numR b).2.2 ≠ 0 ∨ 1 < (numR b).1 then none else some (.lit (.bool (decide ((numR b).1 = 1))), (numR b).2.1)
  fits := fun d => ∃ b : Bool, d = .lit (.bool b)
/-- Lists of at most so many bytes. -/
def bytesK (most : Int) : Kd where
  zero := [.slice none 0 0]
  rep := fun w S vs d => ∃ A c l, vs = [.slice A l.length c] ∧ d = .lit (.string l) ∧ l.length ≤ c ∧ l.length ≤ 140737488355328 ∧ LiesS w S A l
  sound := fun d => match d with | .lit (.string l) => decide ((l.length : Int) ≤ most) | _ => false
  put := fun d => match d with | .lit (.string l) => putBytes l | _ => []
  get := fun b => if (bytesR b).2.2 ≠ 0 then none else some (.lit (.string (bytesR b).1), (bytesR b).2.1)
  fits := fun d => ∃ l, d = .lit (.string l) ∧ l.length ≤ 140737488355328
/-- Texts of at most so many bytes. -/
def textK (most : Int) : Kd where
  zero := [.string (str [])]
  rep := fun _ _ vs d => ∃ l, vs = [.string (str l)] ∧ d = .lit (.string l) ∧ l.length ≤ 140737488355328
  sound := fun d => match d with | .lit (.string l) => decide ((l.length : Int) ≤ most) | _ => false
  put := fun d => match d with | .lit (.string l) => putBytes l | _ => []
  get := fun b => if (bytesR b).2.2 ≠ 0 then none else some (.lit (.string (bytesR b).1), (bytesR b).2.1)
  fits := fun d => ∃ l, d = .lit (.string l) ∧ l.length ≤ 140737488355328
/-- A kind of which nothing is asked. -/
def looseK (k : Kd) : Kd := { k with sound := fun _ => true }
/-- So many, one behind the other. -/
def getMany (k : Kd) : Nat → List UInt8 → Option (List Data × Nat)
  | 0, _ => some ([], 0)
  | n + 1, b => match k.get b with
    | none => none
    | some (d, u) => match getMany k n (b.drop u) with
      | none => none
      | some (ds, v) => some (d :: ds, u + v)
/-- Lists of at most so many. -/
def listK (k : Kd) (most : Int) : Kd where
  zero := [.slice none 0 0]
  rep := fun w S vs d => ∃ A c ds, vs = [.slice A ds.length c] ∧ d = .agg ds ∧ ds.length ≤ c ∧ ds.length ≤ 140737488355328 ∧
    (0 < ds.length → ∃ g o, A = some ⟨g, o, none⟩ ∧ S g ∧ ∀ j d, ds[j]? = some d → ∃ vs, k.rep w S vs d ∧ Rd w g (o + j * k.size) vs)
  sound := fun d => match d with | .agg ds => decide ((ds.length : Int) ≤ most) && ds.all k.sound | _ => false
  put := fun d => match d with | .agg ds => putNum ds.length ++ ds.flatMap k.put | _ => []
  get := fun b => if (numR b).2.2 ≠ 0 ∨ most < ((numR b).1 : Int) then none else (getMany k (numR b).1 (b.drop (numR b).2.1)).map fun p => (.agg p.1, (numR b).2.1 + p.2)
  fits := fun d => ∃ ds, d = .agg ds ∧ (ds.length : Int) ≤ most ∧ ds.length ≤ 140737488355328 ∧ ∀ x ∈ ds, k.fits x

/-- Fields, one behind the other. -/
def zeroAll (ks : List Kd) : List Value := ks.flatMap Kd.zero
def RepAll (w : World) (S : Nat → Prop) : List Kd → List Value → List Data → Prop
  | [], vs, ds => vs = [] ∧ ds = []
  | k :: ks, vs, ds => ∃ v1 v2 d ds2, vs = v1 ++ v2 ∧ ds = d :: ds2 ∧ k.rep w S v1 d ∧ RepAll w S ks v2 ds2
def soundAll : List Kd → List Data → Bool
  | k :: ks, d :: ds => k.sound d && soundAll ks ds
  | _, _ => true
def putsAll : List Kd → List Data → List UInt8
  | k :: ks, d :: ds => k.put d ++ putsAll ks ds
  | _, _ => []
def getAll : List Kd → List UInt8 → Option (List Data × Nat)
  | [], _ => some ([], 0)
  | k :: ks, b => match k.get b with
    | none => none
    | some (d, u) => match getAll ks (b.drop u) with
      | none => none
      | some (ds, v) => some (d :: ds, u + v)
def FitsAll : List Kd → List Data → Prop
  | [], ds => ds = []
  | k :: ks, ds => ∃ d ds2, ds = d :: ds2 ∧ k.fits d ∧ FitsAll ks ds2
/-- Structs of these fields, of which this is asked together. -/
def recK (ks : List Kd) (tied : List Data → Bool) : Kd where
  zero := zeroAll ks
  rep := fun w S vs d => ∃ ds, d = .agg ds ∧ RepAll w S ks vs ds
  sound := fun d => match d with | .agg ds => soundAll ks ds && tied ds | _ => false
  put := fun d => match d with | .agg ds => putsAll ks ds | _ => []
  get := fun b => (getAll ks b).map fun p => (.agg p.1, p.2)
  fits := fun d => ∃ ds, d = .agg ds ∧ FitsAll ks ds

/-! What is the same for all of them. -/
theorem numR_used (b : List UInt8) (h : (numR b).2.2 = 0) : (numR b).2.1 ≤ b.length := (numR_facts b h).1
theorem bytesR_used (b : List UInt8) (h : (bytesR b).2.2 = 0) : (bytesR b).2.1 ≤ b.length := by
  have hf := numR_facts b
  by_cases h1 : (numR b).2.2 = 0
  · by_cases h2 : b.length - (numR b).2.1 < (numR b).1
    · simp [bytesR, h1, h2] at h
    · have := (hf h1).1
      simp only [bytesR, h1, h2, ne_eq, not_true_eq_false, if_false]
      omega
  · simp [bytesR, h1] at h
theorem numK_ok (lo hi : Int) : (numK lo hi).Ok where
  len := by rintro w S vs d ⟨n, _, rfl, _⟩; rfl
  keep := by rintro w w' S S' vs d h _ _; exact h
  used := by
    intro b d u h
    simp only [numK] at h
    split at h
    · cases h
    · rename_i h1
      injection h with h
      injection h with _ h
      rw [← h]
      exact numR_used b (by simpa using h1)
  one := by
    rintro w S vs d ⟨n, _, rfl, _⟩ v hv; simp only [List.mem_singleton] at hv; subst hv; rfl
  zone := by
    intro v hv; simp only [numK, List.mem_singleton] at hv; subst hv; rfl
theorem intK_ok (lo hi : Int) : (intK lo hi).Ok where
  len := by rintro w S vs d ⟨n, _, _, rfl, _⟩; rfl
  keep := by rintro w w' S S' vs d h _ _; exact h
  used := by
    intro b d u h
    simp only [intK] at h
    split at h
    · cases h
    · rename_i h1
      injection h with h
      injection h with _ h
      rw [← h]
      exact numR_used b (by simpa using h1)
  one := by
    rintro w S vs d ⟨n, _, _, rfl, _⟩ v hv; simp only [List.mem_singleton] at hv; subst hv; rfl
  zone := by
    intro v hv; simp only [intK, List.mem_singleton] at hv; subst hv; rfl
theorem flagK_ok : flagK.Ok where
  len := by rintro w S vs d ⟨b, rfl, _⟩; rfl
  keep := by rintro w w' S S' vs d h _ _; exact h
  used := by
    intro b d u h
    simp only [flagK] at h
    split at h
    · cases h
    · rename_i h1
      injection h with h
      injection h with _ h
      rw [← h]
      exact numR_used b (by simp only [not_or, ne_eq, Decidable.not_not] at h1; exact h1.1)
  one := by
    rintro w S vs d ⟨b, rfl, _⟩ v hv; simp only [List.mem_singleton] at hv; subst hv; rfl
  zone := by
    intro v hv; simp only [flagK, List.mem_singleton] at hv; subst hv; rfl
theorem bytesK_ok (most : Int) : (bytesK most).Ok where
  len := by rintro w S vs d ⟨_, _, _, rfl, _⟩; rfl
  keep := by
    rintro w w' S S' vs d ⟨A, c, l, h1, h2, h3, h4, h5⟩ hb hs
    exact ⟨A, c, l, h1, h2, h3, h4, h5.keep hb hs⟩
  used := by
    intro b d u h
    simp only [bytesK] at h
    split at h
    · cases h
    · rename_i h1
      injection h with h
      injection h with _ h
      rw [← h]
      exact bytesR_used b (by simpa using h1)
  one := by
    rintro w S vs d ⟨_, _, _, rfl, _⟩ v hv; simp only [List.mem_singleton] at hv; subst hv; rfl
  zone := by
    intro v hv; simp only [bytesK, List.mem_singleton] at hv; subst hv; rfl
theorem textK_ok (most : Int) : (textK most).Ok where
  len := by rintro w S vs d ⟨_, rfl, _⟩; rfl
  keep := by rintro w w' S S' vs d h _ _; exact h
  used := by
    intro b d u h
    simp only [textK] at h
    split at h
    · cases h
    · rename_i h1
      injection h with h
      injection h with _ h
      rw [← h]
      exact bytesR_used b (by simpa using h1)
  one := by
    rintro w S vs d ⟨_, rfl, _⟩ v hv; simp only [List.mem_singleton] at hv; subst hv; rfl
  zone := by
    intro v hv; simp only [textK, List.mem_singleton] at hv; subst hv; rfl
theorem looseK_ok {k : Kd} (h : k.Ok) : (looseK k).Ok := ⟨h.len, h.keep, h.used, h.one, h.zone⟩
theorem getMany_used {k : Kd} (hk : k.Ok) : ∀ (n : Nat) (b : List UInt8) {ds u}, getMany k n b = some (ds, u) → u ≤ b.length ∧ ds.length = n := by
  intro n
  induction n with
  | zero => intro b ds u h; simp only [getMany] at h; injection h with h; injection h with h1 h2; subst h1 h2; exact ⟨by omega, rfl⟩
  | succ n ih =>
    intro b ds u h
    simp only [getMany] at h
    split at h
    · cases h
    · rename_i d u1 h1
      split at h
      · cases h
      · rename_i ds2 v h2
        injection h with h
        injection h with h3 h4
        have := hk.used h1
        have h5 := ih _ h2
        rw [List.length_drop] at h5
        subst h3 h4
        exact ⟨by omega, by rw [List.length_cons]; omega⟩
theorem listK_ok {k : Kd} (hk : k.Ok) (most : Int) : (listK k most).Ok where
  len := by rintro w S vs d ⟨_, _, _, rfl, _⟩; rfl
  keep := by
    rintro w w' S S' vs d ⟨A, c, ds, h1, h2, h3, h4, h5⟩ hb hs
    refine ⟨A, c, ds, h1, h2, h3, h4, fun hn => ?_⟩
    obtain ⟨g, o, e, hg, hc⟩ := h5 hn
    refine ⟨g, o, e, hs g hg, fun j d hd => ?_⟩
    obtain ⟨vs, h6, h7⟩ := hc j d hd
    exact ⟨vs, hk.keep h6 hb hs, h7.block (hb g hg)⟩
  used := by
    intro b d u h
    simp only [listK] at h
    split at h
    · cases h
    · rename_i h1
      simp only [not_or, ne_eq, Decidable.not_not] at h1
      have hn := numR_used b h1.1
      simp only [Option.map_eq_some_iff] at h
      obtain ⟨⟨ds, v⟩, h2, h3⟩ := h
      injection h3 with _ h3
      have := (getMany_used hk _ _ h2).1
      rw [List.length_drop] at this
      simp only at h3
      omega
  one := by
    rintro w S vs d ⟨_, _, _, rfl, _⟩ v hv; simp only [List.mem_singleton] at hv; subst hv; rfl
  zone := by
    intro v hv; simp only [listK, List.mem_singleton] at hv; subst hv; rfl
theorem getAll_used : ∀ (ks : List Kd) (_ : ∀ k ∈ ks, k.Ok) (b : List UInt8) {ds u}, getAll ks b = some (ds, u) → u ≤ b.length ∧ ds.length = ks.length := by
  intro ks
  induction ks with
  | nil => intro _ b ds u h; simp only [getAll] at h; injection h with h; injection h with h1 h2; subst h1 h2; exact ⟨by omega, rfl⟩
  | cons k ks ih =>
    intro hk b ds u h
    simp only [getAll] at h
    split at h
    · cases h
    · rename_i d u1 h1
      split at h
      · cases h
      · rename_i ds2 v h2
        injection h with h
        injection h with h3 h4
        have := (hk k List.mem_cons_self).used h1
        have h5 := ih (fun k' h' => hk k' (List.mem_cons_of_mem _ h')) _ h2
        rw [List.length_drop] at h5
        subst h3 h4
        exact ⟨by omega, by simp only [List.length_cons]; omega⟩
theorem RepAll.len {w : World} {S : Nat → Prop} : ∀ {ks : List Kd} (_ : ∀ k ∈ ks, k.Ok) {vs ds}, RepAll w S ks vs ds → vs.length = (zeroAll ks).length ∧ ds.length = ks.length := by
  intro ks
  induction ks with
  | nil => rintro _ vs ds ⟨rfl, rfl⟩; exact ⟨rfl, rfl⟩
  | cons k ks ih =>
    rintro hk vs ds ⟨v1, v2, d, ds2, rfl, rfl, h1, h2⟩
    have h3 := (hk k List.mem_cons_self).len h1
    have h4 := ih (fun k' h' => hk k' (List.mem_cons_of_mem _ h')) h2
    simp only [zeroAll, List.flatMap_cons, List.length_append, List.length_cons] at h4 ⊢
    unfold Kd.size at h3
    exact ⟨by omega, by omega⟩
theorem RepAll.keep {w w' : World} {S S' : Nat → Prop} : ∀ {ks : List Kd} (_ : ∀ k ∈ ks, k.Ok) {vs ds}, RepAll w S ks vs ds → (∀ b, S b → w'.heap[b]? = w.heap[b]?) → (∀ b, S b → S' b) → RepAll w' S' ks vs ds := by
  intro ks
  induction ks with
  | nil => intro _ vs ds h _ _; exact h
  | cons k ks ih =>
    rintro hk vs ds ⟨v1, v2, d, ds2, h1, h2, h3, h4⟩ hb hs
    exact ⟨v1, v2, d, ds2, h1, h2, (hk k List.mem_cons_self).keep h3 hb hs, ih (fun k' h' => hk k' (List.mem_cons_of_mem _ h')) h4 hb hs⟩
theorem RepAll.one {w : World} {S : Nat → Prop} : ∀ {ks : List Kd} (_ : ∀ k ∈ ks, k.Ok) {vs ds}, RepAll w S ks vs ds → ∀ v ∈ vs, v.oneCell' = true := by
  intro ks
  induction ks with
  | nil => rintro _ vs ds ⟨rfl, rfl⟩ v hv; simp at hv
  | cons k ks ih =>
    rintro hk vs ds ⟨v1, v2, d, ds2, rfl, rfl, h1, h2⟩ v hv
    rcases List.mem_append.1 hv with hv | hv
    · exact (hk k List.mem_cons_self).one h1 v hv
    · exact ih (fun k' h' => hk k' (List.mem_cons_of_mem _ h')) h2 v hv
theorem recK_ok {ks : List Kd} (hk : ∀ k ∈ ks, k.Ok) (t : List Data → Bool) : (recK ks t).Ok where
  len := by rintro w S vs d ⟨ds, _, h⟩; exact (h.len hk).1
  keep := by rintro w w' S S' vs d ⟨ds, h1, h⟩ hb hs; exact ⟨ds, h1, h.keep hk hb hs⟩
  used := by
    intro b d u h
    simp only [recK, Option.map_eq_some_iff] at h
    obtain ⟨⟨ds, v⟩, h2, h3⟩ := h
    injection h3 with _ h3
    have := (getAll_used ks hk _ h2).1
    simp only at h3
    omega
  one := by
    rintro w S vs d ⟨ds, _, h⟩
    exact RepAll.one hk h
  zone := by
    intro v hv
    simp only [recK, zeroAll, List.mem_flatMap] at hv
    obtain ⟨k, h1, h2⟩ := hv
    exact (hk k h1).zone v h2

/-! In memory. -/
/-- Says a truth; old memory as it was. -/
def Says (b : Bool) (w : World) (e : Ending) (w' : World) : Prop := e = .returned (.bool b) ∧ Below w.heap.size w w'
/-- The cells with these put in at p. -/
def splice (cs : List Value) (p : Nat) (vs : List Value) : List Value := cs.take p ++ (vs ++ cs.drop (p + vs.length))
/-- What is read into the cells of block g from p on. -/
def Got (k : Kd) (b : List UInt8) (at_ g p : Nat) (cs : List Value) (ty : TypeId) (w : World) (e : Ending) (w' : World) : Prop :=
  w.grownBy w' (some g) ∧ ((k.get (b.drop at_) = none ∧ ∃ N : Int, e = .returned (.tuple #[.int .i64 N, .bool false])) ∨
    ∃ d used vs, k.get (b.drop at_) = some (d, used) ∧ e = .returned (.tuple #[.int .i64 ((at_ + used : Nat) : Int), .bool true]) ∧
      w'.heap[g]? = some (.cells (splice cs p vs).toArray ty (0, 0)) ∧ k.rep w' (NewF w w') vs d)
/-- What is left in block g, if something was read. -/
def Filled (k : Kd) (d : Data) (g p : Nat) (cs : List Value) (ty : TypeId) (w w' : World) : Prop :=
  w.grownBy w' (some g) ∧ ∃ vs, w'.heap[g]? = some (.cells (splice cs p vs).toArray ty (0, 0)) ∧ k.rep w' (NewF w w') vs d
theorem Got.fails {k : Kd} {b : List UInt8} {at_ g p : Nat} {cs : List Value} {ty : TypeId} {w w' : World} {e : Ending} (h : Got k b at_ g p cs ty w e w') (hq : k.get (b.drop at_) = none) : ∃ N : Int, e = .returned (.tuple #[.int .i64 N, .bool false]) ∧ w.grownBy w' (some g) := by
  rcases h with ⟨h0, ⟨_, N, h1⟩ | ⟨d, u, vs, h1, _⟩⟩
  · exact ⟨N, h1, h0⟩
  · rw [hq] at h1; cases h1
theorem Got.gives {k : Kd} {b : List UInt8} {at_ g p : Nat} {cs : List Value} {ty : TypeId} {w w' : World} {e : Ending} {d : Data} {used : Nat} (h : Got k b at_ g p cs ty w e w') (hq : k.get (b.drop at_) = some (d, used)) :
    e = .returned (.tuple #[.int .i64 ((at_ + used : Nat) : Int), .bool true]) ∧ Filled k d g p cs ty w w' := by
  rcases h with ⟨h0, ⟨h1, _⟩ | ⟨d', u, vs, h1, h2, h3, h4⟩⟩
  · rw [hq] at h1; cases h1
  · rw [hq] at h1
    injection h1 with h1
    injection h1 with h1 h5
    subst h1 h5
    exact ⟨h2, h0, vs, h3, h4⟩
theorem Got.ofNone {k : Kd} {b : List UInt8} {at_ g p : Nat} {cs : List Value} {ty : TypeId} {w w' : World} {N : Int} (hq : k.get (b.drop at_) = none) (h : w.grownBy w' (some g)) : Got k b at_ g p cs ty w (.returned (.tuple #[.int .i64 N, .bool false])) w' :=
  ⟨h, .inl ⟨hq, N, rfl⟩⟩
theorem Got.ofSome {k : Kd} {b : List UInt8} {at_ g p : Nat} {cs : List Value} {ty : TypeId} {w w' : World} {d : Data} {used : Nat} (hq : k.get (b.drop at_) = some (d, used)) (h : Filled k d g p cs ty w w') : Got k b at_ g p cs ty w (.returned (.tuple #[.int .i64 ((at_ + used : Nat) : Int), .bool true])) w' := by
  obtain ⟨h0, vs, h1, h2⟩ := h
  exact ⟨h0, .inr ⟨d, used, vs, hq, rfl, h1, h2⟩⟩
theorem below_undrew {w w' : World} (h : Below w.drew.heap.size w.drew w') : Below w.heap.size w w' := ⟨h.os, h.tape, h.output, h.size, h.block⟩
theorem grown_undrew {w w' : World} {r : Option Nat} (h : w.drew.grownBy w' r) : w.grownBy w' r := ⟨h.os, h.tape, h.output, h.size, h.block⟩
theorem Filled.undrew {k : Kd} {d : Data} {g p : Nat} {cs : List Value} {ty : TypeId} {w w' : World} (h : Filled k d g p cs ty w.drew w') : Filled k d g p cs ty w w' := by
  obtain ⟨h0, vs, h1, h2⟩ := h
  exact ⟨grown_undrew h0, vs, h1, h2⟩
theorem Got.tell {k : Kd} {b : List UInt8} {at_ g p : Nat} {cs : List Value} {ty : TypeId} {w w' : World} {e : Ending} (h : Got k b at_ g p cs ty w e w') :
    ∃ (N : Int) (ok : Bool), e = .returned (.tuple #[.int .i64 N, .bool ok]) ∧ Got k b at_ g p cs ty w (.returned (.tuple #[.int .i64 N, .bool ok])) w' := by
  have h' := h
  rcases h with ⟨_, ⟨_, N, rfl⟩ | ⟨d, u, vs, _, rfl, _⟩⟩
  · exact ⟨_, _, rfl, h'⟩
  · exact ⟨_, _, rfl, h'⟩
theorem Got.undrew {k : Kd} {b : List UInt8} {at_ g p : Nat} {cs : List Value} {ty : TypeId} {w w' : World} {e : Ending} (h : Got k b at_ g p cs ty w.drew e w') : Got k b at_ g p cs ty w e w' := by
  obtain ⟨h0, h1⟩ := h
  exact ⟨grown_undrew h0, h1⟩
/-- Blocks from L on are as they were. -/
structure Keeps (L : Nat) (W w : World) : Prop where
  os : w.os = W.os
  tape : w.tape = W.tape
  output : w.output = W.output
  size : W.heap.size ≤ w.heap.size
  block : ∀ k, L ≤ k → k < W.heap.size → w.heap[k]? = W.heap[k]?
theorem keeps_of {L : Nat} {W w : World} (h : Below W.heap.size W w) : Keeps L W w := ⟨h.os, h.tape, h.output, h.size, fun k _ hk => h.block k hk⟩
theorem Keeps.drew {L : Nat} {W w : World} (h : Keeps L W w) : Keeps L W w.drew := ⟨h.os, h.tape, h.output, h.size, h.block⟩
theorem keeps_ext {L : Nat} {W w w' : World} (h : Keeps L W w) (hb : Below w.heap.size w w') : Keeps L W w' :=
  ⟨hb.os.trans h.os, hb.tape.trans h.tape, hb.output.trans h.output, Nat.le_trans h.size hb.size, fun k hL hk => (hb.block k (Nat.lt_of_lt_of_le hk h.size)).trans (h.block k hL hk)⟩
theorem below_keeps {L : Nat} {W W' w : World} (h : Below W.heap.size W W') (hb : Keeps L W' w) : Keeps L W w :=
  ⟨hb.os.trans h.os, hb.tape.trans h.tape, hb.output.trans h.output, Nat.le_trans h.size hb.size, fun k hL hk => (hb.block k hL (Nat.lt_of_lt_of_le hk h.size)).trans (h.block k hk)⟩
theorem Keeps.grown {L : Nat} {W w w' : World} {row : Option Nat} (h : Keeps L W w) (hg : w.grownBy w' row) (_ : W.heap.size ≤ w.heap.size) (hr : ∀ k, row = some k → W.heap.size ≤ k) : Keeps L W w' :=
  ⟨hg.os.trans h.os, hg.tape.trans h.tape, hg.output.trans h.output, Nat.le_trans h.size hg.size, fun k hL hk => (hg.block k (Nat.lt_of_lt_of_le hk h.size) (fun e => by have := hr k e.symm; omega)).trans (h.block k hL hk)⟩
theorem Keeps.more {L L' : Nat} {W w : World} (h : Keeps L W w) (hl : L ≤ L') : Keeps L' W w := ⟨h.os, h.tape, h.output, h.size, fun k hL hk => h.block k (Nat.le_trans hl hL) hk⟩
/-- A store below L is not seen. -/
theorem Keeps.unset {L : Nat} {W w : World} {g : Nat} {cs : Array Value} (hg : g < L) (h : Keeps L (W.setRow g cs) w) : Keeps L W w :=
  ⟨h.os, h.tape, h.output, by have := h.size; rwa [size_setRow] at this, fun k hL hk => (h.block k hL (by rw [size_setRow]; exact hk)).trans (setRow_other W g k cs (by omega))⟩
/-- The function value tells whether the value at a pointer, off cells on, is sound. -/
def SoundAt (L : Nat) (W : World) (fv : Value) (off : Nat) (k : Kd) : Prop := ∃ f cap, fv = .func (.func f) #[] cap ∧ Enters Tryz.prog f ∧ ∀ w, Keeps L W w → ∀ g o vs d, Rd w g (o + off) vs → k.rep w (Old w) vs d →
  Calls Tryz.prog f (#[.pointer (some ⟨g, o, none⟩)] ++ cap) w (Says (k.sound d) w)
/-- .. gives its bytes. -/
def PutAt (L : Nat) (W : World) (fv : Value) (off : Nat) (k : Kd) : Prop := ∃ f cap, fv = .func (.func f) #[] cap ∧ Enters Tryz.prog f ∧ ∀ w, Keeps L W w → ∀ g o vs d, Rd w g (o + off) vs → k.rep w (Old w) vs d →
  (k.put d).length + 9 ≤ 140737488355328 → Calls Tryz.prog f (#[.pointer (some ⟨g, o, none⟩)] ++ cap) w (Gives w.heap.size (k.put d) w)
/-- .. reads it. -/
def GetAt (L : Nat) (W : World) (fv : Value) (off : Nat) (k : Kd) : Prop := ∃ f cap, fv = .func (.func f) #[] cap ∧ Enters Tryz.prog f ∧ ∀ w, Keeps L W w → ∀ (g o : Nat) (cs : List Value) (ty : TypeId) (B : Nat) (A : Option Addr) (n c at_ : Nat) (b : List UInt8),
  W.heap.size ≤ g → w.heap[g]? = some (.cells cs.toArray ty (0, 0)) → o + off + k.size ≤ cs.length → (cs.drop (o + off)).take k.size = k.zero → n = b.length → n ≤ c → n ≤ 140737488355328 → Lies w B A b → B ≤ g → at_ ≤ n →
  Calls Tryz.prog f (#[.pointer (some ⟨g, o, none⟩), .slice A n c, .int .i64 (at_ : Nat)] ++ cap) w (Got k b at_ g (o + off) cs ty w)
/-- All three. -/
structure KindAt (L : Nat) (W : World) (f1 f2 f3 : Value) (off : Nat) (k : Kd) : Prop where
  ok : k.Ok
  s : SoundAt L W f1 off k
  p : PutAt L W f2 off k
  g : GetAt L W f3 off k
theorem SoundAt.later {L : Nat} {W W' : World} {fv : Value} {off : Nat} {k : Kd} (h : SoundAt L W fv off k) (hb : Below W.heap.size W W') : SoundAt L W' fv off k := by
  obtain ⟨f, cap, e, he, h⟩ := h
  exact ⟨f, cap, e, he, fun w hw => h w (below_keeps hb hw)⟩
theorem PutAt.later {L : Nat} {W W' : World} {fv : Value} {off : Nat} {k : Kd} (h : PutAt L W fv off k) (hb : Below W.heap.size W W') : PutAt L W' fv off k := by
  obtain ⟨f, cap, e, he, h⟩ := h
  exact ⟨f, cap, e, he, fun w hw => h w (below_keeps hb hw)⟩
theorem GetAt.later {L : Nat} {W W' : World} {fv : Value} {off : Nat} {k : Kd} (h : GetAt L W fv off k) (hb : Below W.heap.size W W') : GetAt L W' fv off k := by
  obtain ⟨f, cap, e, he, h⟩ := h
  exact ⟨f, cap, e, he, fun w hw g o cs ty B A n c at_ b hg => h w (below_keeps hb hw) g o cs ty B A n c at_ b (Nat.le_trans hb.size hg)⟩
theorem KindAt.later {L : Nat} {W W' : World} {f1 f2 f3 : Value} {off : Nat} {k : Kd} (h : KindAt L W f1 f2 f3 off k) (hb : Below W.heap.size W W') : KindAt L W' f1 f2 f3 off k := ⟨h.ok, h.s.later hb, h.p.later hb, h.g.later hb⟩
/-- The function value goes from a struct's pointer to its field's. -/
def OfAt (fv : Value) (off : Nat) : Prop := ∃ f, fv = .func (.func f) #[] #[] ∧ Enters Tryz.prog f ∧ ∀ w g o, Calls Tryz.prog f #[.pointer (some ⟨g, o, none⟩)] w (fun e w' => e = .returned (.pointer (some ⟨g, o + off, none⟩)) ∧ w' = w)
/-- The function value tells what is asked of a struct's fields together. -/
def TiedAt (L : Nat) (W : World) (fv : Value) (ks : List Kd) (t : List Data → Bool) : Prop := ∃ f cap, fv = .func (.func f) #[] cap ∧ Enters Tryz.prog f ∧ ∀ w, Keeps L W w → ∀ g o vs ds, Rd w g o vs → RepAll w (Old w) ks vs ds →
  Calls Tryz.prog f (#[.pointer (some ⟨g, o, none⟩)] ++ cap) w (Says (t ds) w)
theorem TiedAt.later {L : Nat} {W W' : World} {fv : Value} {ks : List Kd} {t : List Data → Bool} (h : TiedAt L W fv ks t) (hb : Below W.heap.size W W') : TiedAt L W' fv ks t := by
  obtain ⟨f, cap, e, he, h⟩ := h
  exact ⟨f, cap, e, he, fun w hw => h w (below_keeps hb hw)⟩
theorem SoundAt.unset {L : Nat} {W : World} {fv : Value} {off g : Nat} {k : Kd} {cs : Array Value} (hg : g < L) (h : SoundAt L W fv off k) : SoundAt L (W.setRow g cs) fv off k := by
  obtain ⟨f, cap, e, he, h⟩ := h
  exact ⟨f, cap, e, he, fun w hw => h w (hw.unset hg)⟩
theorem PutAt.unset {L : Nat} {W : World} {fv : Value} {off g : Nat} {k : Kd} {cs : Array Value} (hg : g < L) (h : PutAt L W fv off k) : PutAt L (W.setRow g cs) fv off k := by
  obtain ⟨f, cap, e, he, h⟩ := h
  exact ⟨f, cap, e, he, fun w hw => h w (hw.unset hg)⟩
theorem GetAt.unset {L : Nat} {W : World} {fv : Value} {off g : Nat} {k : Kd} {cs : Array Value} (hg : g < L) (h : GetAt L W fv off k) : GetAt L (W.setRow g cs) fv off k := by
  obtain ⟨f, cap, e, he, h⟩ := h
  exact ⟨f, cap, e, he, fun w hw g' o cs' ty B A n c at_ b hg' => h w (hw.unset hg) g' o cs' ty B A n c at_ b (by rwa [size_setRow] at hg')⟩
theorem KindAt.unset {L : Nat} {W : World} {f1 f2 f3 : Value} {off g : Nat} {k : Kd} {cs : Array Value} (hg : g < L) (h : KindAt L W f1 f2 f3 off k) : KindAt L (W.setRow g cs) f1 f2 f3 off k := ⟨h.ok, h.s.unset hg, h.p.unset hg, h.g.unset hg⟩
theorem KindAt.less {L L' : Nat} {W : World} {f1 f2 f3 : Value} {off : Nat} {k : Kd} (hl : L' ≤ L) (h : KindAt L W f1 f2 f3 off k) : KindAt L' W f1 f2 f3 off k := by
  obtain ⟨h0, ⟨f, cap, e, he, h1⟩, ⟨f', cap', e', he', h2⟩, ⟨f'', cap'', e'', he'', h3⟩⟩ := h
  exact ⟨h0, ⟨f, cap, e, he, fun w hw => h1 w (hw.more hl)⟩, ⟨f', cap', e', he', fun w hw => h2 w (hw.more hl)⟩, ⟨f'', cap'', e'', he'', fun w hw => h3 w (hw.more hl)⟩⟩
/-- Makes a kind: three function values. -/
def Makes (L : Nat) (k : Kd) (off : Nat) (w : World) (e : Ending) (w' : World) : Prop := ∃ f1 f2 f3, e = .returned (.agg #[f1, f2, f3]) ∧ KindAt L w' f1 f2 f3 off k ∧ Below w.heap.size w w'
/-- The kinds of a struct's fields, three function values each. -/
def FieldsAt (L : Nat) (W : World) : List Kd → Nat → List Value → Prop
  | [], _, fs => fs = []
  | k :: ks, off, fs => ∃ f1 f2 f3 r, fs = f1 :: f2 :: f3 :: r ∧ KindAt L W f1 f2 f3 off k ∧ FieldsAt L W ks (off + k.size) r
theorem FieldsAt.later {L : Nat} {W W' : World} (hb : Below W.heap.size W W') : ∀ {ks : List Kd} {off : Nat} {fs : List Value}, FieldsAt L W ks off fs → FieldsAt L W' ks off fs := by
  intro ks
  induction ks with
  | nil => intro off fs h; exact h
  | cons k ks ih => rintro off fs ⟨f1, f2, f3, r, e, h1, h2⟩; exact ⟨f1, f2, f3, r, e, h1.later hb, ih h2⟩
end Go.Proofs.YtdbaajgkcjpnoaaGreat.Kd

/-! Fields one by one: what a struct's kind does, field for field. Nothing here speaks of one function. -/
namespace Go.Proofs.YtdbaajgkcjpnoaaGreat.Kd
open Go.RowKit By CoP Co Mo

theorem zeroAll_split (ks : List Kd) (i : Nat) (hi : i < ks.length) : zeroAll ks = zeroAll (ks.take i) ++ (ks[i].zero ++ zeroAll (ks.drop (i + 1))) := by
  have h : ks = ks.take i ++ (ks[i] :: ks.drop (i + 1)) := by rw [← List.drop_eq_getElem_cons hi, List.take_append_drop]
  refine (congrArg zeroAll h).trans ?_
  simp only [zeroAll, List.flatMap_append, List.flatMap_cons]
/-- Where field i begins. -/
def offAt (ks : List Kd) (i : Nat) : Nat := (zeroAll (ks.take i)).length
theorem offAt_zero (ks : List Kd) : offAt ks 0 = 0 := by simp [offAt, zeroAll]
theorem offAt_succ (ks : List Kd) (i : Nat) (hi : i < ks.length) : offAt ks (i + 1) = offAt ks i + ks[i].size := by
  unfold offAt Kd.size
  rw [List.take_succ_eq_append_getElem hi]
  simp only [zeroAll, List.flatMap_append, List.flatMap_cons, List.flatMap_nil, List.append_nil, List.length_append]
theorem offAt_le (ks : List Kd) (i : Nat) (hi : i < ks.length) : offAt ks i + ks[i].size ≤ (zeroAll ks).length := by
  rw [zeroAll_split ks i hi]
  unfold offAt Kd.size
  simp only [List.length_append]
  omega
theorem offAt_all (ks : List Kd) : offAt ks ks.length = (zeroAll ks).length := by simp [offAt]

theorem FieldsAt.at_ {L : Nat} {W : World} : ∀ {ks : List Kd} {off : Nat} {fs : List Value}, FieldsAt L W ks off fs → ∀ (i : Nat) (hi : i < ks.length), ∃ f1 f2 f3, fs[i * 3]? = some f1 ∧ fs[i * 3 + 1]? = some f2 ∧ fs[i * 3 + 2]? = some f3 ∧ KindAt L W f1 f2 f3 (off + offAt ks i) ks[i] := by
  intro ks
  induction ks with
  | nil => intro off fs _ i hi; simp at hi
  | cons k ks ih =>
    rintro off fs ⟨f1, f2, f3, r, rfl, h1, h2⟩ i hi
    cases i with
    | zero => exact ⟨f1, f2, f3, rfl, rfl, rfl, by rw [offAt_zero]; exact h1⟩
    | succ i =>
      obtain ⟨g1, g2, g3, e1, e2, e3, h3⟩ := ih h2 i (by simpa using hi)
      refine ⟨g1, g2, g3, ?_, ?_, ?_, ?_⟩
      · rw [show (i + 1) * 3 = i * 3 + 1 + 1 + 1 by omega]; simpa using e1
      · rw [show (i + 1) * 3 + 1 = i * 3 + 1 + 1 + 1 + 1 by omega]; simpa using e2
      · rw [show (i + 1) * 3 + 2 = i * 3 + 2 + 1 + 1 + 1 by omega]; simpa using e3
      · have e : off + offAt (k :: ks) (i + 1) = off + k.size + offAt ks i := by simp [offAt, zeroAll, Kd.size]; omega
        rw [e]
        exact h3
theorem FieldsAt.len {L : Nat} {W : World} : ∀ {ks : List Kd} {off : Nat} {fs : List Value}, FieldsAt L W ks off fs → fs.length = ks.length * 3 := by
  intro ks
  induction ks with
  | nil => intro off fs h; rw [show fs = [] from h]; rfl
  | cons k ks ih =>
    rintro off fs ⟨f1, f2, f3, r, rfl, _, h2⟩
    have := ih h2
    simp only [List.length_cons]
    omega
theorem RepAll.at_ {w : World} {S : Nat → Prop} : ∀ {ks : List Kd} (_ : ∀ k ∈ ks, k.Ok) {vs : List Value} {ds : List Data}, RepAll w S ks vs ds → ∀ (i : Nat) (hi : i < ks.length), ∃ d a v b, ds[i]? = some d ∧ vs = a ++ (v ++ b) ∧ a.length = offAt ks i ∧ ks[i].rep w S v d := by
  intro ks
  induction ks with
  | nil => intro _ vs ds _ i hi; simp at hi
  | cons k ks ih =>
    rintro hk vs ds ⟨v1, v2, d, ds2, rfl, rfl, h1, h2⟩ i hi
    cases i with
    | zero => exact ⟨d, [], v1, v2, rfl, rfl, by rw [offAt_zero]; rfl, h1⟩
    | succ i =>
      obtain ⟨d', a, v, b, e1, e2, e3, h3⟩ := ih (fun k' h' => hk k' (List.mem_cons_of_mem _ h')) h2 i (by simpa using hi)
      have hl := (hk k List.mem_cons_self).len h1
      refine ⟨d', v1 ++ a, v, b, by simpa using e1, by rw [e2, List.append_assoc], ?_, h3⟩
      rw [List.length_append, e3, hl]
      simp [offAt, zeroAll, Kd.size]
theorem RepAll.rd {w : World} {g o : Nat} {S : Nat → Prop} {ks : List Kd} (hk : ∀ k ∈ ks, k.Ok) {vs : List Value} {ds : List Data} (h : RepAll w S ks vs ds) (hr : Rd w g o vs) (i : Nat) (hi : i < ks.length) :
    ∃ d v, ds[i]? = some d ∧ Rd w g (o + offAt ks i) v ∧ ks[i].rep w S v d := by
  obtain ⟨d, a, v, b, e1, rfl, e3, h3⟩ := h.at_ hk i hi
  refine ⟨d, v, e1, ?_, h3⟩
  rw [← e3]
  exact hr.part.head
theorem RepAll.snoc {w : World} {S : Nat → Prop} {k : Kd} {v : List Value} {d : Data} (hv : k.rep w S v d) : ∀ {ks : List Kd} {vs : List Value} {ds : List Data}, RepAll w S ks vs ds → RepAll w S (ks ++ [k]) (vs ++ v) (ds ++ [d]) := by
  intro ks
  induction ks with
  | nil => rintro vs ds ⟨rfl, rfl⟩; exact ⟨v, [], d, [], by simp, rfl, hv, rfl, rfl⟩
  | cons k0 ks ih =>
    rintro vs ds ⟨v1, v2, d1, ds2, rfl, rfl, h1, h2⟩
    exact ⟨v1, v2 ++ v, d1, ds2 ++ [d], by rw [List.append_assoc], rfl, h1, ih h2⟩
theorem RepAll.next {w : World} {S : Nat → Prop} {ks : List Kd} {i : Nat} (hi : i < ks.length) {v : List Value} {d : Data} (hv : ks[i].rep w S v d) {vs : List Value} {ds : List Data} (h : RepAll w S (ks.take i) vs ds) : RepAll w S (ks.take (i + 1)) (vs ++ v) (ds ++ [d]) := by
  rw [List.take_succ_eq_append_getElem hi]
  exact h.snoc hv
theorem soundAll_drop {ks : List Kd} {ds : List Data} {i : Nat} {d : Data} (hi : i < ks.length) (hd : ds[i]? = some d) : soundAll (ks.drop i) (ds.drop i) = (ks[i].sound d && soundAll (ks.drop (i + 1)) (ds.drop (i + 1))) := by
  obtain ⟨h1, rfl⟩ := List.getElem?_eq_some_iff.1 hd
  rw [List.drop_eq_getElem_cons hi, List.drop_eq_getElem_cons h1]
  rfl
theorem putsAll_drop {ks : List Kd} {ds : List Data} {i : Nat} {d : Data} (hi : i < ks.length) (hd : ds[i]? = some d) : putsAll (ks.drop i) (ds.drop i) = ks[i].put d ++ putsAll (ks.drop (i + 1)) (ds.drop (i + 1)) := by
  obtain ⟨h1, rfl⟩ := List.getElem?_eq_some_iff.1 hd
  rw [List.drop_eq_getElem_cons hi, List.drop_eq_getElem_cons h1]
  rfl
theorem soundAll_end (ks : List Kd) (ds : List Data) : soundAll (ks.drop ks.length) ds = true := by rw [List.drop_length]; simp [soundAll]
theorem putsAll_end (ks : List Kd) (ds : List Data) : putsAll (ks.drop ks.length) ds = [] := by rw [List.drop_length]; simp [putsAll]
theorem getAll_drop {ks : List Kd} {i : Nat} (hi : i < ks.length) (b : List UInt8) : getAll (ks.drop i) b = (match ks[i].get b with
    | none => none
    | some (d, u) => match getAll (ks.drop (i + 1)) (b.drop u) with
      | none => none
      | some (ds, v) => some (d :: ds, u + v)) := by
  rw [List.drop_eq_getElem_cons hi]
  rfl
/-- What is read of all fields, when some have been read. -/
def Conts (ks : List Kd) (b : List UInt8) (i : Nat) (ds : List Data) (u : Nat) : Prop := getAll ks b = (getAll (ks.drop i) (b.drop u)).map fun p => (ds ++ p.1, u + p.2)
theorem Conts.start (ks : List Kd) (b : List UInt8) : Conts ks b 0 [] 0 := by
  unfold Conts
  simp only [List.drop_zero, List.nil_append, Nat.zero_add]
  cases getAll ks b <;> rfl
theorem Conts.fails {ks : List Kd} {b : List UInt8} {i u : Nat} {ds : List Data} (h : Conts ks b i ds u) (hi : i < ks.length) (hg : ks[i].get (b.drop u) = none) : getAll ks b = none := by
  unfold Conts at h
  rw [h, getAll_drop hi, hg]
  rfl
theorem Conts.next {ks : List Kd} {b : List UInt8} {i u v : Nat} {ds : List Data} {d : Data} (h : Conts ks b i ds u) (hi : i < ks.length) (hg : ks[i].get (b.drop u) = some (d, v)) : Conts ks b (i + 1) (ds ++ [d]) (u + v) := by
  unfold Conts at h ⊢
  rw [h, getAll_drop hi, hg]
  simp only [List.drop_drop]
  cases getAll (ks.drop (i + 1)) (b.drop (u + v)) with
  | none => rfl
  | some p => simp [Nat.add_assoc]
theorem Conts.done {ks : List Kd} {b : List UInt8} {u : Nat} {ds : List Data} (h : Conts ks b ks.length ds u) : getAll ks b = some (ds, u) := by
  unfold Conts at h
  rw [h, List.drop_length]
  simp [getAll]
theorem splice_nil (cs : List Value) (p : Nat) : splice cs p [] = cs := by simp [splice]
theorem splice_drop {cs : List Value} {p : Nat} {a : List Value} (h : p ≤ cs.length) : (splice cs p a).drop (p + a.length) = cs.drop (p + a.length) := by
  unfold splice
  rw [← List.append_assoc, List.drop_append]
  have e : (cs.take p ++ a).length = p + a.length := by simp; omega
  rw [e, List.drop_eq_nil_of_le (by omega), Nat.sub_self]
  rfl
theorem splice_splice {cs : List Value} {p : Nat} (a b : List Value) (hp : p ≤ cs.length) : splice (splice cs p a) (p + a.length) b = splice cs p (a ++ b) := by
  have e : (cs.take p ++ a).length = p + a.length := by simp; omega
  have h1 : (splice cs p a).take (p + a.length) = cs.take p ++ a := by
    unfold splice
    rw [← List.append_assoc]
    exact List.take_left' e
  have h2 : (splice cs p a).drop (p + a.length + b.length) = cs.drop (p + (a ++ b).length) := by
    rw [← List.drop_drop, splice_drop hp, List.drop_drop, List.length_append, Nat.add_assoc]
  rw [splice, h1, h2, splice]
  simp only [List.append_assoc]
theorem splice_length {cs : List Value} {p : Nat} {a : List Value} (h : p + a.length ≤ cs.length) : (splice cs p a).length = cs.length := by
  unfold splice
  simp only [List.length_append, List.length_take, List.length_drop]
  omega
theorem zero_part {l : List Value} {a b c : List Value} (h : l.take (a ++ (b ++ c)).length = a ++ (b ++ c)) : (l.drop a.length).take b.length = b := by
  have h2 : l = (a ++ (b ++ c)) ++ l.drop (a ++ (b ++ c)).length := by conv => lhs; rw [← List.take_append_drop (a ++ (b ++ c)).length l, h]
  rw [h2, List.append_assoc, List.append_assoc, List.drop_left, List.take_left]
theorem zero_at {ks : List Kd} {cs : List Value} {p i : Nat} (hi : i < ks.length) (h : (cs.drop p).take (zeroAll ks).length = zeroAll ks) : (cs.drop (p + offAt ks i)).take ks[i].size = ks[i].zero := by
  rw [zeroAll_split ks i hi] at h
  have := zero_part h
  rwa [List.drop_drop] at this
theorem set_splice {cs : List Value} {p : Nat} (v : Value) (h : p < cs.length) : cs.toArray.setIfInBounds p v = (splice cs p [v]).toArray := by
  simp [splice, List.set_eq_take_append_cons_drop, h]
theorem cell_row {w : World} {g : Nat} {cs : List Value} {ty : TypeId} (h : w.heap[g]? = some (.cells cs.toArray ty (0, 0))) {p : Nat} {v : Value} (hv : cs[p]? = some v) : w.cell? ⟨g, p, none⟩ = some v := by
  rw [cell_of_row w g p _ _ _ h]; simpa using hv
theorem zero_one {cs : List Value} {p : Nat} {v : Value} (h : (cs.drop p).take 1 = [v]) : cs[p]? = some v := by
  have : (cs.drop p)[0]? = some v := by
    have h2 : ((cs.drop p).take 1)[0]? = some v := by rw [h]; rfl
    simpa using h2
  simpa using this
theorem wrap_eq {v : Nat} (h : v < 18446744073709551616) : (IntKind.u64.wrap (wrap64 (v : Nat)) == (v : Int)) = true := by
  have e : IntKind.u64.wrap (wrap64 (v : Nat)) = wrap64 (v : Nat) % 18446744073709551616 := by simp [IntKind.wrap, IntKind.bits, IntKind.signed]
  have e3 : wrap64 (v : Nat) % 18446744073709551616 = (v : Int) := by unfold wrap64; omega
  rw [e, e3]
  simp
theorem wrap_lo (v : Nat) : -9223372036854775808 ≤ wrap64 (v : Nat) := by unfold wrap64; omega
theorem wrap_hi (v : Nat) : wrap64 (v : Nat) ≤ 9223372036854775807 := by unfold wrap64; omega
theorem cell_set {w : World} {g : Nat} {cs : List Value} {ty : TypeId} (h : w.heap[g]? = some (.cells cs.toArray ty (0, 0))) {p : Nat} (hp : p < cs.length) (v : Value) : (w.setCell ⟨g, p, none⟩ v).cell? ⟨g, p, none⟩ = some v := by
  rw [cell_of_row _ g p _ _ _ (heap_setCell_same w g p _ _ v h)]
  simp [hp]
theorem grown_drewN {w w' : World} {r : Option Nat} (h : w.grownBy w' r) (q : Nat) : w.grownBy (w'.drewN q) r := ⟨h.os, h.tape, h.output, h.size, h.block⟩
end Go.Proofs.YtdbaajgkcjpnoaaGreat.Kd

/-! There and back: what is written of a value is read as it, whatever comes behind; nothing else is. Plain facts. -/
namespace Go.Proofs.YtdbaajgkcjpnoaaGreat.Kd
open Go.RowKit By CoP Co Mo

structure Kd.Laws (k : Kd) : Prop where
  back : ∀ {d}, k.fits d → ∀ r, k.get (k.put d ++ r) = some (d, (k.put d).length)
  ext : ∀ {b d u}, k.get b = some (d, u) → ∀ r, k.get (b ++ r) = some (d, u)
theorem numR_ext {b : List UInt8} (h : (numR b).2.2 = 0) (r : List UInt8) : numR (b ++ r) = numR b := by
  cases b with
  | nil => simp [numR] at h
  | cons x t =>
    by_cases h1 : 8 < x.toNat ∨ (0 < x.toNat ∧ t[0]? = some 0)
    · simp [numR, h1] at h
    · by_cases h2 : t.length < x.toNat
      · simp [numR, h1, h2] at h
      · have h3 : ¬ (8 < x.toNat ∨ (0 < x.toNat ∧ (t ++ r)[0]? = some 0)) := by
          rintro (h3 | ⟨h3, h4⟩)
          · exact h1 (.inl h3)
          · rw [List.getElem?_append_left (by omega)] at h4
            exact h1 (.inr ⟨h3, h4⟩)
        have h5 : ¬ ((t ++ r).length < x.toNat) := by rw [List.length_append]; omega
        rw [List.cons_append]
        simp only [numR]
        rw [if_neg h3, if_neg h5, if_neg h1, if_neg h2, List.take_append_of_le_length (by omega)]
theorem bytesR_ext {b : List UInt8} (h : (bytesR b).2.2 = 0) (r : List UInt8) : bytesR (b ++ r) = bytesR b := by
  by_cases h1 : (numR b).2.2 = 0
  · have h2 := numR_ext h1 r
    have h3 := numR_used b h1
    by_cases h4 : b.length - (numR b).2.1 < (numR b).1
    · simp [bytesR, h1, h4] at h
    · unfold bytesR
      have h5 : ¬ ((b ++ r).length - (numR b).2.1 < (numR b).1) := by rw [List.length_append]; omega
      have h6 : ¬ (numR b).2.2 ≠ 0 := by simpa using h1
      rw [h2, if_neg h6, if_neg h6, if_neg h4, if_neg h5, List.drop_append_of_le_length h3, List.take_append_of_le_length (by rw [List.length_drop]; omega)]
  · simp [bytesR, h1] at h
theorem wrap_back (z : Int) (h1 : -9223372036854775808 ≤ z) (h2 : z ≤ 9223372036854775807) : wrap64 ((u64N z : Nat) : Int) = z := by
  rw [u64N_eq]
  unfold wrap64
  omega
theorem num256 {n : Nat} (h : n < 18446744073709551616) : n < 256 ^ 8 := by simpa using h
theorem numK_laws (lo hi : Int) : (numK lo hi).Laws where
  back := by
    rintro d ⟨n, hn, rfl⟩ r
    have e := numR_put n (num256 hn) r
    simp only [numK, Int.toNat_natCast, e, putNum_length]
    simp
  ext := by
    intro b d u h r
    simp only [numK] at h ⊢
    split at h
    · cases h
    · rename_i h1
      rw [numR_ext (by simpa using h1) r, if_neg h1]
      exact h
theorem intK_laws (lo hi : Int) : (intK lo hi).Laws where
  back := by
    rintro d ⟨z, h1, h2, rfl⟩ r
    have e := numR_put (u64N z) (num256 (u64N_lt z)) r
    simp only [intK, e, putNum_length, wrap_back z h1 h2]
    simp
  ext := by
    intro b d u h r
    simp only [intK] at h ⊢
    split at h
    · cases h
    · rename_i h1
      rw [numR_ext (by simpa using h1) r, if_neg h1]
      exact h
theorem flagK_laws : flagK.Laws where
  back := by
    rintro d ⟨b, rfl⟩ r
    have e := numR_put (flagN b) (by cases b <;> decide) r
    simp only [flagK, e, putNum_length]
    cases b <;> simp [flagN]
  ext := by
    intro b d u h r
    simp only [flagK] at h ⊢
    split at h
    · cases h
    · rename_i h1
      rw [numR_ext (by simp only [not_or, ne_eq, Decidable.not_not] at h1; exact h1.1) r, if_neg h1]
      exact h
theorem bytesK_laws (most : Int) : (bytesK most).Laws where
  back := by
    rintro d ⟨l, rfl, hl⟩ r
    have e := bytesR_put l (num256 (by omega)) r
    simp only [bytesK, e]
    simp
  ext := by
    intro b d u h r
    simp only [bytesK] at h ⊢
    split at h
    · cases h
    · rename_i h1
      rw [bytesR_ext (by simpa using h1) r, if_neg h1]
      exact h
theorem textK_laws (most : Int) : (textK most).Laws where
  back := by
    rintro d ⟨l, rfl, hl⟩ r
    have e := bytesR_put l (num256 (by omega)) r
    simp only [textK, e]
    simp
  ext := by
    intro b d u h r
    simp only [textK] at h ⊢
    split at h
    · cases h
    · rename_i h1
      rw [bytesR_ext (by simpa using h1) r, if_neg h1]
      exact h
theorem looseK_laws {k : Kd} (h : k.Laws) : (looseK k).Laws := ⟨fun hf r => h.back hf r, fun hg r => h.ext hg r⟩
theorem getMany_back {k : Kd} (hk : k.Laws) : ∀ (ds : List Data), (∀ x ∈ ds, k.fits x) → ∀ r, getMany k ds.length (ds.flatMap k.put ++ r) = some (ds, (ds.flatMap k.put).length) := by
  intro ds
  induction ds with
  | nil => intro _ r; rfl
  | cons d ds ih =>
    intro hf r
    have h1 := hk.back (hf d List.mem_cons_self) (ds.flatMap k.put ++ r)
    have h2 := ih (fun x hx => hf x (List.mem_cons_of_mem _ hx)) r
    simp only [List.flatMap_cons, List.length_cons, getMany, List.append_assoc]
    rw [h1]
    simp only [List.drop_left, h2, List.length_append]
theorem getMany_ext {k : Kd} (hk : k.Ok) (hl : k.Laws) : ∀ (n : Nat) (b : List UInt8) {ds u}, getMany k n b = some (ds, u) → ∀ r, getMany k n (b ++ r) = some (ds, u) := by
  intro n
  induction n with
  | zero => intro b ds u h r; exact h
  | succ n ih =>
    intro b ds u h r
    simp only [getMany] at h ⊢
    split at h
    · cases h
    · rename_i d u1 h1
      split at h
      · cases h
      · rename_i ds2 v h2
        rw [hl.ext h1 r]
        simp only
        rw [List.drop_append_of_le_length (hk.used h1), ih _ h2 r]
        exact h
theorem listK_laws {k : Kd} (hk : k.Ok) (hl : k.Laws) (most : Int) : (listK k most).Laws where
  back := by
    rintro d ⟨ds, rfl, h1, h2, h3⟩ r
    have e := numR_put ds.length (num256 (by omega)) (ds.flatMap k.put ++ r)
    have e2 := getMany_back hl ds h3 r
    simp only [listK, List.append_assoc, e]
    rw [if_neg (by simp only [ne_eq, not_true_eq_false, false_or]; omega), ← putNum_length, List.drop_left, e2]
    simp
  ext := by
    intro b d u h r
    simp only [listK] at h ⊢
    split at h
    · cases h
    · rename_i h1
      have h0 : (numR b).2.2 = 0 := by simp only [not_or, ne_eq, Decidable.not_not] at h1; exact h1.1
      rw [numR_ext h0 r, if_neg h1, List.drop_append_of_le_length (numR_used b h0)]
      simp only [Option.map_eq_some_iff] at h ⊢
      obtain ⟨⟨ds, v⟩, h2, h3⟩ := h
      exact ⟨(ds, v), getMany_ext hk hl _ _ h2 r, h3⟩
theorem getAll_back : ∀ {ks : List Kd} (_ : ∀ k ∈ ks, k.Laws) {ds : List Data}, FitsAll ks ds → ∀ r, getAll ks (putsAll ks ds ++ r) = some (ds, (putsAll ks ds).length) := by
  intro ks
  induction ks with
  | nil => intro _ ds h r; rw [show ds = [] from h]; rfl
  | cons k ks ih =>
    rintro hk ds ⟨d, ds2, rfl, h1, h2⟩ r
    have h3 := (hk k List.mem_cons_self).back h1 (putsAll ks ds2 ++ r)
    have h4 := ih (fun k' h' => hk k' (List.mem_cons_of_mem _ h')) h2 r
    simp only [putsAll, getAll, List.append_assoc]
    rw [h3]
    simp only [List.drop_left, h4, List.length_append]
theorem getAll_ext : ∀ {ks : List Kd} (_ : ∀ k ∈ ks, k.Ok ∧ k.Laws) (b : List UInt8) {ds u}, getAll ks b = some (ds, u) → ∀ r, getAll ks (b ++ r) = some (ds, u) := by
  intro ks
  induction ks with
  | nil => intro _ b ds u h r; exact h
  | cons k ks ih =>
    intro hk b ds u h r
    simp only [getAll] at h ⊢
    split at h
    · cases h
    · rename_i d u1 h1
      split at h
      · cases h
      · rename_i ds2 v h2
        rw [(hk k List.mem_cons_self).2.ext h1 r]
        simp only
        rw [List.drop_append_of_le_length ((hk k List.mem_cons_self).1.used h1), ih (fun k' h' => hk k' (List.mem_cons_of_mem _ h')) _ h2 r]
        exact h
theorem recK_laws {ks : List Kd} (hk : ∀ k ∈ ks, k.Ok ∧ k.Laws) (t : List Data → Bool) : (recK ks t).Laws where
  back := by
    rintro d ⟨ds, rfl, h⟩ r
    simp only [recK]
    rw [getAll_back (fun k h' => (hk k h').2) h r]
    rfl
  ext := by
    intro b d u h r
    simp only [recK, Option.map_eq_some_iff] at h ⊢
    obtain ⟨⟨ds, v⟩, h2, h3⟩ := h
    exact ⟨(ds, v), getAll_ext hk _ h2 r, h3⟩
/-- No strict beginning of a value's bytes is all of a value's bytes. -/
theorem Kd.Laws.cut {k : Kd} (h : k.Laws) {d : Data} (hf : k.fits d) {q : Nat} (hq : q < (k.put d).length) {d' : Data} : k.get ((k.put d).take q) ≠ some (d', q) := by
  intro e
  have h1 := h.ext e ((k.put d).drop q)
  rw [List.take_append_drop] at h1
  have h2 := h.back hf []
  rw [List.append_nil, h1] at h2
  injection h2 with h2
  injection h2 with _ h2
  omega
/-- Two values of the same bytes are one. -/
theorem Kd.Laws.inj {k : Kd} (h : k.Laws) {a b : Data} (ha : k.fits a) (hb : k.fits b) (e : k.put a = k.put b) : a = b := by
  have h1 := h.back ha []
  have h2 := h.back hb []
  rw [e, h2] at h1
  injection h1 with h1
  injection h1 with h1 _
  exact h1.symm
end Go.Proofs.YtdbaajgkcjpnoaaGreat.Kd
