/- Fields one by one: what a struct's kind does, field for field. Nothing here speaks of one function. -/
import Derived.Test.YtloieecpgndbhaaGreatKdA
namespace Go.Proofs.YtloieecpgndbhaaGreat.Kd
open Go.RowKit By CoP Co Mo

theorem zeroAll_split (ks : List Kd) (i : Nat) (hi : i < ks.length) : zeroAll ks = zeroAll (ks.take i) ++ (ks[i].zero ++ zeroAll (ks.drop (i + 1))) := by
  have h : ks = ks.take i ++ (ks[i] :: ks.drop (i + 1)) := by rw [← List.drop_eq_getElem_cons hi, List.take_append_drop]
  refine (congrArg zeroAll h).trans ?_
  simp only [zeroAll, List.flatMap_append, List.flatMap_cons]
/-- Where field i begins. -/
def offAt (ks : List Kd) (i : Nat) : Nat := (zeroAll (ks.take i)).length
theorem offAt_zero (ks : List Kd) : offAt ks 0 = 0 := by simp [offAt, zeroAll]
theorem offAt_succ (ks : List Kd) (i : Nat) (hi : i < ks.length) : offAt ks (i + 1) = offAt ks i + ks[i].size := by
  unfold offAt Kd.size
  rw [List.take_succ_eq_append_getElem hi]
  simp only [zeroAll, List.flatMap_append, List.flatMap_cons, List.flatMap_nil, List.append_nil, List.length_append]
theorem offAt_le (ks : List Kd) (i : Nat) (hi : i < ks.length) : offAt ks i + ks[i].size ≤ (zeroAll ks).length := by
  rw [zeroAll_split ks i hi]
  unfold offAt Kd.size
  simp only [List.length_append]
  omega
theorem offAt_all (ks : List Kd) : offAt ks ks.length = (zeroAll ks).length := by simp [offAt]

theorem FieldsAt.at_ {L : Nat} {W : World} : ∀ {ks : List Kd} {off : Nat} {fs : List Value}, FieldsAt L W ks off fs → ∀ (i : Nat) (hi : i < ks.length), ∃ f1 f2 f3, fs[i * 3]? = some f1 ∧ fs[i * 3 + 1]? = some f2 ∧ fs[i * 3 + 2]? = some f3 ∧ KindAt L W f1 f2 f3 (off + offAt ks i) ks[i] := by
  intro ks
  induction ks with
  | nil => intro off fs _ i hi; simp at hi
  | cons k ks ih =>
    rintro off fs ⟨f1, f2, f3, r, rfl, h1, h2⟩ i hi
    cases i with
    | zero => exact ⟨f1, f2, f3, rfl, rfl, rfl, by rw [offAt_zero]; exact h1⟩
    | succ i =>
      obtain ⟨g1, g2, g3, e1, e2, e3, h3⟩ := ih h2 i (by simpa using hi)
      refine ⟨g1, g2, g3, ?_, ?_, ?_, ?_⟩
      · rw [show (i + 1) * 3 = i * 3 + 1 + 1 + 1 by omega]; simpa using e1
      · rw [show (i + 1) * 3 + 1 = i * 3 + 1 + 1 + 1 + 1 by omega]; simpa using e2
      · rw [show (i + 1) * 3 + 2 = i * 3 + 2 + 1 + 1 + 1 by omega]; simpa using e3
      · have e : off + offAt (k :: ks) (i + 1) = off + k.size + offAt ks i := by simp [offAt, zeroAll, Kd.size]; omega
        rw [e]
        exact h3
theorem FieldsAt.len {L : Nat} {W : World} : ∀ {ks : List Kd} {off : Nat} {fs : List Value}, FieldsAt L W ks off fs → fs.length = ks.length * 3 := by
  intro ks
  induction ks with
  | nil => intro off fs h; rw [show fs = [] from h]; rfl
  | cons k ks ih =>
    rintro off fs ⟨f1, f2, f3, r, rfl, _, h2⟩
    have := ih h2
    simp only [List.length_cons]
    omega
theorem RepAll.at_ {w : World} {S : Nat → Prop} : ∀ {ks : List Kd} (_ : ∀ k ∈ ks, k.Ok) {vs : List Value} {ds : List Data}, RepAll w S ks vs ds → ∀ (i : Nat) (hi : i < ks.length), ∃ d a v b, ds[i]? = some d ∧ vs = a ++ (v ++ b) ∧ a.length = offAt ks i ∧ ks[i].rep w S v d := by
  intro ks
  induction ks with
  | nil => intro _ vs ds _ i hi; simp at hi
  | cons k ks ih =>
    rintro hk vs ds ⟨v1, v2, d, ds2, rfl, rfl, h1, h2⟩ i hi
    cases i with
    | zero => exact ⟨d, [], v1, v2, rfl, rfl, by rw [offAt_zero]; rfl, h1⟩
    | succ i =>
      obtain ⟨d', a, v, b, e1, e2, e3, h3⟩ := ih (fun k' h' => hk k' (List.mem_cons_of_mem _ h')) h2 i (by simpa using hi)
      have hl := (hk k List.mem_cons_self).len h1
      refine ⟨d', v1 ++ a, v, b, by simpa using e1, by rw [e2, List.append_assoc], ?_, h3⟩
      rw [List.length_append, e3, hl]
      simp [offAt, zeroAll, Kd.size]
theorem RepAll.rd {w : World} {g o : Nat} {S : Nat → Prop} {ks : List Kd} (hk : ∀ k ∈ ks, k.Ok) {vs : List Value} {ds : List Data} (h : RepAll w S ks vs ds) (hr : Rd w g o vs) (i : Nat) (hi : i < ks.length) :
    ∃ d v, ds[i]? = some d ∧ Rd w g (o + offAt ks i) v ∧ ks[i].rep w S v d := by
  obtain ⟨d, a, v, b, e1, rfl, e3, h3⟩ := h.at_ hk i hi
  refine ⟨d, v, e1, ?_, h3⟩
  rw [← e3]
  exact hr.part.head
theorem RepAll.snoc {w : World} {S : Nat → Prop} {k : Kd} {v : List Value} {d : Data} (hv : k.rep w S v d) : ∀ {ks : List Kd} {vs : List Value} {ds : List Data}, RepAll w S ks vs ds → RepAll w S (ks ++ [k]) (vs ++ v) (ds ++ [d]) := by
  intro ks
  induction ks with
  | nil => rintro vs ds ⟨rfl, rfl⟩; exact ⟨v, [], d, [], by simp, rfl, hv, rfl, rfl⟩
  | cons k0 ks ih =>
    rintro vs ds ⟨v1, v2, d1, ds2, rfl, rfl, h1, h2⟩
    exact ⟨v1, v2 ++ v, d1, ds2 ++ [d], by rw [List.append_assoc], rfl, h1, ih h2⟩
theorem RepAll.next {w : World} {S : Nat → Prop} {ks : List Kd} {i : Nat} (hi : i < ks.length) {v : List Value} {d : Data} (hv : ks[i].rep w S v d) {vs : List Value} {ds : List Data} (h : RepAll w S (ks.take i) vs ds) : RepAll w S (ks.take (i + 1)) (vs ++ v) (ds ++ [d]) := by
  rw [List.take_succ_eq_append_getElem hi]
  exact h.snoc hv
theorem soundAll_drop {ks : List Kd} {ds : List Data} {i : Nat} {d : Data} (hi : i < ks.length) (hd : ds[i]? = some d) : soundAll (ks.drop i) (ds.drop i) = (ks[i].sound d && soundAll (ks.drop (i + 1)) (ds.drop (i + 1))) := by
  obtain ⟨h1, rfl⟩ := List.getElem?_eq_some_iff.1 hd
  rw [List.drop_eq_getElem_cons hi, List.drop_eq_getElem_cons h1]
  rfl
theorem putsAll_drop {ks : List Kd} {ds : List Data} {i : Nat} {d : Data} (hi : i < ks.length) (hd : ds[i]? = some d) : putsAll (ks.drop i) (ds.drop i) = ks[i].put d ++ putsAll (ks.drop (i + 1)) (ds.drop (i + 1)) := by
  obtain ⟨h1, rfl⟩ := List.getElem?_eq_some_iff.1 hd
  rw [List.drop_eq_getElem_cons hi, List.drop_eq_getElem_cons h1]
  rfl
theorem soundAll_end (ks : List Kd) (ds : List Data) : soundAll (ks.drop ks.length) ds = true := by rw [List.drop_length]; simp [soundAll]
theorem putsAll_end (ks : List Kd) (ds : List Data) : putsAll (ks.drop ks.length) ds = [] := by rw [List.drop_length]; simp [putsAll]
theorem getAll_drop {ks : List Kd} {i : Nat} (hi : i < ks.length) (b : List UInt8) : getAll (ks.drop i) b = (match ks[i].get b with
    | none => none
    | some (d, u) => match getAll (ks.drop (i + 1)) (b.drop u) with
      | none => none
      | some (ds, v) => some (d :: ds, u + v)) := by
  rw [List.drop_eq_getElem_cons hi]
  rfl
/-- What is read of all fields, when some have been read. -/
def Conts (ks : List Kd) (b : List UInt8) (i : Nat) (ds : List Data) (u : Nat) : Prop := getAll ks b = (getAll (ks.drop i) (b.drop u)).map fun p => (ds ++ p.1, u + p.2)
theorem Conts.start (ks : List Kd) (b : List UInt8) : Conts ks b 0 [] 0 := by
  unfold Conts
  simp only [List.drop_zero, List.nil_append, Nat.zero_add]
  cases getAll ks b <;> rfl
theorem Conts.fails {ks : List Kd} {b : List UInt8} {i u : Nat} {ds : List Data} (h : Conts ks b i ds u) (hi : i < ks.length) (hg : ks[i].get (b.drop u) = none) : getAll ks b = none := by
  unfold Conts at h
  rw [h, getAll_drop hi, hg]
  rfl
theorem Conts.next {ks : List Kd} {b : List UInt8} {i u v : Nat} {ds : List Data} {d : Data} (h : Conts ks b i ds u) (hi : i < ks.length) (hg : ks[i].get (b.drop u) = some (d, v)) : Conts ks b (i + 1) (ds ++ [d]) (u + v) := by
  unfold Conts at h ⊢
  rw [h, getAll_drop hi, hg]
  simp only [List.drop_drop]
  cases getAll (ks.drop (i + 1)) (b.drop (u + v)) with
  | none => rfl
  | some p => simp [Nat.add_assoc]
theorem Conts.done {ks : List Kd} {b : List UInt8} {u : Nat} {ds : List Data} (h : Conts ks b ks.length ds u) : getAll ks b = some (ds, u) := by
  unfold Conts at h
  rw [h, List.drop_length]
  simp [getAll]
theorem splice_nil (cs : List Value) (p : Nat) : splice cs p [] = cs := by simp [splice]
theorem splice_drop {cs : List Value} {p : Nat} {a : List Value} (h : p ≤ cs.length) : (splice cs p a).drop (p + a.length) = cs.drop (p + a.length) := by
  unfold splice
  rw [← List.append_assoc, List.drop_append]
  have e : (cs.take p ++ a).length = p + a.length := by simp; omega
  rw [e, List.drop_eq_nil_of_le (by omega), Nat.sub_self]
  rfl
theorem splice_splice {cs : List Value} {p : Nat} (a b : List Value) (hp : p ≤ cs.length) : splice (splice cs p a) (p + a.length) b = splice cs p (a ++ b) := by
  have e : (cs.take p ++ a).length = p + a.length := by simp; omega
  have h1 : (splice cs p a).take (p + a.length) = cs.take p ++ a := by
    unfold splice
    rw [← List.append_assoc]
    exact List.take_left' e
  have h2 : (splice cs p a).drop (p + a.length + b.length) = cs.drop (p + (a ++ b).length) := by
    rw [← List.drop_drop, splice_drop hp, List.drop_drop, List.length_append, Nat.add_assoc]
  rw [splice, h1, h2, splice]
  simp only [List.append_assoc]
theorem splice_length {cs : List Value} {p : Nat} {a : List Value} (h : p + a.length ≤ cs.length) : (splice cs p a).length = cs.length := by
  unfold splice
  simp only [List.length_append, List.length_take, List.length_drop]
  omega
theorem zero_part {l : List Value} {a b c : List Value} (h : l.take (a ++ (b ++ c)).length = a ++ (b ++ c)) : (l.drop a.length).take b.length = b := by
  have h2 : l = (a ++ (b ++ c)) ++ l.drop (a ++ (b ++ c)).length := by conv => lhs; rw [← List.take_append_drop (a ++ (b ++ c)).length l, h]
  rw [h2, List.append_assoc, List.append_assoc, List.drop_left, List.take_left]
theorem zero_at {ks : List Kd} {cs : List Value} {p i : Nat} (hi : i < ks.length) (h : (cs.drop p).take (zeroAll ks).length = zeroAll ks) : (cs.drop (p + offAt ks i)).take ks[i].size = ks[i].zero := by
  rw [zeroAll_split ks i hi] at h
  have := zero_part h
  rwa [List.drop_drop] at this
theorem set_splice {cs : List Value} {p : Nat} (v : Value) (h : p < cs.length) : cs.toArray.setIfInBounds p v = (splice cs p [v]).toArray := by
  simp [splice, List.set_eq_take_append_cons_drop, h]
theorem cell_row {w : World} {g : Nat} {cs : List Value} {ty : TypeId} (h : w.heap[g]? = some (.cells cs.toArray ty (0, 0))) {p : Nat} {v : Value} (hv : cs[p]? = some v) : w.cell? ⟨g, p, none⟩ = some v := by
  rw [cell_of_row w g p _ _ _ h]; simpa using hv
theorem zero_one {cs : List Value} {p : Nat} {v : Value} (h : (cs.drop p).take 1 = [v]) : cs[p]? = some v := by
  have : (cs.drop p)[0]? = some v := by
    have h2 : ((cs.drop p).take 1)[0]? = some v := by rw [h]; rfl
    simpa using h2
  simpa using this
theorem wrap_eq {v : Nat} (h : v < 18446744073709551616) : (IntKind.u64.wrap (wrap64 (v : Nat)) == (v : Int)) = true := by
  have e : IntKind.u64.wrap (wrap64 (v : Nat)) = wrap64 (v : Nat) % 18446744073709551616 := by simp [IntKind.wrap, IntKind.bits, IntKind.signed]
  have e3 : wrap64 (v : Nat) % 18446744073709551616 = (v : Int) := by unfold wrap64; omega
  rw [e, e3]
  simp
theorem wrap_lo (v : Nat) : -9223372036854775808 ≤ wrap64 (v : Nat) := by unfold wrap64; omega
theorem wrap_hi (v : Nat) : wrap64 (v : Nat) ≤ 9223372036854775807 := by unfold wrap64; omega
theorem cell_set {w : World} {g : Nat} {cs : List Value} {ty : TypeId} (h : w.heap[g]? = some (.cells cs.toArray ty (0, 0))) {p : Nat} (hp : p < cs.length) (v : Value) : (w.setCell ⟨g, p, none⟩ v).cell? ⟨g, p, none⟩ = some v := by
  rw [cell_of_row _ g p _ _ _ (heap_setCell_same w g p _ _ v h)]
  simp [hp]
theorem grown_drewN {w w' : World} {r : Option Nat} (h : w.grownBy w' r) (q : Nat) : w.grownBy (w'.drewN q) r := ⟨h.os, h.tape, h.output, h.size, h.block⟩
end Go.Proofs.YtloieecpgndbhaaGreat.Kd
