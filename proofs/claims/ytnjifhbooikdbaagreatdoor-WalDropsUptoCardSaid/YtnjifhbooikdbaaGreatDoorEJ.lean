/- Lists of changes in memory; bytes.Clone, cloneWrites, as contracts of calls. | Package disk's staying and tear, as contracts of calls. -/
import Derived.Test.YtnjifhbooikdbaaGreatDoorDkC
import Derived.Test.YtnjifhbooikdbaaGreatDoorDkF
import Derived.Laws.Bits64b
/-! Lists of changes in memory; bytes.Clone, cloneWrites, as contracts of calls. -/
namespace Go.Proofs.YtnjifhbooikdbaaGreatDoor.Dk
open Go.RowKit Go.Maps By Mp

abbrev tWrite : TypeId := 90
abbrev tWrites : TypeId := 44
abbrev AC := Option Addr × Nat
def wCells (x : W1) (a : AC) : List Value := [.int .i64 (x.kind : Nat), .string (str x.name), .int .i64 (x.off : Nat), .slice a.1 x.data.length a.2]
def wRow : List W1 → List AC → List Value
  | x :: l, a :: ac => wCells x a ++ wRow l ac
  | _, _ => []
theorem wRow_length : ∀ {l : List W1} {ac : List AC}, ac.length = l.length → (wRow l ac).length = l.length * 4
  | [], [], _ => rfl
  | [], _ :: _, h => by simp at h
  | _ :: _, [], h => by simp at h
  | x :: l, a :: ac, h => by
    show (wCells x a ++ wRow l ac).length = _
    rw [List.length_append, wRow_length (by simpa using h)]
    simp [wCells]
    omega
theorem wRow_snoc (x : W1) (a : AC) : ∀ {l : List W1} {ac : List AC}, ac.length = l.length → wRow (l ++ [x]) (ac ++ [a]) = wRow l ac ++ wCells x a
  | [], [], _ => by simp [wRow]
  | [], _ :: _, h => by simp at h
  | _ :: _, [], h => by simp at h
  | y :: l, b :: ac, h => by
    show wCells y b ++ wRow (l ++ [x]) (ac ++ [a]) = (wCells y b ++ wRow l ac) ++ wCells x a
    rw [wRow_snoc x a (by simpa using h), List.append_assoc]
theorem wRow_get {j : Nat} (hj : j < 4) : ∀ {l : List W1} {ac : List AC} {k : Nat} {x : W1} {a : AC}, l[k]? = some x → ac[k]? = some a → ac.length = l.length → (wRow l ac)[k * 4 + j]? = (wCells x a)[j]?
  | [], _, _, _, _, h, _, _ => by simp at h
  | _ :: _, [], _, _, _, _, h, _ => by simp at h
  | y :: l, b :: ac, 0, x, a, hx, ha, _ => by
    simp only [List.getElem?_cons_zero, Option.some.injEq] at hx ha
    subst hx ha
    show (wCells y b ++ wRow l ac)[0 * 4 + j]? = _
    rw [Nat.zero_mul, Nat.zero_add, List.getElem?_append_left (by simpa [wCells] using hj)]
  | y :: l, b :: ac, k + 1, x, a, hx, ha, h => by
    show (wCells y b ++ wRow l ac)[(k + 1) * 4 + j]? = _
    rw [List.getElem?_append_right (by simp [wCells]; omega), show (k + 1) * 4 + j - (wCells y b).length = k * 4 + j by simp [wCells]; omega]
    exact wRow_get hj (by simpa using hx) (by simpa using ha) (by simpa using h)
/-- The data of changes lies in blocks of S. -/
def WData (w : World) (S : Nat → Prop) (l : List W1) (ac : List AC) : Prop := ∀ (i : Nat) (x : W1) (a : AC), l[i]? = some x → ac[i]? = some a → x.data.length ≤ a.2 ∧ LiesS w S a.1 x.data
/-- A slice of changes, its row from block base on, their data in blocks of S. -/
def WsAt (w : World) (base : Nat) (S : Nat → Prop) (v : Value) (l : List W1) : Prop := ∃ ac : List AC, ac.length = l.length ∧ w.ownsRow base tWrite 4 v l.length (wRow l ac) ∧ WData w S l ac
theorem WsAt.nil (w : World) (base : Nat) (S : Nat → Prop) : WsAt w base S (.slice none 0 0) [] := ⟨[], rfl, World.ownsRow_nil w base _ 4, fun i x a h _ => by simp at h⟩
theorem ownsRow_keep {w w' : World} {base : Nat} {e : TypeId} {size n : Nat} {v : Value} {xs : List Value} (h : w.ownsRow base e size v n xs) (hb : ∀ b, v.ownBlock = some b → w'.heap[b]? = w.heap[b]?) : w'.ownsRow base e size v n xs := by
  refine ⟨h.1, ?_⟩
  rcases h.2 with hn | ⟨g, cap, cur, rfl, h1, h2, h3⟩
  · exact .inl hn
  · exact .inr ⟨g, cap, cur, rfl, h1, (hb g rfl).trans h2, h3⟩
theorem ownsRow_base {w : World} {base base' : Nat} {e : TypeId} {size n : Nat} {v : Value} {xs : List Value} (h : w.ownsRow base e size v n xs) (hb : base' ≤ base) : w.ownsRow base' e size v n xs := by
  refine ⟨h.1, ?_⟩
  rcases h.2 with hn | ⟨g, cap, cur, rfl, h1, h2, h3⟩
  · exact .inl hn
  · exact .inr ⟨g, cap, cur, rfl, by omega, h2, h3⟩
theorem ownsRow_lt {w : World} {base : Nat} {e : TypeId} {size n : Nat} {v : Value} {xs : List Value} (h : w.ownsRow base e size v n xs) {b : Nat} (hb : v.ownBlock = some b) : base ≤ b ∧ b < w.heap.size := by
  rcases h.2 with ⟨rfl, _⟩ | ⟨g, cap, cur, rfl, h1, h2, h3⟩
  · cases hb
  · simp only [Value.ownBlock, Option.some.injEq] at hb
    subst hb
    exact ⟨h1, row_lt h2⟩
theorem WsAt.keep {w w' : World} {base : Nat} {S S' : Nat → Prop} {v : Value} {l : List W1} (h : WsAt w base S v l) (hb : ∀ b, v.ownBlock = some b → w'.heap[b]? = w.heap[b]?) (hs : ∀ b, S b → w'.heap[b]? = w.heap[b]?) (hS : ∀ b, S b → S' b) : WsAt w' base S' v l := by
  obtain ⟨ac, h1, h2, h3⟩ := h
  exact ⟨ac, h1, ownsRow_keep h2 hb, fun i x a hx ha => ⟨(h3 i x a hx ha).1, (h3 i x a hx ha).2.keep hs hS⟩⟩
theorem WsAt.form {w : World} {base : Nat} {S : Nat → Prop} {v : Value} {l : List W1} (h : WsAt w base S v l) : ∃ A c, v = .slice A l.length c ∧ l.length ≤ c ∧ c ≤ maxLen ∧ (0 < l.length → ∃ ub, A = some ⟨ub, 0, none⟩ ∧ base ≤ ub ∧ ub < w.heap.size) := by
  obtain ⟨ac, _, h2, _⟩ := h
  rcases h2.2 with ⟨rfl, h⟩ | ⟨g, cap, cur, rfl, h1, h2, h3, h4, _⟩
  · exact ⟨none, 0, by rw [h], by omega, by unfold maxLen; omega, fun hp => by omega⟩
  · exact ⟨_, cap, rfl, h3, h4, fun _ => ⟨g, rfl, h1, row_lt h2⟩⟩
/-- One change. -/
theorem WsAt.at_ {w : World} {base : Nat} {S : Nat → Prop} {v : Value} {l : List W1} (h : WsAt w base S v l) {k : Nat} (hk : k < l.length) : ∃ ub cap A c, v = .slice (some ⟨ub, 0, none⟩) l.length cap ∧ base ≤ ub ∧ ub < w.heap.size ∧ l[k].data.length ≤ c ∧ LiesS w S A l[k].data ∧
    w.cell? ⟨ub, k * 4, none⟩ = some (.int .i64 (l[k].kind : Nat)) ∧ w.cell? ⟨ub, k * 4 + 1, none⟩ = some (.string (str l[k].name)) ∧ w.cell? ⟨ub, k * 4 + 2, none⟩ = some (.int .i64 (l[k].off : Nat)) ∧ w.cell? ⟨ub, k * 4 + 3, none⟩ = some (.slice A l[k].data.length c) := by
  obtain ⟨ac, h1, h2, h3⟩ := h
  have hx : l[k]? = some l[k] := List.getElem?_eq_getElem hk
  have ha : ac[k]? = some ac[k] := List.getElem?_eq_getElem (by omega)
  obtain ⟨h4, h5⟩ := h3 k _ _ hx ha
  rcases h2.2 with ⟨rfl, h⟩ | ⟨g, cap, cur, rfl, hb, hg, hc, hm, hs, ht⟩
  · omega
  · have hcell : ∀ j, j < 4 → w.cell? ⟨g, k * 4 + j, none⟩ = (wCells l[k] ac[k])[j]? := by
      intro j hj
      rw [cell_of_row w g _ _ _ _ hg, ← wRow_get hj hx ha h1, ← ht, List.getElem?_take_of_lt (by omega)]
      simp
    exact ⟨g, cap, ac[k].1, ac[k].2, rfl, hb, row_lt hg, h4, h5, hcell 0 (by omega), hcell 1 (by omega), hcell 2 (by omega), hcell 3 (by omega)⟩
/-- Behind an append of one change. -/
theorem WsAt.snoc {w w' : World} {base : Nat} {S S' : Nat → Prop} {v' : Value} {l : List W1} {x : W1} {A : Option Addr} {c : Nat} (hS : ∀ b, S b → w'.heap[b]? = w.heap[b]?) (hSS : ∀ b, S b → S' b)
    {ac : List AC} (hac : ac.length = l.length) (hda : WData w S l ac) (ho : w'.ownsRow base tWrite 4 v' (l.length + 1) (wRow l ac ++ wCells x (A, c))) (hc : x.data.length ≤ c) (hd : LiesS w' S' A x.data) : WsAt w' base S' v' (l ++ [x]) := by
  refine ⟨ac ++ [(A, c)], by simp [hac], by rw [List.length_append, wRow_snoc _ _ hac]; exact ho, fun i y a hy ha => ?_⟩
  by_cases hi : i < l.length
  · rw [List.getElem?_append_left hi] at hy
    rw [List.getElem?_append_left (by omega)] at ha
    exact ⟨(hda i y a hy ha).1, (hda i y a hy ha).2.keep hS hSS⟩
  · rw [List.getElem?_append_right (by omega)] at hy
    rw [List.getElem?_append_right (by omega), hac] at ha
    have : i - l.length = 0 := by
      have := (List.getElem?_eq_some_iff.1 hy).1
      simp at this
      omega
    rw [this] at hy ha
    simp at hy ha
    subst hy ha
    exact ⟨hc, hd⟩
theorem wInfo : (Tryz.prog.info? tWrite).map (fun i => (i.zero, i.size, i.bytes)) = some (some (.agg #[.int .i64 0, .string ⟨#[]⟩, .int .i64 0, .slice none 0 0]), 4, 56) := by kernel_rfl
theorem nilTest (w : World) (a : Option Addr) (n c n' c' : Nat) : (binOp .eql 32 (.slice a n c) (.slice none n' c')).run Tryz.prog w = .ok (.bool a.isNone) w :=
  Lib.run_eql_slice_nil w _ _ a n c n' c' Tryz.underlying32
set_option maxHeartbeats 400000 in
theorem bclone_any (A : Option Addr) (n c B : Nat) (l : Bs) (hn : n = l.length) (w : World) (hr : Lies w B A l) (hB : B ≤ w.heap.size) (hs : l.length ≤ 140737488355328) :
    Calls Tryz.prog 59 #[.slice A n c] w (Gives l w) := by
  have q22 := nilTest
  have HN := Lib.hid hn
  clear hn
  have hn0 : A = none → l = [] := fun e => by
    rcases Nat.eq_zero_or_pos l.length with h0 | h0
    · exact List.length_eq_zero_iff.1 h0
    · obtain ⟨g, o, e2, _⟩ := hr h0
      rw [e] at e2; cases e2
  rcases A with _ | ad
  · have hl := hn0 rfl
    clear hn0
    subst hl
    go_enter Tryz.func59, Tryz.ntmps59
    go_wp2
    go_ret
    exact ⟨_, rfl, Own.nil _ _, Below.refl _ _⟩
  · clear hn0
    go_enter Tryz.func59, Tryz.ntmps59
    go_wp2_with (at_builtin; refine wpList_app rfl (.tmp 5) (.tmp 6) rfl rfl (Own.made w w.heap.size #[] 0 (Nat.le_refl _) (by decide) rfl) rfl HN.out (hr.alloc hB _) (by simp; omega) (by simp) ?_; intro v' w1 hown hb1 hg1)
    go_ret
    exact ⟨_, rfl, by simpa using hown, ((Below.refl _ _).alloc (Nat.le_refl _) _).trans hb1⟩
/-- A block of bytes. -/
def U8 (w : World) (b : Nat) : Prop := ∃ cs fr, w.heap[b]? = some (.cells cs 5 fr)
theorem ownsRow_type {w : World} {base : Nat} {e : TypeId} {size n : Nat} {v : Value} {xs : List Value} (h : w.ownsRow base e size v n xs) {b : Nat} (hb : v.ownBlock = some b) : ∃ cur, w.heap[b]? = some (.cells cur e (0, 0)) := by
  rcases h.2 with ⟨rfl, _⟩ | ⟨g, cap, cur, rfl, h1, h2, h3⟩
  · cases hb
  · simp only [Value.ownBlock, Option.some.injEq] at hb
    subst hb
    exact ⟨cur, h2⟩
theorem u8_ne {w : World} {base : Nat} {size n : Nat} {v : Value} {xs : List Value} (h : w.ownsRow base tWrite size v n xs) {b : Nat} (hb : U8 w b) : some b ≠ v.ownBlock := fun e => by
  obtain ⟨cs, fr, h1⟩ := hb
  obtain ⟨cur, h2⟩ := ownsRow_type h e.symm
  rw [h1] at h2
  injection h2 with h2
  injection h2 with _ h2
  exact absurd h2 (by decide)
theorem lies8 {base : Nat} {w : World} {A : Option Addr} {n c : Nat} {l : Bs} (h : Own base w (.slice A n c) l) : LiesS w (fun b => base ≤ b ∧ b < w.heap.size ∧ U8 w b) A l := fun hn => by
  obtain ⟨g, o, e, hg, hc⟩ := LiesS.own h hn
  have hlen : n = l.length := by
    obtain ⟨A', c', e', _⟩ := h.form
    injection e'
  subst hlen
  obtain ⟨g', e', _⟩ := own_head h hn
  have hu : ∃ cur, w.heap[g]? = some (.cells cur 5 (0, 0)) := by
    refine ownsRow_type (show w.ownsRow base 5 1 _ _ _ from h) ?_
    rw [e]; rfl
  obtain ⟨cur, hu⟩ := hu
  exact ⟨g, o, e, ⟨hg.1, hg.2, cur, _, hu⟩, hc⟩
theorem u8_keep {w w' : World} {b : Nat} (h : U8 w b) (e : w'.heap[b]? = w.heap[b]?) : U8 w' b := by
  obtain ⟨cs, fr, h⟩ := h
  exact ⟨cs, fr, e.trans h⟩
/-- The new blocks of bytes. -/
def New8 (w w' : World) : Nat → Prop := fun b => w.heap.size ≤ b ∧ b < w'.heap.size ∧ U8 w' b
/-- Gives changes of the call's own. -/
def GivesW (l : List W1) (w : World) (e : Ending) (w' : World) : Prop := ∃ v, e = .returned v ∧ WsAt w' w.heap.size (New8 w w') v l ∧ Below w.heap.size w w'
end Go.Proofs.YtnjifhbooikdbaaGreatDoor.Dk

/-! Package disk's staying and tear, as contracts of calls. -/
namespace Go.Proofs.YtnjifhbooikdbaaGreatDoor.Dk
open Go.RowKit Go.Maps By Mp

theorem staying_take {mask : Nat} : ∀ {l : List W1} {k i : Nat} (h : i < l.length), staying mask k (l.take (i + 1)) = staying mask k (l.take i) ++ (if stays mask (k + i) = true then [l[i]] else [])
  | [], _, _, h => by simp at h
  | x :: l, k, 0, _ => by
    simp only [List.take_succ_cons, List.take_zero, staying, Nat.add_zero, List.getElem_cons_zero, List.nil_append]
  | x :: l, k, i + 1, h => by
    simp only [List.take_succ_cons, staying, List.getElem_cons_succ]
    rw [staying_take (by simpa using h), show k + 1 + i = k + (i + 1) by omega]
    split <;> simp
theorem staying_le (mask : Nat) : ∀ (l : List W1) (k : Nat), (staying mask k l).length ≤ l.length
  | [], _ => Nat.le_refl _
  | x :: l, k => by
    simp only [staying]
    have := staying_le mask l (k + 1)
    split <;> simp <;> omega
theorem stays_bits (m k : Nat) (hm : m < 18446744073709551616) : (bits .and .u64 ((m : Int) / 2 ^ (k % 64)) 1 == 1) = stays m k := by
  have e1 : ((m : Int) / 2 ^ (k % 64)) = ((m / 2 ^ (k % 64) : Nat) : Int) := by
    rw [Int.natCast_ediv]; simp
  have h := bits_and_u64_nat (m / 2 ^ (k % 64)) 1 (Nat.lt_of_le_of_lt (Nat.div_le_self _ _) hm) (by omega)
  rw [e1, show (1 : Int) = ((1 : Nat) : Int) from rfl, h, Nat.and_one_is_mod]
  unfold stays
  rw [Bool.eq_iff_iff]
  simp
  omega
/-- Gives changes in a row of the call's own, their data where it was. -/
def GivesS (S : Nat → Prop) (l : List W1) (w : World) (e : Ending) (w' : World) : Prop := ∃ v, e = .returned v ∧ WsAt w' w.heap.size S v l ∧ Below w.heap.size w w'
end Go.Proofs.YtnjifhbooikdbaaGreatDoor.Dk
