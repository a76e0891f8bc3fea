/- Package wal: a log in memory; works, hear, First, Next, as contracts of calls. -/
import Derived.Test.YtnjifhbooikdbaaGreatDoorWaD
namespace Go.Proofs.YtnjifhbooikdbaaGreatDoor.Wa
open Go.RowKit Go.Maps By Mp Dk

def sRow : List Seg → List AC → List Value
  | x :: l, a :: ac => (segC x a.1 a.2).toList ++ sRow l ac
  | _, _ => []
theorem sRow_length : ∀ {l : List Seg} {ac : List AC}, ac.length = l.length → (sRow l ac).length = l.length * 4
  | [], [], _ => rfl
  | [], _ :: _, h => by simp at h
  | _ :: _, [], h => by simp at h
  | x :: l, a :: ac, h => by
    show ((segC x a.1 a.2).toList ++ sRow l ac).length = _
    rw [List.length_append, sRow_length (by simpa using h)]
    simp
    omega
theorem sRow_get {j : Nat} (hj : j < 4) : ∀ {l : List Seg} {ac : List AC} {k : Nat} {x : Seg} {a : AC}, l[k]? = some x → ac[k]? = some a → ac.length = l.length → (sRow l ac)[k * 4 + j]? = (segC x a.1 a.2)[j]?
  | [], _, _, _, _, h, _, _ => by simp at h
  | _ :: _, [], _, _, _, _, h, _ => by simp at h
  | y :: l, b :: ac, 0, x, a, hx, ha, _ => by
    simp only [List.getElem?_cons_zero, Option.some.injEq] at hx ha
    subst hx ha
    show ((segC y b.1 b.2).toList ++ sRow l ac)[0 * 4 + j]? = _
    rw [Nat.zero_mul, Nat.zero_add, List.getElem?_append_left (by simpa using hj)]
    simp
  | y :: l, b :: ac, k + 1, x, a, hx, ha, h => by
    simp only [List.getElem?_cons_succ] at hx ha
    show ((segC y b.1 b.2).toList ++ sRow l ac)[(k + 1) * 4 + j]? = _
    rw [List.getElem?_append_right (by simp; omega), show (k + 1) * 4 + j - (segC y b.1 b.2).toList.length = k * 4 + j by simp; omega]
    exact sRow_get hj hx ha (by simpa using h)
/-- What the numbers of a log's segments are at most. -/
structure SegOk (s : Seg) : Prop where
  next : s.next < 18446744073709551616
  era : s.era < 18446744073709551616
  len : s.ends.length ≤ 1099511627776
/-- A log in memory: the block g of disk d; all that is its own lies in blocks of T. -/
structure LogW (w : World) (g d : Nat) (l : List Seg) (dead : Bool) (T : Nat → Prop) (v : Value) (ac : List AC) : Prop where
  row : w.heap[g]? = some (.cells #[.pointer (some ⟨d, 0, none⟩), v, .bool dead] tLog (0, 0))
  hac : ac.length = l.length
  segs : w.ownsRow 0 tSeg 4 v l.length (sRow l ac)
  ends : ∀ (i : Nat) (s : Seg) (a : AC), l[i]? = some s → ac[i]? = some a → w.ownsRow 0 3 1 (.slice a.1 s.ends.length a.2) s.ends.length (ints s.ends)
  apart : ∀ (i j : Nat) (a b : AC) (q n m : Nat), ac[i]? = some a → ac[j]? = some b → (Value.slice a.1 n a.2).ownBlock = some q → (Value.slice b.1 m b.2).ownBlock = some q → i = j
  tg : T g
  tv : ∀ b, v.ownBlock = some b → T b
  te : ∀ (i : Nat) (a : AC) (n q : Nat), ac[i]? = some a → (Value.slice a.1 n a.2).ownBlock = some q → T q
  lt : ∀ b, T b → b < w.heap.size
  ok : ∀ s ∈ l, SegOk s
  few : l.length ≤ 1099511627776
def LogAt (w : World) (g d : Nat) (l : List Seg) (dead : Bool) (T : Nat → Prop) : Prop := ∃ v ac, LogW w g d l dead T v ac
theorem LogW.keep {w w' : World} {g d : Nat} {l : List Seg} {dead : Bool} {T : Nat → Prop} {v : Value} {ac : List AC} (h : LogW w g d l dead T v ac) (hk : ∀ b, T b → w'.heap[b]? = w.heap[b]?) (hz : w.heap.size ≤ w'.heap.size) : LogW w' g d l dead T v ac :=
  ⟨(hk g h.tg).trans h.row, h.hac, ownsRow_keep h.segs (fun b hb => hk b (h.tv b hb)), fun i s a hs ha => ownsRow_keep (h.ends i s a hs ha) (fun b hb => hk b (h.te i a _ b ha hb)), h.apart, h.tg, h.tv, h.te, fun b hb => Nat.lt_of_lt_of_le (h.lt b hb) hz, h.ok, h.few⟩
theorem LogAt.keep {w w' : World} {g d : Nat} {l : List Seg} {dead : Bool} {T : Nat → Prop} (h : LogAt w g d l dead T) (hk : ∀ b, T b → w'.heap[b]? = w.heap[b]?) (hz : w.heap.size ≤ w'.heap.size) : LogAt w' g d l dead T := by
  obtain ⟨v, ac, h⟩ := h
  exact ⟨v, ac, h.keep hk hz⟩
theorem LogAt.below {w w' : World} {g d : Nat} {l : List Seg} {dead : Bool} {T : Nat → Prop} (h : LogAt w g d l dead T) (hb : Below w.heap.size w w') : LogAt w' g d l dead T := by
  obtain ⟨v, ac, h⟩ := h
  exact ⟨v, ac, h.keep (fun b hB => hb.block b (h.lt b hB)) hb.size⟩
theorem rowI_lies {w : World} {base n c : Nat} {A : Option Addr} {l : List Nat} (hn : n = l.length) (h : w.ownsRow base 3 1 (.slice A n c) n (ints l)) : LiesI w w.heap.size A l := fun hp => by
  rcases h.2 with ⟨h1, h2⟩ | ⟨g, cap, cur, hv, hb, hg, hnc, hm, hs, ht⟩
  · omega
  · injection hv with h1 h2 h3
    refine ⟨g, 0, h1, row_lt hg, fun j x hx => ?_⟩
    rw [Nat.zero_add, cell_of_row w g j _ _ _ hg]
    have hj : (ints l)[j]? = some (.int .i64 (x : Int)) := by simp [ints, hx]
    rw [← ht, List.getElem?_take] at hj
    split at hj
    · simpa using hj
    · cases hj
/-- Segment k of a log. -/
theorem LogW.at_ {w : World} {g d : Nat} {l : List Seg} {dead : Bool} {T : Nat → Prop} {v : Value} {ac : List AC} (h : LogW w g d l dead T v ac) {k : Nat} (hk : k < l.length) : ∃ ub cap A c, v = .slice (some ⟨ub, 0, none⟩) l.length cap ∧ ub < w.heap.size ∧ ac[k]? = some (A, c) ∧ LiesI w w.heap.size A l[k].ends ∧ SegOk l[k] ∧
    w.cell? ⟨ub, k * 4, none⟩ = some (.int .u64 (l[k].era : Nat)) ∧ w.cell? ⟨ub, k * 4 + 1, none⟩ = some (.int .u64 (l[k].first : Nat)) ∧ w.cell? ⟨ub, k * 4 + 2, none⟩ = some (.bool l[k].base) ∧ w.cell? ⟨ub, k * 4 + 3, none⟩ = some (.slice A l[k].ends.length c) := by
  have hx : l[k]? = some l[k] := List.getElem?_eq_getElem hk
  have hka : k < ac.length := by rw [h.hac]; exact hk
  have ha : ac[k]? = some ac[k] := List.getElem?_eq_getElem hka
  have he := h.ends k _ _ hx ha
  rcases h.segs.2 with ⟨hv, h0⟩ | ⟨q, cap, cur, hv, hb, hg, hnc, hm, hs, ht⟩
  · omega
  · have hcell : ∀ j, j < 4 → w.cell? ⟨q, k * 4 + j, none⟩ = (segC l[k] ac[k].1 ac[k].2)[j]? := by
      intro j hj
      rw [cell_of_row w q _ _ _ _ hg, ← sRow_get hj hx ha h.hac, ← ht, List.getElem?_take_of_lt (by omega)]
      simp
    exact ⟨q, cap, ac[k].1, ac[k].2, hv, row_lt hg, ha, rowI_lies rfl he, h.ok _ (List.getElem_mem hk), hcell 0 (by omega), hcell 1 (by omega), hcell 2 (by omega), hcell 3 (by omega)⟩
theorem LogW.form {w : World} {g d : Nat} {l : List Seg} {dead : Bool} {T : Nat → Prop} {v : Value} {ac : List AC} (h : LogW w g d l dead T v ac) : ∃ A c, v = .slice A l.length c := ownsRow_form h.segs
theorem logTest (w : World) (a : Option Addr) : (binOp .eql 28 (.pointer a) (.pointer none)).run Tryz.prog w = .ok (.bool a.isNone) w := by
  cases a with
  | none => kernel_rfl
  | some a => kernel_rfl
def firstS (l : List Seg) : Nat := match l with | [] => 1 | s :: _ => s.first
def nextS (l : List Seg) : Nat := match l.getLast? with | none => 1 | some s => s.next
set_option maxHeartbeats 800000 in
theorem first_any (g d : Nat) (l : List Seg) (dead : Bool) (T : Nat → Prop) (w : World) (h : LogAt w g d l dead T) : Calls Tryz.prog 10 #[.pointer (some ⟨g, 0, none⟩)] w (Ret (.int .u64 (firstS l : Nat)) w) := by
  obtain ⟨v, ac, h⟩ := h
  have q1 := logTest
  have q2 := ptrTest
  have h0 : w.cell? ⟨g, 0, none⟩ = some (.pointer (some ⟨d, 0, none⟩)) := by rw [cell_of_row w g 0 _ _ _ h.row]; rfl
  cases l with
  | nil =>
    obtain ⟨A, c, rfl⟩ := h.form
    have h1 : w.cell? ⟨g, 1, none⟩ = some (.slice A 0 c) := by rw [cell_of_row w g 1 _ _ _ h.row]; rfl
    go_enter Tryz.func10, Tryz.ntmps10
    go_wp2
    go_ret
    exact ⟨rfl, rfl⟩
  | cons s r =>
    obtain ⟨ub, cap, A, c, rfl, hub, -, -, -, -, hc1, -, -⟩ := h.at_ (k := 0) (by simp)
    have h1 : w.cell? ⟨g, 1, none⟩ = some (.slice (some ⟨ub, 0, none⟩) (s :: r).length cap) := by rw [cell_of_row w g 1 _ _ _ h.row]; rfl
    have hc1 : w.cell? ⟨ub, 1, none⟩ = some (.int .u64 (s.first : Nat)) := hc1
    have hlen : 0 < (s :: r).length := by simp
    have hfew := h.few
    obtain ⟨n, hn⟩ : ∃ n, n = (s :: r).length := ⟨_, rfl⟩
    rw [← hn] at h1 hlen hfew
    show Calls Tryz.prog 10 #[.pointer (some ⟨g, 0, none⟩)] w (Ret (.int .u64 (s.first : Nat)) w)
    clear h hn
    go_enter Tryz.func10, Tryz.ntmps10
    go_wp2
    go_ret
    exact ⟨rfl, rfl⟩
set_option maxHeartbeats 800000 in
theorem works_any (g d : Nat) (l : List Seg) (dead : Bool) (T : Nat → Prop) (w : World) (h : LogAt w g d l dead T) : Calls Tryz.prog 18 #[.pointer (some ⟨g, 0, none⟩)] w (Ret (.int .i64 (if dead then 11 else 0)) w) := by
  obtain ⟨v, ac, h⟩ := h
  have q1 := logTest
  have q2 := ptrTest
  have h0 : w.cell? ⟨g, 0, none⟩ = some (.pointer (some ⟨d, 0, none⟩)) := by rw [cell_of_row w g 0 _ _ _ h.row]; rfl
  have h2 : w.cell? ⟨g, 2, none⟩ = some (.bool dead) := by rw [cell_of_row w g 2 _ _ _ h.row]; rfl
  clear h
  cases dead with
  | true =>
    go_enter Tryz.func18, Tryz.ntmps18
    go_wp2
    go_ret
    exact ⟨rfl, rfl⟩
  | false =>
    go_enter Tryz.func18, Tryz.ntmps18
    go_wp2
    go_ret
    exact ⟨rfl, rfl⟩
theorem works_nil (w : World) : Calls Tryz.prog 18 #[.pointer none] w (Ret (.int .i64 1) w) := by
  go_enter Tryz.func18, Tryz.ntmps18
  go_wp2
  go_ret
  exact ⟨rfl, rfl⟩
end Go.Proofs.YtnjifhbooikdbaaGreatDoor.Wa
