/- Maps in memory by what they answer: a map's block as a function of its keys; its reading, writing, and a range over it. Nothing here speaks of one function. | More on maps and rows in memory: delete within a range; clear of a slice of bytes. Nothing here speaks of one function. -/
import Derived.Test.YthpcmcnkiiebkaaProg
import Derived.WalkKit
import Derived.ProofKit
import Derived.OpenShut
import Derived.Maps.RangeWalk
import Derived.Maps.Ext
import Derived.Maps.Views
import Derived.Lib.Hide
import Derived.Test.YthpcmcnkiiebkaaBy
import Derived.Laws.CopyRow
import Derived.Laws.CopyOwn
import Derived.Laws.OwnMore
import Derived.StillTailTactics
/-! Maps in memory by what they answer: a map's block as a function of its keys; its reading, writing, and a range over it. Nothing here speaks of one function. -/
namespace Go.Proofs.Ythpcmcnkiiebkaa.Mp
open Go.RowKit Go.Maps

/-- An element is held as it is. -/
def heldR (v : Value) : Option (DataW Value × List MemPlace) := some (.held v, [])
def upd (get : Lit → Option Value) (k : Lit) (v : Option Value) : Lit → Option Value := fun l => if l.sameKey k = true then v else get l
def Says (D : DataW Value) (get : Lit → Option Value) : Prop := ∀ l, WideAt.IsKeyLit l → Maps.has D l = (get l).isSome ∧ ∀ v, get l = some v → ∀ z, D.atKey l z = .held v
/-- Block b is a map of n entries that answers get. -/
def MapIs (P : Program) (k : TypeId) (w : World) (b : Nat) (get : Lit → Option Value) (n : Nat) : Prop :=
  ∃ D : DataW Value, w.ownsMap P k heldR b n D ∧ Maps.size D = n ∧ Says D get
/-- Block r goes through the map in block b; what is left to come. -/
def RangeIs (P : Program) (k : TypeId) (w : World) (b r : Nat) (get : Lit → Option Value) (n : Nat) (left : Lit → Bool) (cnt : Nat) : Prop :=
  ∃ D : DataW Value, w.ranges P k heldR b r n D left cnt ∧ Maps.size D = n ∧ Says D get
section
variable {P : Program} {k : TypeId} {w w' : World} {b n : Nat} {get : Lit → Option Value}
theorem tight {D : DataW Value} (h : w.ownsMap P k heldR b n D) : w.ownsMap P k heldR b (Maps.size D) D := by
  obtain ⟨es, clock, hb, F, hs, rfl⟩ := h
  refine ⟨es, clock, hb, F, ?_, rfl⟩
  simp [Maps.size, length_sorted]
theorem MapIs.keep (h : MapIs P k w b get n) (hb : w'.heap[b]? = w.heap[b]?) : MapIs P k w' b get n := by
  obtain ⟨D, ⟨es, clock, h1, h2⟩, h3⟩ := h
  exact ⟨D, ⟨es, clock, hb.trans h1, h2⟩, h3⟩
theorem MapIs.lt (h : MapIs P k w b get n) : b < w.heap.size := by
  obtain ⟨D, h1, _⟩ := h
  exact h1.lt
theorem MapIs.made (w : World) (P : Program) (k : TypeId) : MapIs P k (w.alloc (.map #[] 0)) w.heap.size (fun _ => none) 0 :=
  ⟨.map [], World.ownsMap_made w P k heldR, rfl, fun l _ => ⟨rfl, fun v h => by cases h⟩⟩
theorem MapIs.same (h : MapIs P k w b get n) {get' : Lit → Option Value} (e : ∀ l, WideAt.IsKeyLit l → get' l = get l) : MapIs P k w b get' n := by
  obtain ⟨D, h1, h2, h3⟩ := h
  exact ⟨D, h1, h2, fun l hl => by rw [e l hl]; exact h3 l hl⟩
/-- m[k], with or without ok. -/
theorem MapIs.look {t e : TypeId} (h : MapIs P k w b get n) (K : Keyed P k) (ht : P.underlying t = some (.map k e)) {z : Value} (hz : (zeroValue e).run P w = .ok z w) {key : Value} {kl : Lit} (hkey : keyOf P k key = some kl) (c : Bool) :
    (Instr.lookup t (.map (some b)) key c).run P w = .ok (if c then .tuple #[(get kl).getD z, .bool (get kl).isSome] else (get kl).getD z) w := by
  obtain ⟨D, ⟨es, clock, hb, F, _, rfl⟩, _, hs⟩ := h
  obtain ⟨s1, s2⟩ := hs kl (K.key hkey)
  rcases Maps.fit_look c K ht hz hb F hkey with ⟨hrun, _, hat⟩ | ⟨e0, y, _, _, hrun, hRv, hat, _⟩
  · rw [Maps.has_false_of_atKey hat] at s1
    cases hg : get kl with
    | some v => rw [hg] at s1; cases s1
    | none => exact hrun
  · rw [Maps.has_true_of_atKey hat] at s1
    cases hg : get kl with
    | none => rw [hg] at s1; cases s1
    | some v =>
      have h1 := s2 v hg .nil
      rw [hat .nil] at h1
      injection hRv with hRv
      rw [← hRv] at h1
      injection h1 with h1
      rw [← h1]
      exact hrun
theorem look_none {t e : TypeId} (K : Keyed P k) (ht : P.underlying t = some (.map k e)) {z : Value} (hz : (zeroValue e).run P w = .ok z w) {key : Value} {kl : Lit} (hkey : keyOf P k key = some kl) (c : Bool) :
    (Instr.lookup t (.map none) key c).run P w = .ok (if c then .tuple #[z, .bool false] else z) w := Maps.look_nil c K ht hz hkey
theorem MapIs.len {t e : TypeId} (h : MapIs P k w b get n) (ht : P.underlying t = some (.map k e)) (ty : TypeId) : (Builtin.len_ #[t] ty #[.map (some b)]).run P w = .ok (.int .i64 (n : Nat)) w := by
  obtain ⟨D, h1, h2, _⟩ := h
  have := h1.len ht ty
  rwa [h2] at this
theorem says_put {D : DataW Value} (hD : IsMap D) (hs : Says D get) {kl : Lit} (hk : WideAt.IsKeyLit kl) (v : Value) : Says (D.put kl (.held v)) (upd get kl (some v)) := by
  intro l hl
  unfold upd
  by_cases h : l.sameKey kl = true
  · obtain rfl := WideAt.sameKey_eq h
    rw [if_pos h]
    refine ⟨Maps.has_put_same hD hk _, fun u hu z => ?_⟩
    injection hu with hu
    rw [← hu]
    exact Maps.atKey_put_same hD hk _ z
  · rw [if_neg h]
    have hne : l ≠ kl := fun e => h (by rw [e]; exact WideAt.sameKey_self hk)
    rw [Maps.has_put_other hne]
    refine ⟨(hs l hl).1, fun u hu z => ?_⟩
    rw [Maps.atKey_put_other hne]
    exact (hs l hl).2 u hu z
theorem says_del {D : DataW Value} (hs : Says D get) {kl : Lit} (hk : WideAt.IsKeyLit kl) : Says (D.del kl) (upd get kl none) := by
  intro l hl
  unfold upd
  by_cases h : l.sameKey kl = true
  · obtain rfl := WideAt.sameKey_eq h
    rw [if_pos h]
    exact ⟨Maps.has_del_same, fun u hu => by cases hu⟩
  · rw [if_neg h]
    have hne : l ≠ kl := fun e => h (by rw [e]; exact WideAt.sameKey_self hk)
    rw [Maps.has_del_other hne]
    refine ⟨(hs l hl).1, fun u hu z => ?_⟩
    rw [Maps.atKey_del_other hne]
    exact (hs l hl).2 u hu z
theorem MapIs.put {t e : TypeId} (h : MapIs P k w b get n) (K : Keyed P k) (ht : P.underlying t = some (.map k e)) (hn : n < maxLen) {key val : Value} {kl : Lit} (hkey : keyOf P k key = some kl) :
    ∃ w', (Instr.mapUpdate t (.map (some b)) key val).run P w = .ok () w' ∧ MapIs P k w' b (upd get kl (some val)) (if (get kl).isSome then n else n + 1) ∧ w.mapTurned w' b := by
  obtain ⟨D, h1, h2, hs⟩ := h
  obtain ⟨w', r1, r2, r3⟩ := h1.store K ht hn hkey (val := val) (d := .held val) (ps := []) rfl
  have hz : Maps.size (D.put kl (.held val)) = if (get kl).isSome then n else n + 1 := by
    rw [Maps.size_put (h1.tidy K), (hs kl (K.key hkey)).1, h2]
  refine ⟨w', r1, ⟨_, ?_, hz, says_put h1.isMap hs (K.key hkey) val⟩, r3⟩
  rw [← hz]
  exact tight r2
theorem MapIs.del {t e : TypeId} (h : MapIs P k w b get n) (K : Keyed P k) (ht : P.underlying t = some (.map k e)) {key : Value} {kl : Lit} (hkey : keyOf P k key = some kl) (ty : TypeId) :
    ∃ w', (Builtin.delete_ #[t, k] ty #[.map (some b), key]).run P w = .ok (.tuple #[]) w' ∧ MapIs P k w' b (upd get kl none) (if (get kl).isSome then n - 1 else n) ∧ w.mapTurned w' b := by
  obtain ⟨D, h1, h2, hs⟩ := h
  obtain ⟨w', r1, r2, r3⟩ := h1.drop K ht hkey ty
  have hz : Maps.size (D.del kl) = if (get kl).isSome then n - 1 else n := by
    have e := Maps.size_del (k := kl) (h1.tidy K)
    rw [(hs kl (K.key hkey)).1, h2] at e
    split <;> rename_i hc <;> simp [hc] at e <;> omega
  refine ⟨w', r1, ⟨_, ?_, hz, says_del hs (K.key hkey)⟩, r3⟩
  rw [← hz]
  exact tight r2
theorem del_none {t e : TypeId} (K : Keyed P k) (ht : P.underlying t = some (.map k e)) {key : Value} {kl : Lit} (hkey : keyOf P k key = some kl) (ty : TypeId) : (Builtin.delete_ #[t, k] ty #[.map none, key]).run P w = .ok (.tuple #[]) w := Maps.drop_nil K ht hkey ty
theorem turned_other {i : Nat} (h : w.mapTurned w' b) (hi : i ≠ b) : w'.heap[i]? = w.heap[i]? := by
  obtain ⟨es, clock, es', clock', hb, rfl⟩ := h
  exact ChangeMaps.heap_setBlock_other hb _ hi
theorem turned_size (h : w.mapTurned w' b) : w'.heap.size = w.heap.size := by
  obtain ⟨es, clock, es', clock', hb, rfl⟩ := h
  simp [ChangeMaps.setBlock]
theorem RangeIs.map {r cnt : Nat} {left : Lit → Bool} (h : RangeIs P k w b r get n left cnt) : MapIs P k w b get n := by
  obtain ⟨D, h1, h2⟩ := h
  exact ⟨D, h1.owns, h2⟩
theorem RangeIs.kept {r cnt : Nat} {left : Lit → Bool} (h : RangeIs P k w b r get n left cnt) (hb : w'.heap[b]? = w.heap[b]?) (hr : w'.heap[r]? = w.heap[r]?) : RangeIs P k w' b r get n left cnt := by
  obtain ⟨D, ⟨es, clock, since, seen, c0, h1, h2, h3, h4, h5, h6⟩, h7⟩ := h
  exact ⟨D, ⟨es, clock, since, seen, c0, hb.trans h1, h2, h3, h4, hr.trans h5, h6⟩, h7⟩
theorem RangeIs.lt {r cnt : Nat} {left : Lit → Bool} (h : RangeIs P k w b r get n left cnt) : r < w.heap.size := by
  obtain ⟨D, h1, _⟩ := h
  exact h1.lt
theorem RangeIs.ne {r cnt : Nat} {left : Lit → Bool} (h : RangeIs P k w b r get n left cnt) : r ≠ b := by
  obtain ⟨D, h1, _⟩ := h
  exact h1.ne
theorem RangeIs.left_eq {r cnt : Nat} {left : Lit → Bool} (h : RangeIs P k w b r get n left cnt) : w.rangeLeft b r = cnt := by
  obtain ⟨D, h1, _⟩ := h
  exact h1.left_eq
end
section
variable {P : Program} {ops : Array Oper} {rest : List Oper} {o : Oper} {a : Act} {Q : Exit → Act → World → Prop} {w : World}
/-- m[k] = v -/
theorem wpList_put (hg : o.guard = none) (m x v : Operand) (t : TypeId) (hop : o.op = Op.mapUpdate t m x v) (k e : TypeId) (K : Keyed P k) (ht : P.underlying t = some (.map k e)) (b n : Nat) (get : Lit → Option Value)
    (hm : a.eval m = .map (some b)) (h : MapIs P k w b get n) (hn : n < maxLen) (key val : Value) (kl : Lit) (hx : a.eval x = key) (hv : a.eval v = val) (hkey : keyOf P k key = some kl)
    (hK : ∀ w', MapIs P k w' b (upd get kl (some val)) (if (get kl).isSome then n else n + 1) → w.mapTurned w' b → wpList P ops Q rest (a.put o.dst undef) w') : wpList P ops Q (o :: rest) a w := by
  refine wpList_plain hg fun K' hK' => ?_
  obtain ⟨w', hrun, r1, r2⟩ := h.put K ht hn (val := val) hkey
  unfold Oper.wp
  simp [execOp, hop, hm, hx, hv, hrun, Result.andThen]
  exact hK' _ _ (hK w' r1 r2)
/-- delete(m, k) -/
theorem wpList_del (hg : o.guard = none) (m x : Operand) (t k : TypeId) (hop : o.op = Op.call { callee := Callee.builtin Builtin.delete, args := #[m, x], argTypes := #[t, k] }) (e : TypeId) (K : Keyed P k) (ht : P.underlying t = some (.map k e)) (b n : Nat) (get : Lit → Option Value)
    (hm : a.eval m = .map (some b)) (h : MapIs P k w b get n) (key : Value) (kl : Lit) (hx : a.eval x = key) (hkey : keyOf P k key = some kl)
    (hK : ∀ w', MapIs P k w' b (upd get kl none) (if (get kl).isSome then n - 1 else n) → w.mapTurned w' b → wpList P ops Q rest (a.put o.dst (.tuple #[])) w') : wpList P ops Q (o :: rest) a w := by
  refine wpList_plain hg fun K' hK' => ?_
  obtain ⟨w', hrun, r1, r2⟩ := h.del K ht hkey o.type
  unfold Oper.wp
  simp [execOp, hop, resolve, invoke, builtin, hm, hx, hrun, Result.andThen]
  exact hK' _ _ (hK w' r1 r2)
/-- range m -/
theorem wpList_range (hg : o.guard = none) (m : Operand) (t : TypeId) (hop : o.op = Op.range t m) (k e : TypeId) (K : Keyed P k) (ht : P.underlying t = some (.map k e)) (b n : Nat) (get : Lit → Option Value)
    (hm : a.eval m = .map (some b)) (h : MapIs P k w b get n)
    (hK : ∀ w' left cnt, RangeIs P k w' b w.heap.size get n left cnt → (∀ l, WideAt.IsKeyLit l → left l = (get l).isSome) → w.grownBy w' none → w'.heap.size = w.heap.size + 1 → wpList P ops Q rest (a.put o.dst (.pointer (some ⟨w.heap.size, 0, none⟩))) w') :
    wpList P ops Q (o :: rest) a w := by
  obtain ⟨D, h1, h2, h3⟩ := h
  exact wpList_range_own w hg m t hop k e K ht heldR b n D hm h1 fun w' r1 r2 r3 => hK w' _ _ ⟨D, r1, h2, h3⟩ (fun l hl => (h3 l hl).1) r2 r3
/-- The step. -/
theorem wpList_next {α β : Type} (hg : o.guard = none) (it : Operand) (hop : o.op = Op.next it false) (k : TypeId) (K : Keyed P k) (mkK : α → Value) (mkV : β → Value) (b r n : Nat) (get : Lit → Option Value) (left : Lit → Bool) (cnt : Nat)
    (hit : a.eval it = .pointer (some ⟨r, 0, none⟩)) (h : RangeIs P k w b r get n left cnt) (hinv : ∀ key kl v, keyOf P k key = some kl → get kl = some v → ∃ x c, key = mkK x ∧ v = mkV c)
    (hDone : (∀ kl, left kl = false) → wpList P ops Q rest (a.put o.dst (.tuple #[.bool false])) w)
    (hMore : ∀ (x : α) (c : β) (kl : Lit) (w' : World) (cnt' : Nat), keyOf P k (mkK x) = some kl → left kl = true → get kl = some (mkV c) → RangeIs P k w' b r get n (fun z => left z && !z.sameKey kl) cnt' → cnt' < cnt →
      w.grownBy w' (some r) → w'.heap.size = w.heap.size → (Instr.entry (.pointer (some ⟨r, 0, none⟩))).run P w' = .ok (.tuple #[mkK x, mkV c]) w' → wpList P ops Q rest (a.put o.dst (.tuple #[.bool true, mkK x, mkV c])) w') :
    wpList P ops Q (o :: rest) a w := by
  refine wpList_plain hg fun K' hK' => ?_
  unfold Oper.wp
  obtain ⟨D, h1, h2, h3⟩ := h
  rcases h1.next K o.type with ⟨h0, hl, hrun⟩ | ⟨key, v, kl, y, w', cnt', hkey, hlk, hv, hat, hrun, hrg, hlt, hgr, hsz, hen⟩
  · simp [execOp, hop, hit, hrun, Result.andThen]
    exact hK' _ _ (hDone hl)
  · have hget : get kl = some v := by
      obtain ⟨s1, s2⟩ := h3 kl (K.key hkey)
      rw [Maps.has_true_of_atKey hat] at s1
      cases hg : get kl with
      | none => rw [hg] at s1; cases s1
      | some u =>
        have e1 := s2 u hg .nil
        rw [hat .nil] at e1
        injection hv with hv
        rw [← hv] at e1
        injection e1 with e1
        rw [e1]
    obtain ⟨x, c, rfl, rfl⟩ := hinv key kl v hkey hget
    simp [execOp, hop, hit, hrun, Result.andThen]
    exact hK' _ _ (hMore x c kl w' cnt' hkey hlk hget ⟨D, hrg, h2, h3⟩ hlt hgr hsz hen)
end
/-- No key of a range left means that all were met. -/
theorem pigeon : ∀ (m : Nat) (l : List Nat), l.Nodup → (∀ x ∈ l, x < m) → l.length ≤ m
  | 0, l, _, h => by
    cases l with
    | nil => exact Nat.le_refl _
    | cons x r => have := h x (by simp); omega
  | m + 1, l, hn, h => by
    have h1 := pigeon m (l.filter (fun x => x != m)) (hn.filter _) (fun x hx => by
      obtain ⟨h1, h2⟩ := List.mem_filter.1 hx
      have := h x h1
      have h3 : x ≠ m := by simpa using h2
      omega)
    have h2 : l.length ≤ (l.filter (fun x => x != m)).length + 1 := by
      clear h1 h
      induction l with
      | nil => simp
      | cons x r ih =>
        obtain ⟨n1, n2⟩ := List.nodup_cons.1 hn
        by_cases hx : x = m
        · have : r.filter (fun x => x != m) = r := by
            rw [List.filter_eq_self]
            intro y hy
            have : y ≠ m := fun e => n1 (by rw [hx, ← e]; exact hy)
            simpa using this
          rw [List.filter_cons_of_neg (by simp [hx]), this, List.length_cons]
          omega
        · rw [List.filter_cons_of_pos (by simpa using hx), List.length_cons, List.length_cons]
          have := ih n2
          omega
    omega
end Go.Proofs.Ythpcmcnkiiebkaa.Mp

/-! More on maps and rows in memory: delete within a range; clear of a slice of bytes. Nothing here speaks of one function. -/
namespace Go.Proofs.Ythpcmcnkiiebkaa.Mp
open Go.RowKit Go.Maps By

section
variable {P : Program} {k : TypeId} {ops : Array Oper} {rest : List Oper} {o : Oper} {a : Act} {Q : Exit → Act → World → Prop} {w : World}
theorem rtight {D : DataW Value} {b r n cnt : Nat} {left : Lit → Bool} (h : w.ranges P k heldR b r n D left cnt) : w.ranges P k heldR b r (Maps.size D) D left cnt := by
  obtain ⟨es, clock, since, seen, c0, h1, h2, h3, rfl, h5⟩ := h
  refine ⟨es, clock, since, seen, c0, h1, h2, ?_, rfl, h5⟩
  simp [Maps.size, length_sorted]
/-- delete(m, k) in a range over m. -/
theorem wpList_del_range (hg : o.guard = none) (m x : Operand) (t k : TypeId) (hop : o.op = Op.call { callee := Callee.builtin Builtin.delete, args := #[m, x], argTypes := #[t, k] }) (e : TypeId) (K : Keyed P k) (ht : P.underlying t = some (.map k e)) (b r n : Nat) (get : Lit → Option Value) (left : Lit → Bool) (cnt : Nat)
    (hm : a.eval m = .map (some b)) (h : RangeIs P k w b r get n left cnt) (key : Value) (kl : Lit) (hx : a.eval x = key) (hkey : keyOf P k key = some kl)
    (hK : ∀ w' n' cnt', RangeIs P k w' b r (upd get kl none) n' (fun z => left z && !z.sameKey kl) cnt' → cnt' ≤ cnt → w.mapTurned w' b → wpList P ops Q rest (a.put o.dst (.tuple #[])) w') : wpList P ops Q (o :: rest) a w := by
  obtain ⟨D, h1, h2, h3⟩ := h
  exact wpList_delete_ranges w hg m x t k hop e K ht heldR b r n D left cnt hm h1 key kl hx hkey fun w' cnt' r1 r2 r3 => hK w' _ cnt' ⟨_, rtight r1, rfl, says_del h3 (K.key hkey)⟩ r2 r3
/-- clear(s), s a slice of one-cell elements at g, o. -/
theorem wpList_clear (hgd : o.guard = none) (s : Operand) (dT elem : TypeId) (ho : o.op = .call { callee := .builtin .clear, args := #[s], argTypes := #[dT] }) (hu : P.underlying dT = some (.slice elem)) (z : Value) (hz : (zeroValue elem).run P w = .ok z w) (hz1 : z.cells = #[z])
    (h1 : z.oneCell' = true) (g off len cap : Nat) (hs : a.eval s = .slice (some ⟨g, off, none⟩) len cap) (hpos : 0 < len) (cur : Array Value) (t : TypeId) (hg : w.heap[g]? = some (.cells cur t (0, 0))) (hfit : off + len ≤ cur.size)
    (new : Array Value) (hnew : splice cur.toList off (List.replicate len z) = new.toList) (h : wpList P ops Q rest (a.put o.dst (.tuple #[])) (w.setRow g new)) : wpList P ops Q (o :: rest) a w := by
  refine wpList_plain hgd fun K hK => ?_
  have hst := run_storeCells_at P g off t (List.replicate len z) 0 cur w hg (by rw [List.length_replicate]; omega) (fun v hv => by rw [(List.mem_replicate.1 hv).2]; exact h1)
  have e : (cur.toList.take off ++ (List.replicate len z ++ cur.toList.drop (off + (List.replicate len z).length))).toArray = new := by
    apply Array.ext'
    exact hnew
  have ez : (Builtin.zeroCells z.cells len).toList = List.replicate len z := by
    rw [hz1]
    apply List.ext_getElem?
    intro i
    simp only [Builtin.zeroCells]
    by_cases hi : i < len
    · simp [hi, Nat.mod_one]
    · simp [hi]
  obtain ⟨l', hl'⟩ : ∃ l', len = l' + 1 := ⟨len - 1, by omega⟩
  have hrun : (Builtin.clear_ #[dT] o.type #[.slice (some ⟨g, off, none⟩) len cap]).run P w = .ok (.tuple #[]) (w.setRow g new) := by
    rw [← e]
    subst hl'
    simp [Builtin.clear_, run_underlying hu, hz, ez, hst, Result.andThen]
  unfold Oper.wp
  simp [execOp, ho, resolve, invoke, builtin, hs, hrun, Result.andThen]
  exact hK _ _ h
/-- A whole row read in a region that draws its order. -/
theorem still_load_row (hgd : o.guard = none) (ty : TypeId) (x : Operand) (ho : o.op = .load ty x) {Q : Act → Prop} (g : Nat) (hx : a.eval x = .pointer (some ⟨g, 0, none⟩)) (cs : Array Value) (hrun : (Instr.loadAt ty (.pointer (some ⟨g, 0, none⟩))).run P w = .ok (.agg cs) w)
    (h : wpStill P ops w Q rest (a.put o.dst (.agg cs))) : wpStill P ops w Q (o :: rest) a := by
  refine wpStill_step fun K hK => ?_
  have hw : Region.wanted o (yielded ops a.tmps) = true := by simp [Region.wanted, hgd]
  rw [if_pos hw]
  unfold Oper.still
  simp [execOp, ho, hx, hrun, Oper.stillUpon, Result.andThen]
  exact hK _ h
end
end Go.Proofs.Ythpcmcnkiiebkaa.Mp
