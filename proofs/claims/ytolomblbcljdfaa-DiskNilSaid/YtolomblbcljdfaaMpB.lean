/- More on maps and rows in memory: delete within a range; clear of a slice of bytes. Nothing here speaks of one function. -/
import Derived.Test.YtolomblbcljdfaaMpA
import Derived.Test.YtolomblbcljdfaaBy
import Derived.Laws.CopyRow
import Derived.Laws.CopyOwn
import Derived.Laws.OwnMore
import Derived.StillTailTactics
namespace Go.Proofs.Ytolomblbcljdfaa.Mp
open Go.RowKit Go.Maps By

section
variable {P : Program} {k : TypeId} {ops : Array Oper} {rest : List Oper} {o : Oper} {a : Act} {Q : Exit → Act → World → Prop} {w : World}
theorem rtight {D : DataW Value} {b r n cnt : Nat} {left : Lit → Bool} (h : w.ranges P k heldR b r n D left cnt) : w.ranges P k heldR b r (Maps.size D) D left cnt := by
  obtain ⟨es, clock, since, seen, c0, h1, h2, h3, rfl, h5⟩ := h
  refine ⟨es, clock, since, seen, c0, h1, h2, ?_, rfl, h5⟩
  simp [Maps.size, length_sorted]
/-- delete(m, k) in a range over m. -/
theorem wpList_del_range (hg : o.guard = none) (m x : Operand) (t k : TypeId) (hop : o.op = Op.call { callee := Callee.builtin Builtin.delete, args := #[m, x], argTypes := #[t, k] }) (e : TypeId) (K : Keyed P k) (ht : P.underlying t = some (.map k e)) (b r n : Nat) (get : Lit → Option Value) (left : Lit → Bool) (cnt : Nat)
    (hm : a.eval m = .map (some b)) (h : RangeIs P k w b r get n left cnt) (key : Value) (kl : Lit) (hx : a.eval x = key) (hkey : keyOf P k key = some kl)
    (hK : ∀ w' n' cnt', RangeIs P k w' b r (upd get kl none) n' (fun z => left z && !z.sameKey kl) cnt' → cnt' ≤ cnt → w.mapTurned w' b → wpList P ops Q rest (a.put o.dst (.tuple #[])) w') : wpList P ops Q (o :: rest) a w := by
  obtain ⟨D, h1, h2, h3⟩ := h
  exact wpList_delete_ranges w hg m x t k hop e K ht heldR b r n D left cnt hm h1 key kl hx hkey fun w' cnt' r1 r2 r3 => hK w' _ cnt' ⟨_, rtight r1, rfl, says_del h3 (K.key hkey)⟩ r2 r3
/-- clear(s), s a slice of one-cell elements at g, o. -/
theorem wpList_clear (hgd : o.guard = none) (s : Operand) (dT elem : TypeId) (ho : o.op = .call { callee := .builtin .clear, args := #[s], argTypes := #[dT] }) (hu : P.underlying dT = some (.slice elem)) (z : Value) (hz : (zeroValue elem).run P w = .ok z w) (hz1 : z.cells = #[z])
    (h1 : z.oneCell' = true) (g off len cap : Nat) (hs : a.eval s = .slice (some ⟨g, off, none⟩) len cap) (hpos : 0 < len) (cur : Array Value) (t : TypeId) (hg : w.heap[g]? = some (.cells cur t (0, 0))) (hfit : off + len ≤ cur.size)
    (new : Array Value) (hnew : splice cur.toList off (List.replicate len z) = new.toList) (h : wpList P ops Q rest (a.put o.dst (.tuple #[])) (w.setRow g new)) : wpList P ops Q (o :: rest) a w := by
  refine wpList_plain hgd fun K hK => ?_
  have hst := run_storeCells_at P g off t (List.replicate len z) 0 cur w hg (by rw [List.length_replicate]; omega) (fun v hv => by rw [(List.mem_replicate.1 hv).2]; exact h1)
  have e : (cur.toList.take off ++ (List.replicate len z ++ cur.toList.drop (off + (List.replicate len z).length))).toArray = new := by
    apply Array.ext'
    exact hnew
  have ez : (Builtin.zeroCells z.cells len).toList = List.replicate len z := by
    rw [hz1]
    apply List.ext_getElem?
    intro i
    simp only [Builtin.zeroCells]
    by_cases hi : i < len
    · simp [hi, Nat.mod_one]
    · simp [hi]
  obtain ⟨l', hl'⟩ : ∃ l', len = l' + 1 := ⟨len - 1, by omega⟩
  have hrun : (Builtin.clear_ #[dT] o.type #[.slice (some ⟨g, off, none⟩) len cap]).run P w = .ok (.tuple #[]) (w.setRow g new) := by
    rw [← e]
    subst hl'
    simp [Builtin.clear_, run_underlying hu, hz, ez, hst, Result.andThen]
  unfold Oper.wp
  simp [execOp, ho, resolve, invoke, builtin, hs, hrun, Result.andThen]
  exact hK _ _ h
/-- A whole row read in a region that draws its order. -/
theorem still_load_row (hgd : o.guard = none) (ty : TypeId) (x : Operand) (ho : o.op = .load ty x) {Q : Act → Prop} (g : Nat) (hx : a.eval x = .pointer (some ⟨g, 0, none⟩)) (cs : Array Value) (hrun : (Instr.loadAt ty (.pointer (some ⟨g, 0, none⟩))).run P w = .ok (.agg cs) w)
    (h : wpStill P ops w Q rest (a.put o.dst (.agg cs))) : wpStill P ops w Q (o :: rest) a := by
  refine wpStill_step fun K hK => ?_
  have hw : Region.wanted o (yielded ops a.tmps) = true := by simp [Region.wanted, hgd]
  rw [if_pos hw]
  unfold Oper.still
  simp [execOp, ho, hx, hrun, Oper.stillUpon, Result.andThen]
  exact hK _ h
end
end Go.Proofs.Ytolomblbcljdfaa.Mp
