/- Two disks of the reference stored over whole rows of the call's own (DiskSwaps: *x, *y = *w, *w). No walk. -/
import Derived.Test.YtcfnfphnjkllcaaLaU
namespace Go.Proofs.Ytcfnfphnjkllcaa.Dk
open Go.RowKit Go.Maps By Mp

/-- Five stores over a row. -/
def five (w : World) (x : Nat) (v u : Value) (a b : Int) (d : Bool) : World :=
  ((((w.setCell ⟨x, 0, none⟩ v).setCell ⟨x, 1, none⟩ u).setCell ⟨x, 2, none⟩ (.int .i64 a)).setCell ⟨x, 3, none⟩ (.int .i64 b)).setCell ⟨x, 4, none⟩ (.bool d)
theorem five_row {w : World} {x : Nat} {v0 u0 : Value} {a0 b0 : Int} {d0 : Bool} (h : w.heap[x]? = some (.cells (rdC v0 u0 a0 b0 d0) tRD (0, 0))) (v u : Value) (a b : Int) (d : Bool) :
    (five w x v u a b d).heap[x]? = some (.cells (rdC v u a b d) tRD (0, 0)) := by
  have h1 := Go.heap_setCell_same w x 0 _ _ v h
  have h2 := Go.heap_setCell_same _ x 1 _ _ u h1
  have h3 := Go.heap_setCell_same _ x 2 _ _ (.int .i64 a) h2
  have h4 := Go.heap_setCell_same _ x 3 _ _ (.int .i64 b) h3
  have h5 := Go.heap_setCell_same _ x 4 _ _ (.bool d) h4
  exact h5
theorem five_far (w : World) {x k : Nat} (hk : k ≠ x) (v u : Value) (a b : Int) (d : Bool) : (five w x v u a b d).heap[k]? = w.heap[k]? := by
  unfold five
  rw [heap_setCell_other _ _ _ _ hk, heap_setCell_other _ _ _ _ hk, heap_setCell_other _ _ _ _ hk, heap_setCell_other _ _ _ _ hk, heap_setCell_other _ _ _ _ hk]
theorem five_below {w0 w : World} (hb : Below w0.heap.size w0 w) {x : Nat} (hx : w0.heap.size ≤ x) (v u : Value) (a b : Int) (d : Bool) : Below w0.heap.size w0 (five w x v u a b d) :=
  belowSet (belowSet (belowSet (belowSet (belowSet hb _ hx _) _ hx _) _ hx _) _ hx _) _ hx _
/-- Both rows are the row that was read. -/
def twiceRow (w : World) (x : Nat) (v u : Value) (a b : Int) (d : Bool) : World := (five (five w x v u a b d) (x + 1) v u a b d).drew
theorem two_copied {w0 w : World} {x : Nat} {v0 u0 v1 u1 : Value} {a0 b0 a1 b1 : Int} {d0 d1 : Bool} (hb : Below w0.heap.size w0 w) (hx : w0.heap.size ≤ x)
    (h : w.heap[x]? = some (.cells (rdC v0 u0 a0 b0 d0) tRD (0, 0))) (h' : w.heap[x + 1]? = some (.cells (rdC v1 u1 a1 b1 d1) tRD (0, 0))) (v u : Value) (a b : Int) (d : Bool) :
    (twiceRow w x v u a b d).heap[x]? = some (.cells (rdC v u a b d) tRD (0, 0))
    ∧ (twiceRow w x v u a b d).heap[x + 1]? = some (.cells (rdC v u a b d) tRD (0, 0))
    ∧ Below w0.heap.size w0 (twiceRow w x v u a b d) := by
  unfold twiceRow
  rw [heap_drew]
  exact ⟨(five_far _ (Nat.ne_of_lt (Nat.lt_succ_self x)) v u a b d).trans (five_row h v u a b d), five_row ((five_far w (Nat.succ_ne_self x) v u a b d).trans h') v u a b d,
    (five_below (five_below hb hx v u a b d) (Nat.le_succ_of_le hx) v u a b d).drew⟩
end Go.Proofs.Ytcfnfphnjkllcaa.Dk
