/- Package post's add as a contract of a call. -/
import Derived.Test.YtenaecpmmbigdaaPoC
import Derived.Deep.QuietTactic
import Derived.BigQuiet
namespace Go.Proofs.Ytenaecpmmbigdaa.Po
open Go.RowKit Go.Maps By Mp

theorem below_drewN {B : Nat} {a w : World} (h : Below B a w) (q : Nat) : Below B a (w.drewN q) := ⟨h.os, h.tape, h.output, h.size, h.block⟩
/-- A letter more on the way. -/
theorem pstep_add {w w2 wa w5 : World} {g : Nat} {p : P8} {v : Value} {mb : Option Nat} {S : Nat → Prop} {x : L8} {A5 : Option Addr} {c5 n : Nat} {r : Value} (hx : LOk x) (hf : (p.l.length : Int) < p.room) (h2 : PAt w2 g p v mb S) (hb2 : Below w.heap.size w w2) (hlt : ∀ b, S b → b < w.heap.size) (hba : Below w2.heap.size w2 wa)
    (ho : w5.ownsRow 0 tLet 3 (.slice A5 n c5) n (lRow p.l ++ lC x)) (hn : n = p.l.length + 1) (hg : wa.grownBy w5 v.ownBlock) (hv : ∀ b, (Value.slice A5 n c5).ownBlock = some b → v.ownBlock = some b ∨ wa.heap.size ≤ b) (hr5 : w5.heap[g]? = some (.cells #[v, .map mb, .int .i64 p.room] tPost (0, 0))) :
    PStep r g { p with l := p.l ++ [x] } S w (.returned r) (w5.setCell ⟨g, 0, none⟩ (.slice A5 n c5)) := by
  subst hn
  have hz2 := hb2.size
  have hza := hba.size
  have hz5 := hg.size
  have hs : (w5.setCell ⟨g, 0, none⟩ (.slice A5 (p.l.length + 1) c5)).heap.size = w5.heap.size := by simp [World.setCell]
  have hgo : ∀ b, b ≠ g → (w5.setCell ⟨g, 0, none⟩ (.slice A5 (p.l.length + 1) c5)).heap[b]? = w5.heap[b]? := fun b hb => heap_setCell_other w5 ⟨g, 0, none⟩ b _ hb
  have hgl := h2.glt
  have hne : ∀ b, (Value.slice A5 (p.l.length + 1) c5).ownBlock = some b → b ≠ g := fun b hb e => by
    subst e
    rcases hv b hb with h | h
    · exact h2.vg h
    · omega
  have h5 : ∀ b, b < w2.heap.size → v.ownBlock ≠ some b → w5.heap[b]? = w2.heap[b]? := fun b hb hne => (hg.block b (by omega) (fun e => hne e.symm)).trans (hba.block b hb)
  refine ⟨rfl, fun b => S b ∨ (w.heap.size ≤ b ∧ b < w5.heap.size), ⟨.slice A5 (p.l.length + 1) c5, mb, ⟨?_, ?_, ?_, .inl h2.sg, fun b hb => ?_, fun b hb => .inl (h2.sm b hb), fun b hb => ?_, ⟨h2.ok.room, ?_, fun y hy => ?_, h2.ok.nodup, h2.ok.ends⟩⟩⟩, fun b hb => hb.imp id And.left, ⟨?_, ?_, ?_, ?_, ?_⟩⟩
  · exact heap_setCell_same w5 g 0 _ _ _ hr5
  · have := ownsRow_keep ho (fun b hb => hgo b (hne b hb))
    show World.ownsRow _ 0 tLet 3 _ (p.l ++ [x]).length (lRow (p.l ++ [x]))
    rw [List.length_append, lRow_app]
    simpa [lRow] using this
  · exact h2.map.keep (fun b hb => (hgo b (fun e => h2.mg (by rw [hb, e]))).trans (h5 b (h2.lt b (h2.sm b hb)) (h2.mv hb)))
  · rcases hv b hb with h | h
    · exact .inl (h2.sv b h)
    · refine .inr ⟨by omega, ?_⟩
      have := (ownsRow_lt ho hb).2
      exact this
  · rw [hs]
    rcases hb with hb | hb
    · have := hlt b hb; omega
    · exact hb.2
  · show ((p.l ++ [x]).length : Int) ≤ p.room
    simp; omega
  · rcases List.mem_append.1 hy with hy | hy
    · exact h2.ok.lets y hy
    · rw [List.mem_singleton.1 hy]; exact hx
  · exact hg.os.trans (hba.os.trans hb2.os)
  · exact hg.tape.trans (hba.tape.trans hb2.tape)
  · exact hg.output.trans (hba.output.trans hb2.output)
  · rw [hs]; omega
  · intro b hb hn
    exact ((hgo b (fun e => hn (e ▸ h2.sg))).trans (h5 b (by omega) (fun e => hn (h2.sv b e)))).trans (hb2.block b hb)
abbrev tLets : TypeId := 51
set_option maxHeartbeats 800000 in
theorem add_full (g : Nat) (p : P8) (S : Nat → Prop) (x : L8) (w : World) (h : PostIs w g p S) (hf : p.room ≤ (p.l.length : Int)) :
    Calls Try.prog 28 #[.pointer (some ⟨g, 0, none⟩), letV x] w (PStep (.int .i64 10) g p S w) := by
  have HP := Lib.hid h
  obtain ⟨v, mb, h⟩ := h
  obtain ⟨w1, hw1⟩ : ∃ w1, w1 = w.alloc (.cells #[.int .i64 x.a, .int .i64 x.b, .string (str x.d)] tLet) := ⟨_, rfl⟩
  have hb1 : Below w.heap.size w w1 := by rw [hw1]; exact (Below.refl _ _).alloc (Nat.le_refl _) _
  obtain ⟨A, c, rfl⟩ := ownsRow_form h.own
  obtain ⟨p0, p1, p2⟩ := (h.below hb1).cells
  have HB := Lib.hid hb1
  have HW1 := Lib.hid hw1
  clear h hb1 hw1
  go_enter Try.func28, Try.ntmps28
  go_upto_region 1 with fail
  rw [← HW1.out]
  go_quiet (fail)
  go_wp2
  go_ret
  exact pstep_same HP.out (below_drewN HB.out _)
set_option maxHeartbeats 1600000 in
theorem add_ok (g : Nat) (p : P8) (S : Nat → Prop) (x : L8) (w : World) (h : PostIs w g p S) (hx : LOk x) (hf : (p.l.length : Int) < p.room) :
    Calls Try.prog 28 #[.pointer (some ⟨g, 0, none⟩), letV x] w (PStep (.int .i64 0) g { p with l := p.l ++ [x] } S w) := by
  obtain ⟨v, mb, h⟩ := h
  obtain ⟨w1, hw1⟩ : ∃ w1, w1 = w.alloc (.cells #[.int .i64 x.a, .int .i64 x.b, .string (str x.d)] tLet) := ⟨_, rfl⟩
  have hb1 : Below w.heap.size w w1 := by rw [hw1]; exact (Below.refl _ _).alloc (Nat.le_refl _) _
  have hr1 : w1.heap[w.heap.size]? = some (.cells #[.int .i64 x.a, .int .i64 x.b, .string (str x.d)] tLet (0, 0)) := by rw [hw1]; exact heap_alloc_new w _
  obtain ⟨A, c, hv⟩ := ownsRow_form h.own
  have h1 := h.below hb1
  obtain ⟨p0, p1, p2⟩ := h1.cells
  have HP := Lib.hid h
  have H1 := Lib.hid h1
  have HR1 := Lib.hid hr1
  have HB := Lib.hid hb1
  have HW1 := Lib.hid hw1
  have HX := Lib.hid hx
  have HF := Lib.hid hf
  have HV := Lib.hid hv
  rw [hv] at p0
  clear h h1 hb1 hw1 hr1 hx hv
  go_enter Try.func28, Try.ntmps28
  go_upto_region 1 with fail
  rw [← HW1.out]
  go_quiet (fail)
  go_upto_region 3 with fail
  obtain ⟨w2, hw2⟩ : ∃ w2, w2 = w1.drewN nq := ⟨_, rfl⟩
  have h2 : PAt w2 g p v mb S := by rw [hw2]; exact H1.out.below (below_drewN (Below.refl _ _) _)
  have hr2 : w2.heap[w.heap.size]? = some (.cells #[.int .i64 x.a, .int .i64 x.b, .string (str x.d)] tLet (0, 0)) := by rw [hw2]; exact HR1.out
  have HB2 := Lib.hid (show Below w.heap.size w w2 by rw [hw2]; exact below_drewN HB.out _)
  rw [← hw2]
  have hba : Below w2.heap.size w2 (w2.alloc (.cells #[.int .i64 x.a, .int .i64 x.b, .string (str x.d)] tLet)).drew := ((Below.refl _ _).alloc (Nat.le_refl _) _).drew
  have ha := h2.below hba
  obtain ⟨c0, c1, c2⟩ := lcells hr2
  obtain ⟨e0, e1, e2⟩ := lcells ((hba.block _ (row_lt hr2)).trans hr2)
  obtain ⟨p0, -, -⟩ := h2.cells
  obtain ⟨r0, -, -⟩ := ha.cells
  have HH := Lib.hid h2
  have HBA := Lib.hid hba
  have HOW := Lib.hid ha.own
  have HRA := Lib.hid ha.row
  have HNC := Lib.hid (show 0 < 1 → ∃ a, (some (⟨w2.heap.size, 0, none⟩ : Addr)) = some a ∧ ∀ j u, (lC x)[j]? = some u → (w2.alloc (.cells #[.int .i64 x.a, .int .i64 x.b, .string (str x.d)] tLet)).drew.cell? (a.add j) = some u from fun _ => ⟨_, rfl, by
    intro j u hu
    rw [plainAdd, Nat.zero_add]
    refine Eq.trans (cell_of_row (w2.alloc (.cells #[.int .i64 x.a, .int .i64 x.b, .string (str x.d)] tLet)) _ j _ _ _ (heap_alloc_new w2 _)) ?_
    simpa [lC] using hu⟩)
  have HN1 := Lib.hid (show ∀ u ∈ lC x, u.oneCell' = true by
    intro u hu
    simp only [lC, List.mem_cons, List.not_mem_nil, or_false] at hu
    rcases hu with rfl | rfl | rfl <;> rfl)
  have HNN := Lib.hid (show p.l.length + 1 ≤ 1073741824 by have := h2.ok.few; have := h2.ok.room.2; omega)
  have HVG := Lib.hid h2.vg
  clear hw2 h2 hr2 hba ha
  go_region_law (refine step_appG Try.underlying51 letInfo rfl (by decide) (by decide) rfl (.tmp 19) (.tmp 21) rfl 0 v p.l.length (lRow p.l) rfl HOW.out (some ⟨w2.heap.size, 0, none⟩) 1 1 rfl (lC x) rfl HNC.out HN1.out HNN.out (Nat.zero_le _) ?_; intro v5 w5 ho5 hg5 hv5
                 obtain ⟨A5, c5, rfl⟩ := ownsRow_form ho5
                 have hr5 := (hg5.block g (row_lt HRA.out) (fun e => HVG.out e.symm)).trans HRA.out
                 have hc5 : w5.cell? ⟨g, 0, none⟩ = some v := by rw [cell_of_row w5 g 0 _ _ _ hr5]; rfl
                 have hf5 : w5.frozen? ⟨g, 0, none⟩ = false := frozen_of_row w5 g 0 _ _ hr5
                 have HO5 := Lib.hid ho5
                 have HG5 := Lib.hid (show (w2.alloc (.cells #[.int .i64 x.a, .int .i64 x.b, .string (str x.d)] tLet)).drew.grownBy w5 v.ownBlock from hg5)
                 have HV5 := Lib.hid (show ∀ b, (Value.slice A5 (p.l.length + 1) c5).ownBlock = some b → v.ownBlock = some b ∨ (w2.alloc (.cells #[.int .i64 x.a, .int .i64 x.b, .string (str x.d)] tLet)).drew.heap.size ≤ b from hv5)
                 have HR5 := Lib.hid hr5
                 clear ho5 hg5 hv5 hr5)
  all_goals
    go_wp2
    go_ret
    exact pstep_add HX.out HF.out HH.out HB2.out HP.out.lt HBA.out HO5.out rfl HG5.out HV5.out HR5.out
end Go.Proofs.Ytenaecpmmbigdaa.Po
