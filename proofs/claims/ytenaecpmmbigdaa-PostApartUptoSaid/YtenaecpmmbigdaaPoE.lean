/- Package post's Send and Twin as contracts of calls. -/
import Derived.Test.YtenaecpmmbigdaaPoD
namespace Go.Proofs.Ytenaecpmmbigdaa.Po
open Go.RowKit Go.Maps By Mp

theorem PStep.lift {val : Value} {g : Nat} {p' : P8} {S : Nat → Prop} {w w3 : World} (hb : Below w.heap.size w w3) {e : Ending} {w' : World} (h : PStep val g p' S w3 e w') : PStep val g p' S w e w' := by
  obtain ⟨rfl, S', h1, h2, h3⟩ := h
  exact ⟨rfl, S', h1, fun b hb' => (h2 b hb').imp id (fun h => Nat.le_trans hb.size h), (Kept.of_below hb).trans h3⟩
def sendR (p : P8) (a b : Int) (d : Bs) : P8 × Int :=
  if ¬ Sound8 a b then (p, 1) else if 65536 < d.length then (p, 7) else if (a, b) ∈ p.cuts then (p, 11) else if p.room ≤ (p.l.length : Int) then (p, 10) else ({ p with l := p.l ++ [⟨a, b, d⟩] }, 0)
theorem set2 {w : World} {g : Nat} {t : TypeId} {b0 b1 : Value} (hr : w.heap[g]? = some (.cells #[b0, b1] t (0, 0))) (a0 a1 : Value) :
    ((w.setCell ⟨g, 0, none⟩ a0).setCell ⟨g, 1, none⟩ a1).heap[g]? = some (.cells #[a0, a1] t (0, 0)) :=
  Go.heap_setCell_same _ _ 1 _ _ a1 (Go.heap_setCell_same w _ 0 _ _ a0 hr)
theorem kept2 (w : World) (g : Nat) (a0 a1 : Value) : Kept (fun b => b = g) w ((w.setCell ⟨g, 0, none⟩ a0).setCell ⟨g, 1, none⟩ a1) :=
  ((Kept.refl (fun b => b = g) w).setCell (p := ⟨g, 0, none⟩) (fun _ => rfl) a0).setCell (p := ⟨g, 1, none⟩) (fun _ => rfl) a1
/-- The world in which a way lies in a box of its own. -/
def wayW (w : World) (a b : Int) : World := w.alloc (.cells #[.int .i64 a, .int .i64 b] tWay)
theorem wayW_row (w : World) (a b : Int) : (wayW w a b).heap[w.heap.size]? = some (.cells #[.int .i64 a, .int .i64 b] tWay (0, 0)) := heap_alloc_new w _
theorem wayW_below (w : World) (a b : Int) : Below w.heap.size w (wayW w a b) := (Below.refl _ _).alloc (Nat.le_refl _) _
set_option maxHeartbeats 1600000 in
theorem send_any (g : Nat) (p : P8) (S : Nat → Prop) (a b : Int) (A : Option Addr) (n c : Nat) (d : Bs) (w : World) (h : PostIs w g p S) (hn : n = d.length) (hA : Lies w w.heap.size A d) :
    Calls Try.prog 13 #[.pointer (some ⟨g, 0, none⟩), .int .i64 a, .int .i64 b, .slice A n c] w (PStep (.int .i64 (sendR p a b d).2) g (sendR p a b d).1 S w) := by
  obtain ⟨r, hr⟩ : ∃ r, r = sendR p a b d := ⟨_, rfl⟩
  rw [← hr]
  unfold sendR at hr
  obtain ⟨w1, hw1⟩ : ∃ w1, w1 = wayW w a b := ⟨_, rfl⟩
  have hb1 : Below w.heap.size w w1 := by rw [hw1]; exact wayW_below w a b
  have hr1 : w1.heap[w.heap.size]? = some (.cells #[.int .i64 a, .int .i64 b] tWay (0, 0)) := by rw [hw1]; exact wayW_row w a b
  obtain ⟨c0, c1⟩ := wcells hr1
  have q := ptrTest
  have HP := Lib.hid h
  have HR1 := Lib.hid hr1
  have HB1 := Lib.hid hb1
  have HW1 := Lib.hid hw1
  have HN := Lib.hid hn
  have HLA := Lib.hid hA
  have HS := Lib.hid (isSound_any a b w1)
  unfold wayW at HW1
  clear h hr1 hb1 hw1 hn hA
  by_cases hs : Sound8 a b
  · rw [if_neg (fun e => e hs)] at hr
    have HRES := Lib.hid hr
    have HSO := Lib.hid hs
    rw [decide_eq_true hs] at HS
    clear hr hs
    go_enter Try.func13, Try.ntmps13
    go_upto_region 2 with fail
    rw [← HW1.out]
    go_wp2_with fail
    refine HS.out.mono ?_
    rintro e w2 ⟨rfl, hb2⟩
    have HR2 := Lib.hid ((hb2.block _ (row_lt HR1.out)).trans HR1.out)
    have HB2 := Lib.hid (By.ext HB1.out hb2)
    clear c0 c1 hb2 HS
    obtain ⟨c0, c1⟩ := wcells HR2.out
    by_cases hl : 65536 < d.length
    · have hli : (65536 : Int) < (n : Int) := by have := HN.out; omega
      have HRES2 := Lib.hid (HRES.out.trans (if_pos hl))
      clear hl
      go_wp2
      go_ret
      rw [HRES2.out]
      exact pstep_same HP.out HB2.out
    · have hli : ¬ (65536 : Int) < (n : Int) := by have := HN.out; omega
      have HRES2 := Lib.hid (HRES.out.trans (if_neg hl))
      have HDL := Lib.hid (Nat.le_of_not_lt hl)
      have HC := Lib.hid (isCut_any g p S a b w2 (HP.out.below HB2.out) HSO.out.1 HSO.out.2.1)
      clear hl
      by_cases hc : (a, b) ∈ p.cuts
      · have HRES3 := Lib.hid (HRES2.out.trans (if_pos hc))
        rw [decide_eq_true hc] at HC
        clear hc
        go_wp2_with fail
        refine HC.out.mono ?_
        rintro e w3 ⟨rfl, hb3⟩
        have HB3 := Lib.hid (By.ext HB2.out hb3)
        clear hb3 HC
        go_wp2
        go_ret
        rw [HRES3.out]
        exact pstep_same HP.out HB3.out
      · have HRES3 := Lib.hid (HRES2.out.trans (if_neg hc))
        rw [decide_eq_false hc] at HC
        clear hc
        go_wp2_with fail
        refine HC.out.mono ?_
        rintro e w3 ⟨rfl, hb3⟩
        have HR3 := Lib.hid ((hb3.block _ (row_lt HR2.out)).trans HR2.out)
        have HB3 := Lib.hid (By.ext HB2.out hb3)
        clear c0 c1 hb3 HC
        obtain ⟨c0, c1⟩ := wcells HR3.out
        have ht : (convert 33 9 (.slice A n c)).run Try.prog w3 = .ok (.string (str d)) w3 := run_text w3 c HN.out (HLA.out.below HB3.out)
        by_cases hf : p.room ≤ (p.l.length : Int)
        · have HRES4 := Lib.hid (HRES3.out.trans (if_pos hf))
          have HAD := Lib.hid (add_full g p S ⟨a, b, d⟩ w3 (HP.out.below HB3.out) hf)
          clear hf
          go_wp2_with fail
          refine HAD.out.mono ?_
          rintro e w4 h4
          have H4 := Lib.hid h4
          obtain ⟨rfl, -⟩ := h4
          go_wp2
          go_ret
          rw [HRES4.out]
          exact H4.out.lift HB3.out
        · have HRES4 := Lib.hid (HRES3.out.trans (if_neg hf))
          have HAD := Lib.hid (add_ok g p S ⟨a, b, d⟩ w3 (HP.out.below HB3.out) ⟨HSO.out.1, HSO.out.2.1, HDL.out⟩ (by omega))
          clear hf
          go_wp2_with fail
          refine HAD.out.mono ?_
          rintro e w4 h4
          have H4 := Lib.hid h4
          obtain ⟨rfl, -⟩ := h4
          go_wp2
          go_ret
          rw [HRES4.out]
          exact H4.out.lift HB3.out
  · rw [if_pos hs] at hr
    have HRES := Lib.hid hr
    rw [decide_eq_false hs] at HS
    clear hr hs
    go_enter Try.func13, Try.ntmps13
    go_upto_region 2 with fail
    rw [← HW1.out]
    go_wp2_with fail
    refine HS.out.mono ?_
    rintro e w2 ⟨rfl, hb2⟩
    have HB2 := Lib.hid (By.ext HB1.out hb2)
    clear hb2 HS
    go_wp2
    go_ret
    rw [HRES.out]
    exact pstep_same HP.out HB2.out
end Go.Proofs.Ytenaecpmmbigdaa.Po
