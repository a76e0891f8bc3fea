/- Package slot's aside: the turns of the files that are not the value's, as a contract of a call. -/
import Derived.Test.YtjnmolpopjapnaaDoorSoF
import Derived.Laws.CopyOwn
namespace Go.Proofs.YtjnmolpopjapnaaDoor.So
open Go.RowKit Go.Maps By Mp Dk

def ints (l : List Nat) : List Value := l.map fun (x : Nat) => Value.int .i64 (x : Int)
theorem iInfo : (Tryd.prog.info? 3).map (fun i => (i.zero, i.size, i.bytes)) = some (some (.int .i64 0), 1, 8) := by kernel_rfl
/-- Turns of the call's own. -/
def OwnT (base : Nat) (w : World) (v : Value) (l : List Nat) : Prop := w.ownsRow base 3 1 v l.length (ints l)
theorem ownT_nil (base : Nat) (w : World) : OwnT base w (.slice none 0 0) [] := World.ownsRow_nil w base _ 1
theorem ownT_form {base : Nat} {w : World} {v : Value} {l : List Nat} (h : OwnT base w v l) : ∃ A c, v = .slice A l.length c := by
  rcases h.2 with ⟨rfl, h0⟩ | ⟨g, cap, cur, rfl, _⟩
  · exact ⟨none, 0, by rw [h0]⟩
  · exact ⟨_, _, rfl⟩
def asideB (b0 b1 b2 : Bool) (el : Option Nat) (k : Nat) : List Nat := ([0, 1, 2].take k).filter fun t => (if t = 0 then b0 else if t = 1 then b1 else b2) && !(some t == el)
theorem aside_eq (f : Nat → Fl) (el : Option Nat) : aside f el = asideB (f 0).isSome (f 1).isSome (f 2).isSome el 3 := by
  unfold aside asideB
  apply List.filter_congr
  intro t ht
  simp only [List.mem_cons, List.not_mem_nil, or_false] at ht
  rcases ht with rfl | rfl | rfl <;> rfl
theorem aside_yes {b0 b1 b2 : Bool} {el : Option Nat} {k : Nat} (hk : k < 3) (h : (if k = 0 then b0 else if k = 1 then b1 else b2) = true) (he : some k ≠ el) : asideB b0 b1 b2 el (k + 1) = asideB b0 b1 b2 el k ++ [k] := by
  have hp : ((if k = 0 then b0 else if k = 1 then b1 else b2) && !(some k == el)) = true := by
    have e2 : (some k == el) = false := by simpa using he
    rw [h, e2]; rfl
  have ht : ([0, 1, 2] : List Nat).take (k + 1) = ([0, 1, 2] : List Nat).take k ++ [k] := by rcases lt3 hk with rfl | rfl | rfl <;> rfl
  unfold asideB
  rw [ht, List.filter_append]
  congr 1
  simp only [List.filter, hp]
theorem aside_no {b0 b1 b2 : Bool} {el : Option Nat} {k : Nat} (hk : k < 3) (h : (if k = 0 then b0 else if k = 1 then b1 else b2) = false ∨ some k = el) : asideB b0 b1 b2 el (k + 1) = asideB b0 b1 b2 el k := by
  have hp : ((if k = 0 then b0 else if k = 1 then b1 else b2) && !(some k == el)) = false := by
    rcases h with h | h
    · rw [h]; rfl
    · rw [h]; simp
  have ht : ([0, 1, 2] : List Nat).take (k + 1) = ([0, 1, 2] : List Nat).take k ++ [k] := by rcases lt3 hk with rfl | rfl | rfl <;> rfl
  unfold asideB
  rw [ht, List.filter_append]
  simp only [List.filter, hp, List.append_nil]
theorem aside_len (b0 b1 b2 : Bool) (el : Option Nat) (k : Nat) : (asideB b0 b1 b2 el k).length ≤ 3 := by
  unfold asideB
  exact Nat.le_trans (List.length_filter_le _ _) (by rw [List.length_take]; exact Nat.min_le_right _ _)
def AsidePost (l : List Nat) (w : World) (e : Ending) (w' : World) : Prop := ∃ v, e = .returned v ∧ OwnT w.heap.size w' v l ∧ Below w.heap.size w w'
set_option maxRecDepth 100000 in
set_option maxHeartbeats 4000000 in
theorem aside_any (b0 c0 : Bool) (X0 : Option Addr) (n0 m0 : Nat) (b1 c1 : Bool) (X1 : Option Addr) (n1 m1 : Nat) (b2 c2 : Bool) (X2 : Option Addr) (n2 m2 : Nat) (el : Option Nat) (w : World) :
    Calls Tryd.prog 36 #[.agg (filC b0 c0 (.slice X0 n0 m0) b1 c1 (.slice X1 n1 m1) b2 c2 (.slice X2 n2 m2)), .int .i64 (turnI el)] w (AsidePost (asideB b0 b1 b2 el 3) w) := by
  obtain ⟨E, hE⟩ : ∃ E, E = turnI el := ⟨_, rfl⟩
  have HEL := Lib.hid (fun (k : Nat) => (show ((k : Int) = E) ↔ some k = el by rw [hE]; exact turnI_at k el))
  rw [← hE]
  clear hE
  have HB0 := Lib.hid (nAlloc (Below.refl w.heap.size w) (Nat.le_refl _) (.cells (filC b0 c0 (.slice X0 n0 m0) b1 c1 (.slice X1 n1 m1) b2 c2 (.slice X2 n2 m2)) tSFiles))
  have HLEN := Lib.hid (aside_len b0 b1 b2 el)
  go_enter Tryd.func36, Tryd.ntmps36
  unfold filC
  go_wp2
  go_loopw [5, 9] (fun v i wr => ∃ k : Nat, k ≤ 3 ∧ i = .int .i64 (k : Int) ∧ OwnT w.heap.size wr v (asideB b0 b1 b2 el k) ∧ Below w.heap.size w wr) (fun _ i _ => 3 - (intOf i).toNat)
  case atStart => exact ⟨0, by decide, rfl, ownT_nil _ _, HB0.out⟩
  case round =>
    obtain ⟨k, hk, hi, ho, hb⟩ := hrel
    have HB := Lib.hid hb
    have HO := Lib.hid ho
    have hcases : k = 0 ∨ k = 1 ∨ k = 2 ∨ k = 3 := by omega
    obtain ⟨Au, cu, hv⟩ := ownT_form ho
    subst hv
    clear ho hb
    rcases hcases with rfl | rfl | rfl | rfl
    · replace hi : _ = Value.int .i64 0 := hi
      subst hi
      have hix := ix_0 (.bool b0) (.bool c0) (.slice X0 n0 m0) (.bool b1) (.bool c1) (.slice X1 n1 m1) (.bool b2) (.bool c2) (.slice X2 n2 m2)
      have HNB := Lib.hid (heap_alloc_new wr (.cells #[.bool b0, .bool c0, .slice X0 n0 m0] tSFile))
      obtain ⟨wf, hwf⟩ : ∃ wf, wf = wr.alloc (.cells #[.bool b0, .bool c0, .slice X0 n0 m0] tSFile) := ⟨_, rfl⟩
      have HBF := Lib.hid (show Below w.heap.size w wf by rw [hwf]; exact nAlloc HB.out (Nat.le_refl _) _)
      have HOF := Lib.hid (show OwnT w.heap.size wf (.slice Au (asideB b0 b1 b2 el 0).length cu) (asideB b0 b1 b2 el 0) by rw [hwf]; exact HO.out.alloc _)
      by_cases hno : b0 = false ∨ some 0 = el
      · have HL := Lib.hid (aside_no (b0 := b0) (b1 := b1) (b2 := b2) (k := 0) (by decide) hno)
        have HFIN := Lib.hid (show OwnT w.heap.size wf (.slice Au (asideB b0 b1 b2 el 0).length cu) (asideB b0 b1 b2 el 1) by rw [HL.out]; exact HOF.out)
        obtain ⟨u, hu⟩ : ∃ u, u = (asideB b0 b1 b2 el 0).length := ⟨_, rfl⟩
        rw [← hu] at HFIN ⊢
        rw [hwf] at HFIN HBF
        clear hu hwf
        by_cases hbk : b0 = false
        · clear hno
          subst hbk
          go_wp2
          go_roundw
          case rel => exact ⟨1, by decide, rfl, HFIN.out, HBF.out⟩
          case measure => simp [intOf]
        · replace hbk : b0 = true := by simpa using hbk
          have hek : E = 0 := ((HEL.out 0).2 (hno.resolve_left (by rw [hbk]; decide))).symm
          clear hno
          subst hbk
          subst hek
          go_wp2
          go_roundw
          case rel => exact ⟨1, by decide, rfl, HFIN.out, HBF.out⟩
          case measure => simp [intOf]
      · have hbk : b0 = true := by cases h : b0 <;> simp_all
        have hnk : some 0 ≠ el := fun e => hno (.inr e)
        have HL := Lib.hid (aside_yes (b0 := b0) (b1 := b1) (b2 := b2) (k := 0) (by decide) hbk hnk)
        have hei : ¬ ((0 : Int) = E) := fun e => hnk ((HEL.out 0).1 e)
        have hei1 : ((0 : Int) == E) = false := beq_eq_false_iff_ne.2 hei
        have hei2 : ((0 : Int) != E) = true := bne_iff_ne.2 hei
        clear hno hnk
        have HZ2 := Lib.hid HBF.out.size
        have HLE := Lib.hid (HLEN.out 0)
        obtain ⟨l, hl⟩ : ∃ l, l = asideB b0 b1 b2 el 0 := ⟨_, rfl⟩
        rw [← hl] at HL HOF HLE HO ⊢
        have HIA := Lib.hid (show (wf.alloc (.cells #[.int .i64 0] 3)).ownsRow w.heap.size 3 1 (.slice Au l.length cu) l.length (ints l) from HOF.out.alloc _)
        have HNC := Lib.hid (show ∀ (j : Nat) (u : Value), [Value.int .i64 0][j]? = some u → (wf.alloc (.cells #[.int .i64 0] 3)).cell? ((⟨wf.heap.size, 0, none⟩ : Addr).add j) = some u from by
          intro j u hu
          rw [plainAdd, Nat.zero_add, cell_of_row _ _ j _ _ _ (heap_alloc_new wf _)]
          simpa using hu)
        have HN1 := Lib.hid (show ∀ u ∈ [Value.int .i64 0], u.oneCell' = true from by
          intro u hu
          simp only [List.mem_cons, List.not_mem_nil, or_false] at hu
          subst hu
          rfl)
        have HZ3 := Lib.hid (show w.heap.size ≤ (wf.alloc (.cells #[.int .i64 0] 3)).heap.size by simp; have := HZ2.out; omega)
        have HBA := Lib.hid (nAlloc HBF.out (Nat.le_refl _) (.cells #[.int .i64 0] 3))
        obtain ⟨i0, hi, hz0, hz1, hz2⟩ := info_parts iInfo
        obtain ⟨u, hu⟩ : ∃ u, u = l.length := ⟨_, rfl⟩
        rw [← hu] at HIA HLE ⊢
        have HU := Lib.hid hu
        have hz : wf.heap.size = wr.heap.size + 1 := by rw [hwf]; simp
        rw [hz] at HNC
        clear hz
        rw [hwf] at HIA HNC HZ3 HBA
        clear hu hwf hl
        subst hbk
        go_wp2_with (at_builtin; refine wpList_append_own _ rfl (.tmp 20) (.tmp 22) 75 rfl w.heap.size 3 i0 _ 1 8 Tryd.underlying75 hi hz0 hz1 hz2 rfl (by decide) _ u (ints l) rfl HIA.out ⟨wr.heap.size + 1, 0, none⟩ 1 1 [Value.int .i64 0] rfl rfl HNC.out HN1.out (by have := HLE.out; unfold maxLen; omega) (by have := HLE.out; omega) HZ3.out ?_; intro v3 w3 ho3 hg3 _)
        have HFIN := Lib.hid (show OwnT w.heap.size w3 v3 (asideB true b1 b2 el 1) from by
          have h1 : ints (asideB true b1 b2 el 1) = ints l ++ [Value.int .i64 0] := by rw [HL.out]; unfold ints; rw [List.map_append]; rfl
          have h2 : (asideB true b1 b2 el 1).length = u + 1 := by rw [HL.out, List.length_append, ← HU.out]; rfl
          unfold OwnT
          rw [h1, h2]
          exact ho3)
        have HB3 := Lib.hid (HBA.out.grown hg3 HZ3.out (fun q e => (ownsRow_lt HIA.out (show (Value.slice Au u cu).ownBlock = some q from e)).1))
        clear ho3 hg3
        go_roundw
        case rel => exact ⟨1, by decide, rfl, HFIN.out, HB3.out⟩
        case measure => simp [intOf]
    · replace hi : _ = Value.int .i64 1 := hi
      subst hi
      have hix := ix_1 (.bool b0) (.bool c0) (.slice X0 n0 m0) (.bool b1) (.bool c1) (.slice X1 n1 m1) (.bool b2) (.bool c2) (.slice X2 n2 m2)
      have HNB := Lib.hid (heap_alloc_new wr (.cells #[.bool b1, .bool c1, .slice X1 n1 m1] tSFile))
      obtain ⟨wf, hwf⟩ : ∃ wf, wf = wr.alloc (.cells #[.bool b1, .bool c1, .slice X1 n1 m1] tSFile) := ⟨_, rfl⟩
      have HBF := Lib.hid (show Below w.heap.size w wf by rw [hwf]; exact nAlloc HB.out (Nat.le_refl _) _)
      have HOF := Lib.hid (show OwnT w.heap.size wf (.slice Au (asideB b0 b1 b2 el 1).length cu) (asideB b0 b1 b2 el 1) by rw [hwf]; exact HO.out.alloc _)
      by_cases hno : b1 = false ∨ some 1 = el
      · have HL := Lib.hid (aside_no (b0 := b0) (b1 := b1) (b2 := b2) (k := 1) (by decide) hno)
        have HFIN := Lib.hid (show OwnT w.heap.size wf (.slice Au (asideB b0 b1 b2 el 1).length cu) (asideB b0 b1 b2 el 2) by rw [HL.out]; exact HOF.out)
        obtain ⟨u, hu⟩ : ∃ u, u = (asideB b0 b1 b2 el 1).length := ⟨_, rfl⟩
        rw [← hu] at HFIN ⊢
        rw [hwf] at HFIN HBF
        clear hu hwf
        by_cases hbk : b1 = false
        · clear hno
          subst hbk
          go_wp2
          go_roundw
          case rel => exact ⟨2, by decide, rfl, HFIN.out, HBF.out⟩
          case measure => simp [intOf]
        · replace hbk : b1 = true := by simpa using hbk
          have hek : E = 1 := ((HEL.out 1).2 (hno.resolve_left (by rw [hbk]; decide))).symm
          clear hno
          subst hbk
          subst hek
          go_wp2
          go_roundw
          case rel => exact ⟨2, by decide, rfl, HFIN.out, HBF.out⟩
          case measure => simp [intOf]
      · have hbk : b1 = true := by cases h : b1 <;> simp_all
        have hnk : some 1 ≠ el := fun e => hno (.inr e)
        have HL := Lib.hid (aside_yes (b0 := b0) (b1 := b1) (b2 := b2) (k := 1) (by decide) hbk hnk)
        have hei : ¬ ((1 : Int) = E) := fun e => hnk ((HEL.out 1).1 e)
        have hei1 : ((1 : Int) == E) = false := beq_eq_false_iff_ne.2 hei
        have hei2 : ((1 : Int) != E) = true := bne_iff_ne.2 hei
        clear hno hnk
        have HZ2 := Lib.hid HBF.out.size
        have HLE := Lib.hid (HLEN.out 1)
        obtain ⟨l, hl⟩ : ∃ l, l = asideB b0 b1 b2 el 1 := ⟨_, rfl⟩
        rw [← hl] at HL HOF HLE HO ⊢
        have HIA := Lib.hid (show (wf.alloc (.cells #[.int .i64 1] 3)).ownsRow w.heap.size 3 1 (.slice Au l.length cu) l.length (ints l) from HOF.out.alloc _)
        have HNC := Lib.hid (show ∀ (j : Nat) (u : Value), [Value.int .i64 1][j]? = some u → (wf.alloc (.cells #[.int .i64 1] 3)).cell? ((⟨wf.heap.size, 0, none⟩ : Addr).add j) = some u from by
          intro j u hu
          rw [plainAdd, Nat.zero_add, cell_of_row _ _ j _ _ _ (heap_alloc_new wf _)]
          simpa using hu)
        have HN1 := Lib.hid (show ∀ u ∈ [Value.int .i64 1], u.oneCell' = true from by
          intro u hu
          simp only [List.mem_cons, List.not_mem_nil, or_false] at hu
          subst hu
          rfl)
        have HZ3 := Lib.hid (show w.heap.size ≤ (wf.alloc (.cells #[.int .i64 1] 3)).heap.size by simp; have := HZ2.out; omega)
        have HBA := Lib.hid (nAlloc HBF.out (Nat.le_refl _) (.cells #[.int .i64 1] 3))
        obtain ⟨i0, hi, hz0, hz1, hz2⟩ := info_parts iInfo
        obtain ⟨u, hu⟩ : ∃ u, u = l.length := ⟨_, rfl⟩
        rw [← hu] at HIA HLE ⊢
        have HU := Lib.hid hu
        have hz : wf.heap.size = wr.heap.size + 1 := by rw [hwf]; simp
        rw [hz] at HNC
        clear hz
        rw [hwf] at HIA HNC HZ3 HBA
        clear hu hwf hl
        subst hbk
        go_wp2_with (at_builtin; refine wpList_append_own _ rfl (.tmp 20) (.tmp 22) 75 rfl w.heap.size 3 i0 _ 1 8 Tryd.underlying75 hi hz0 hz1 hz2 rfl (by decide) _ u (ints l) rfl HIA.out ⟨wr.heap.size + 1, 0, none⟩ 1 1 [Value.int .i64 1] rfl rfl HNC.out HN1.out (by have := HLE.out; unfold maxLen; omega) (by have := HLE.out; omega) HZ3.out ?_; intro v3 w3 ho3 hg3 _)
        have HFIN := Lib.hid (show OwnT w.heap.size w3 v3 (asideB b0 true b2 el 2) from by
          have h1 : ints (asideB b0 true b2 el 2) = ints l ++ [Value.int .i64 1] := by rw [HL.out]; unfold ints; rw [List.map_append]; rfl
          have h2 : (asideB b0 true b2 el 2).length = u + 1 := by rw [HL.out, List.length_append, ← HU.out]; rfl
          unfold OwnT
          rw [h1, h2]
          exact ho3)
        have HB3 := Lib.hid (HBA.out.grown hg3 HZ3.out (fun q e => (ownsRow_lt HIA.out (show (Value.slice Au u cu).ownBlock = some q from e)).1))
        clear ho3 hg3
        go_roundw
        case rel => exact ⟨2, by decide, rfl, HFIN.out, HB3.out⟩
        case measure => simp [intOf]
    · replace hi : _ = Value.int .i64 2 := hi
      subst hi
      have hix := ix_2 (.bool b0) (.bool c0) (.slice X0 n0 m0) (.bool b1) (.bool c1) (.slice X1 n1 m1) (.bool b2) (.bool c2) (.slice X2 n2 m2)
      have HNB := Lib.hid (heap_alloc_new wr (.cells #[.bool b2, .bool c2, .slice X2 n2 m2] tSFile))
      obtain ⟨wf, hwf⟩ : ∃ wf, wf = wr.alloc (.cells #[.bool b2, .bool c2, .slice X2 n2 m2] tSFile) := ⟨_, rfl⟩
      have HBF := Lib.hid (show Below w.heap.size w wf by rw [hwf]; exact nAlloc HB.out (Nat.le_refl _) _)
      have HOF := Lib.hid (show OwnT w.heap.size wf (.slice Au (asideB b0 b1 b2 el 2).length cu) (asideB b0 b1 b2 el 2) by rw [hwf]; exact HO.out.alloc _)
      by_cases hno : b2 = false ∨ some 2 = el
      · have HL := Lib.hid (aside_no (b0 := b0) (b1 := b1) (b2 := b2) (k := 2) (by decide) hno)
        have HFIN := Lib.hid (show OwnT w.heap.size wf (.slice Au (asideB b0 b1 b2 el 2).length cu) (asideB b0 b1 b2 el 3) by rw [HL.out]; exact HOF.out)
        obtain ⟨u, hu⟩ : ∃ u, u = (asideB b0 b1 b2 el 2).length := ⟨_, rfl⟩
        rw [← hu] at HFIN ⊢
        rw [hwf] at HFIN HBF
        clear hu hwf
        by_cases hbk : b2 = false
        · clear hno
          subst hbk
          go_wp2
          go_roundw
          case rel => exact ⟨3, by decide, rfl, HFIN.out, HBF.out⟩
          case measure => simp [intOf]
        · replace hbk : b2 = true := by simpa using hbk
          have hek : E = 2 := ((HEL.out 2).2 (hno.resolve_left (by rw [hbk]; decide))).symm
          clear hno
          subst hbk
          subst hek
          go_wp2
          go_roundw
          case rel => exact ⟨3, by decide, rfl, HFIN.out, HBF.out⟩
          case measure => simp [intOf]
      · have hbk : b2 = true := by cases h : b2 <;> simp_all
        have hnk : some 2 ≠ el := fun e => hno (.inr e)
        have HL := Lib.hid (aside_yes (b0 := b0) (b1 := b1) (b2 := b2) (k := 2) (by decide) hbk hnk)
        have hei : ¬ ((2 : Int) = E) := fun e => hnk ((HEL.out 2).1 e)
        have hei1 : ((2 : Int) == E) = false := beq_eq_false_iff_ne.2 hei
        have hei2 : ((2 : Int) != E) = true := bne_iff_ne.2 hei
        clear hno hnk
        have HZ2 := Lib.hid HBF.out.size
        have HLE := Lib.hid (HLEN.out 2)
        obtain ⟨l, hl⟩ : ∃ l, l = asideB b0 b1 b2 el 2 := ⟨_, rfl⟩
        rw [← hl] at HL HOF HLE HO ⊢
        have HIA := Lib.hid (show (wf.alloc (.cells #[.int .i64 2] 3)).ownsRow w.heap.size 3 1 (.slice Au l.length cu) l.length (ints l) from HOF.out.alloc _)
        have HNC := Lib.hid (show ∀ (j : Nat) (u : Value), [Value.int .i64 2][j]? = some u → (wf.alloc (.cells #[.int .i64 2] 3)).cell? ((⟨wf.heap.size, 0, none⟩ : Addr).add j) = some u from by
          intro j u hu
          rw [plainAdd, Nat.zero_add, cell_of_row _ _ j _ _ _ (heap_alloc_new wf _)]
          simpa using hu)
        have HN1 := Lib.hid (show ∀ u ∈ [Value.int .i64 2], u.oneCell' = true from by
          intro u hu
          simp only [List.mem_cons, List.not_mem_nil, or_false] at hu
          subst hu
          rfl)
        have HZ3 := Lib.hid (show w.heap.size ≤ (wf.alloc (.cells #[.int .i64 2] 3)).heap.size by simp; have := HZ2.out; omega)
        have HBA := Lib.hid (nAlloc HBF.out (Nat.le_refl _) (.cells #[.int .i64 2] 3))
        obtain ⟨i0, hi, hz0, hz1, hz2⟩ := info_parts iInfo
        obtain ⟨u, hu⟩ : ∃ u, u = l.length := ⟨_, rfl⟩
        rw [← hu] at HIA HLE ⊢
        have HU := Lib.hid hu
        have hz : wf.heap.size = wr.heap.size + 1 := by rw [hwf]; simp
        rw [hz] at HNC
        clear hz
        rw [hwf] at HIA HNC HZ3 HBA
        clear hu hwf hl
        subst hbk
        go_wp2_with (at_builtin; refine wpList_append_own _ rfl (.tmp 20) (.tmp 22) 75 rfl w.heap.size 3 i0 _ 1 8 Tryd.underlying75 hi hz0 hz1 hz2 rfl (by decide) _ u (ints l) rfl HIA.out ⟨wr.heap.size + 1, 0, none⟩ 1 1 [Value.int .i64 2] rfl rfl HNC.out HN1.out (by have := HLE.out; unfold maxLen; omega) (by have := HLE.out; omega) HZ3.out ?_; intro v3 w3 ho3 hg3 _)
        have HFIN := Lib.hid (show OwnT w.heap.size w3 v3 (asideB b0 b1 true el 3) from by
          have h1 : ints (asideB b0 b1 true el 3) = ints l ++ [Value.int .i64 2] := by rw [HL.out]; unfold ints; rw [List.map_append]; rfl
          have h2 : (asideB b0 b1 true el 3).length = u + 1 := by rw [HL.out, List.length_append, ← HU.out]; rfl
          unfold OwnT
          rw [h1, h2]
          exact ho3)
        have HB3 := Lib.hid (HBA.out.grown hg3 HZ3.out (fun q e => (ownsRow_lt HIA.out (show (Value.slice Au u cu).ownBlock = some q from e)).1))
        clear ho3 hg3
        go_roundw
        case rel => exact ⟨3, by decide, rfl, HFIN.out, HB3.out⟩
        case measure => simp [intOf]
    · replace hi : _ = Value.int .i64 3 := hi
      subst hi
      go_wp2
      go_ret
      exact ⟨_, rfl, HO.out, HB.out⟩
end Go.Proofs.YtjnmolpopjapnaaDoor.So
