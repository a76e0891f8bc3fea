/- slices.Clone of letters, maps.Clone of the ways, and package post's Copy, as contracts of calls. -/
import Derived.Test.YtenaecpmmbigdaaPoI
import Derived.Shelf.SlMaps.Clone
namespace Go.Proofs.Ytenaecpmmbigdaa.Po
open Go.RowKit Go.Maps By Mp Go.Shelf

theorem nilTestL (w : World) (a : Option Addr) (n c n' c' : Nat) : (binOp .eql tLets (.slice a n c) (.slice none n' c')).run Try.prog w = .ok (.bool a.isNone) w :=
  Lib.run_eql_slice_nil w _ _ a n c n' c' Try.underlying51
def GivesL (l : List L8) (w : World) (e : Ending) (w' : World) : Prop := ∃ v', e = .returned v' ∧ w'.ownsRow w.heap.size tLet 3 v' l.length (lRow l) ∧ Below w.heap.size w w'
theorem grown_below {w w1 : World} {r : Option Nat} (h : w.grownBy w1 r) {B : Nat} (hB : B ≤ w.heap.size) (hr : ∀ q, r = some q → B ≤ q) : Below B w w1 :=
  ⟨h.os, h.tape, h.output, h.size, fun b hb => h.block b (by omega) (fun e => by have := hr b e.symm; omega)⟩
theorem own_same (w : World) : (w.alloc (.cells #[] tLet)).ownsRow w.heap.size tLet 3 (.slice (some ⟨w.heap.size, 0, none⟩) 0 0) 0 [] :=
  ⟨by simp, .inr ⟨w.heap.size, 0, #[], rfl, Nat.le_refl _, heap_alloc_new w _, Nat.le_refl _, by decide, by simp, by simp⟩⟩
theorem cloneL_any (v : Value) (l : List L8) (w : World) (h : w.ownsRow 0 tLet 3 v l.length (lRow l)) (hl : l.length ≤ 4096) : Calls Try.prog 21 #[v] w (GivesL l w) := by
  have q := nilTestL
  rcases h.2 with ⟨rfl, h0⟩ | ⟨g, cap, cur, rfl, -, hg, hnc, -, hcs, htk⟩
  · have hl0 : l = [] := List.length_eq_zero_iff.1 h0
    subst hl0
    clear h
    go_enter Try.func21, Try.ntmps21
    go_wp2
    go_ret
    exact ⟨_, rfl, World.ownsRow_nil _ _ _ _, Below.refl _ _⟩
  · have HH := Lib.hid h
    have HL := Lib.hid hl
    clear h hg hcs htk hl
    go_enter Try.func21, Try.ntmps21
    go_wp2_with (at_builtin; refine wpList_appG Try.underlying51 letInfo rfl (by decide) (by decide) rfl (.tmp 5) (.tmp 6) rfl w.heap.size _ 0 [] rfl (own_same w) (some ⟨g, 0, none⟩) l.length cap rfl (lRow l) (lRow_length l) (fun _ => ⟨_, rfl, fun j u hu => ?_⟩) (lRow_one l) (by have := HL.out; omega) (by simp) ?_)
    · refine (World.cell?_alloc_lt w _ _ (by rw [plainAdd]; exact (ownsRow_lt HH.out rfl).2)).trans (World.ownsRow.cells HH.out (g := g) rfl j u hu)
    · intro v' w1 ho1 hg1 hv1
      have HO := Lib.hid ho1
      have HB := Lib.hid (show Below w.heap.size w w1 from ((Below.refl _ _).alloc (Nat.le_refl _) _).trans (grown_below hg1 (by simp) (fun q hq => by
        have hq : some w.heap.size = some q := hq
        injection hq with hq
        omega)))
      clear ho1 hg1 hv1
      go_wp2
      go_ret
      exact ⟨v', rfl, HO.out, HB.out⟩
def clone_ren : Go.Shelf.Ren := ⟨fun | 5 => 22 | 7 => 31 | n => n, fun | 23 => 52 | 25 => 57 | 3 => 61 | 4 => 4 | 20 => 20 | n => n, fun | n => n⟩
theorem clone : Go.Proofs.SlLaysW.n5 Try.prog clone_ren := {
  mixed := by kernel_rfl
  f5 := ⟨Try.f22.name, by decide, Try.func22.trans (congrArg some (by kernel_rfl))⟩
  f7 := Try.func31.trans (congrArg some (by kernel_rfl))
  t4 := Try.underlying4
  a4 := Try.isAgg4
  z4 := Try.sizeOf4
  v4 := Try.zeroValue4
  t20 := Try.underlying20
  a20 := Try.isAgg20
  z20 := Try.sizeOf20
  v20 := Try.zeroValue20
  t23 := Try.underlying52
  a23 := Try.isAgg52
  z23 := Try.sizeOf52
  v23 := Try.zeroValue52 }
def GivesM (cuts : List (Int × Int)) (w : World) (e : Ending) (w' : World) : Prop := ∃ mb, e = .returned (.map mb) ∧ CutAt w' mb cuts ∧ (∀ q, mb = some q → w.heap.size ≤ q) ∧ Below w.heap.size w w'
theorem cloneM_any (mb : Option Nat) (cuts : List (Int × Int)) (w : World) (h : CutAt w mb cuts) : Calls Try.prog 22 #[.map mb] w (GivesM cuts w) := by
  cases mb with
  | none =>
    refine (AnyW.maps_Clone_nil clone w).mono ?_
    rintro e w' ⟨rfl, rfl⟩
    exact ⟨none, rfl, h, (fun q hq => by cases hq), Below.refl _ _⟩
  | some b =>
    obtain ⟨D, hown, h2, h3⟩ := h
    refine (AnyW.maps_Clone_owns clone tWay _ b _ D w hown).mono ?_
    rintro e w' ⟨rfl, h4, _, hb⟩
    exact ⟨some w.heap.size, rfl, ⟨D, h4, h2, h3⟩, (fun q hq => by
      injection hq with hq
      omega), hb⟩
/-- Gives a post of the call's own. -/
def CopyPost (p : P8) (w : World) (e : Ending) (w' : World) : Prop := ∃ (g : Nat) (S : Nat → Prop), e = .returned (.pointer (some ⟨g, 0, none⟩)) ∧ PostIs w' g p S ∧ (∀ b, S b → w.heap.size ≤ b) ∧ Below w.heap.size w w'
theorem copied {w wx : World} {p : P8} {v : Value} {mb : Option Nat} (hok : p.Ok) (hb : Below w.heap.size w wx) (h1 : wx.ownsRow w.heap.size tLet 3 v p.l.length (lRow p.l)) (h2 : CutAt wx mb p.cuts) (h3 : ∀ q, mb = some q → w.heap.size ≤ q ∧ q < wx.heap.size) :
    CopyPost p w (.returned (.pointer (some ⟨wx.heap.size, 0, none⟩))) (wx.alloc (.cells #[v, .map mb, .int .i64 p.room] tPost)) := by
  have hold : ∀ b, b < wx.heap.size → (wx.alloc (.cells #[v, .map mb, .int .i64 p.room] tPost)).heap[b]? = wx.heap[b]? := fun b hb => heap_alloc_old _ _ hb
  have hz := hb.size
  refine ⟨wx.heap.size, fun b => w.heap.size ≤ b ∧ b < wx.heap.size + 1, rfl, ⟨v, mb, ⟨heap_alloc_new wx _, ?_, ?_, ⟨hz, by omega⟩, fun b hb => ?_, fun b hb => ?_, fun b hb => by rw [World.size_alloc]; exact hb.2, hok⟩⟩, fun b hb => hb.1, hb.alloc hz _⟩
  · exact ownsRow_base (ownsRow_keep h1 (fun b hb => hold b (ownsRow_lt h1 hb).2)) (Nat.zero_le _)
  · exact h2.keep (fun b hb => hold b (h3 b hb).2)
  · have := ownsRow_lt h1 hb; omega
  · have := h3 b hb; omega
theorem CutAt.lt {w : World} {mb : Option Nat} {cuts : List (Int × Int)} (h : CutAt w mb cuts) {q : Nat} (hq : mb = some q) : q < w.heap.size := by
  subst hq
  exact MapIs.lt h
set_option maxHeartbeats 3200000 in
theorem copy_any (g : Nat) (p : P8) (S : Nat → Prop) (w : World) (h : PostIs w g p S) : Calls Try.prog 10 #[.pointer (some ⟨g, 0, none⟩)] w (CopyPost p w) := by
  obtain ⟨v, mb, h⟩ := h
  obtain ⟨A, c, hv⟩ := ownsRow_form h.own
  have q1 := ptrTest
  have HOK := Lib.hid h.ok
  have HALL := Lib.hid (show ∀ w', Below w.heap.size w w' → Below w.heap.size w w' ∧ w'.cell? ⟨g, 0, none⟩ = some v ∧ w'.cell? ⟨g, 1, none⟩ = some (.map mb) ∧ w'.cell? ⟨g, 2, none⟩ = some (.int .i64 p.room) from fun w' hb => ⟨hb, (h.below hb).cells⟩)
  have HC1 := Lib.hid (show ∀ w', Below w.heap.size w w' → Calls Try.prog 21 #[v] w' (GivesL p.l w') from fun w' hb => cloneL_any v p.l w' (h.below hb).own (by have := h.ok.few; have := h.ok.room.2; omega))
  have HC2 := Lib.hid (show ∀ w', Below w.heap.size w w' → Calls Try.prog 22 #[.map mb] w' (GivesM p.cuts w') from fun w' hb => cloneM_any mb p.cuts w' (h.below hb).map)
  clear h
  subst hv
  go_enter Try.func10, Try.ntmps10
  go_upto_region 3 with fail
  have HB0 := Lib.hid (show Below w.heap.size w w.drew from (Below.refl _ _).drew)
  have HT1 := Lib.hid trivial
  go_region_held3 (fun w' => Below w.heap.size w w' ∧ w'.cell? ⟨g, 0, none⟩ = some (.slice A p.l.length c) ∧ w'.cell? ⟨g, 1, none⟩ = some (.map mb) ∧ w'.cell? ⟨g, 2, none⟩ = some (.int .i64 p.room))
    (first
      | assumption
      | exact HALL.out _ HB0.out
      | exact HALL.out _ HB1.out
      | exact HALL.out _ HB2.out
      | exact HALL.out _ (HB2.out.alloc HB2.out.size _))
    (first
      | (go_at_call 21; clear HT1; refine (HC1.out _ HB0.out).mono ?_; rintro e wx ⟨v1, rfl, ho, hbx⟩
         obtain ⟨A1, c1, rfl⟩ := ownsRow_form ho
         have HO1 := Lib.hid (ownsRow_base ho HB0.out.size)
         have HB1 := Lib.hid (By.ext HB0.out hbx)
         clear ho hbx)
      | (go_at_call 22; refine (HC2.out _ HB1.out).mono ?_; rintro e wy ⟨m2, rfl, hm, hf, hbx⟩
         have HM2 := Lib.hid (show CutAt wy m2 p.cuts ∧ ∀ q, m2 = some q → w.heap.size ≤ q ∧ q < wy.heap.size from ⟨hm, fun q hq => ⟨Nat.le_trans HB1.out.size (hf q hq), hm.lt hq⟩⟩)
         have HO2 := Lib.hid (ownsRow_keep HO1.out (fun b hb => hbx.block b (ownsRow_lt HO1.out hb).2))
         have HB2 := Lib.hid (By.ext HB1.out hbx)
         clear hm hf hbx))
  go_wp2
  go_ret
  exact copied HOK.out HB2.out HO2.out HM2.out.1 HM2.out.2
end Go.Proofs.Ytenaecpmmbigdaa.Po
