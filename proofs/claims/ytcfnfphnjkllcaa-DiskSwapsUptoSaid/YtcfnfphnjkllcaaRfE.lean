/- The reference's Do, as a contract of a call. -/
import Derived.Test.YtcfnfphnjkllcaaRfD
namespace Go.Proofs.Ytcfnfphnjkllcaa.Dk
open Go.RowKit Go.Maps By Mp

/-- While a change is done: the files with the file there, each in a block of its own; the change's box as it was. -/
def DoMid (F : Fs) (k : Nat) (nm : Bs) (off : Nat) (d : Bs) (A : Option Addr) (c : Nat) (out : Value) (w wx : World) : Prop :=
  RfOwn wx w.heap.size out (midF F nm) ∧ wx.heap[w.heap.size]? = some (.cells #[.int .i64 (k : Nat), .string (str nm), .int .i64 (off : Nat), .slice A d.length c] tWrite (0, 0)) ∧ Below w.heap.size w wx
theorem RfOwn.at_ {w : World} {base : Nat} {v : Value} {F : Fs} (h : RfOwn w base v F) : RfAt w base (fun b => base ≤ b ∧ b < w.heap.size ∧ U8 w b) v F := by
  obtain ⟨ac, h1, h2, h3, _⟩ := h
  exact ⟨ac, h1, h2, own_data h3⟩
theorem RfOwn.base {w : World} {base base' : Nat} {v : Value} {F : Fs} (h : RfOwn w base v F) (hb : base' ≤ base) : RfOwn w base' v F := by
  obtain ⟨ac, h1, h2, h3, h4⟩ := h
  exact ⟨ac, h1, ownsRow_base h2 hb, fun i x a hx ha => Own.more (h3 i x a hx ha) hb, h4⟩
theorem RfOwn.below {w w' : World} {base : Nat} {v : Value} {F : Fs} (h : RfOwn w base v F) (hb : Below w.heap.size w w') : RfOwn w' base v F := by
  obtain ⟨ac, h1, h2, h3, h4⟩ := h
  exact ⟨ac, h1, ownsRow_keep h2 (fun b hb' => hb.block b (ownsRow_lt h2 hb').2), fun i x a hx ha => own_keep8 (h3 i x a hx ha) (fun b hb' => hb.block b (ownsRow_lt (h3 i x a hx ha) hb').2), h4⟩
theorem gives_own {w wx wy : World} {v : Value} {F : Fs} (h : RfOwn wx w.heap.size v F) (hb : Below w.heap.size w wx) (hy : wy = wx) : GivesF F w (.returned v) wy := by
  subst hy
  exact ⟨v, rfl, h.at_, hb⟩
/-- A file is taken out of its row. -/
theorem own_cut_row {w w' : World} {base : Nat} {v' : Value} {F : Fs} {ac : List AC} {i m : Nat} (hac : ac.length = F.length) (hi : i < F.length) (hm : m = F.length - (i + 1))
    (hda : ∀ (j : Nat) (x : Bs × Bs) (a : AC), F[j]? = some x → ac[j]? = some a → Own base w (.slice a.1 x.2.length a.2) x.2) (ho : w'.ownsRow base tRF 2 v' (i + m) (fRow (F.take i) (ac.take i) ++ fRow (F.drop (i + 1)) (ac.drop (i + 1)))) (hk : ∀ b, b < w.heap.size → U8 w b → w'.heap[b]? = w.heap[b]?) (hz : w.heap.size ≤ w'.heap.size) :
    RfAt w' base (fun b => base ≤ b ∧ b < w'.heap.size ∧ U8 w' b) v' (F.take i ++ F.drop (i + 1)) := by
  have hd := own_data hda
  have hl : (ac.take i).length = (F.take i).length := by simp [hac]
  refine ⟨ac.take i ++ ac.drop (i + 1), by simp [hac], ?_, fun j x a hx ha => ?_⟩
  · rw [fRow_app hl, List.length_append, List.length_take, List.length_drop, Nat.min_eq_left (Nat.le_of_lt hi), ← hm]
    exact ho
  · have : ∃ j' : Nat, F[j']? = some x ∧ ac[j']? = some a := by
      by_cases hj : j < i
      · have e1 : (F.take i).length = i := by rw [List.length_take]; omega
        have e2 : (ac.take i).length = i := by rw [List.length_take]; omega
        rw [List.getElem?_append_left (by omega), List.getElem?_take_of_lt hj] at hx ha
        exact ⟨j, hx, ha⟩
      · have e1 : (F.take i).length = i := by rw [List.length_take]; omega
        have e2 : (ac.take i).length = i := by rw [List.length_take]; omega
        rw [List.getElem?_append_right (by omega), e1, List.getElem?_drop] at hx
        rw [List.getElem?_append_right (by omega), e2, List.getElem?_drop] at ha
        exact ⟨_, hx, ha⟩
    obtain ⟨j', h1, h2⟩ := this
    obtain ⟨h3, h4⟩ := hd j' x a h1 h2
    exact ⟨h3, h4.keep (fun b hb => hk b hb.2.1 hb.2.2) (fun b hb => ⟨hb.1, Nat.lt_of_lt_of_le hb.2.1 hz, u8_keep hb.2.2 (hk b hb.2.1 hb.2.2)⟩)⟩
set_option maxRecDepth 100000 in
set_option maxHeartbeats 4000000 in
theorem do_del (v0 : Value) (base : Nat) (S : Nat → Prop) (F : Fs) (k : Nat) (nm : Bs) (off : Nat) (d : Bs) (A : Option Addr) (c : Nat) (w : World) (h : RfAt w base S v0 F) (hS : ∀ b, S b → b < w.heap.size) (hv0 : ∀ b, v0.ownBlock = some b → b < w.heap.size) (hl : F.length ≤ 68719476736) (hup : Up F) (hok : ∀ p ∈ F, p.2.length ≤ 1099511627776)
    (hk3 : k = 3) :
    Calls Try.prog 40 #[v0, wV k nm (off : Int) A d.length c] w (GivesF (doW F ⟨k, nm, off, d⟩) w) := by
  unfold wV
  obtain ⟨w0, hw0⟩ : ∃ w0, w0 = w.alloc (.cells #[.int .i64 (k : Nat), .string (str nm), .int .i64 (off : Nat), .slice A d.length c] tWrite) := ⟨_, rfl⟩
  have hb0 : Below w.heap.size w w0 := by rw [hw0]; exact (Below.refl _ _).alloc (Nat.le_refl _) _
  have hz0 : w0.heap.size = w.heap.size + 1 := by rw [hw0]; simp
  have hxr : w0.heap[w.heap.size]? = some (.cells #[.int .i64 (k : Nat), .string (str nm), .int .i64 (off : Nat), .slice A d.length c] tWrite (0, 0)) := by rw [hw0]; exact heap_alloc_new w _
  have HOWN := Lib.hid (own_any v0 base S F w0 (h.keep (fun b hb => hb0.block b (hv0 b hb)) (fun b hb => hb0.block b (hS b hb)) (fun _ hb => hb)) (fun b hb => by rw [hz0]; have := hS b hb; omega) hl (fun p hp => Nat.le_trans (hok p hp) (by decide)))
  have HUP := Lib.hid hup
  have HK3 := Lib.hid hk3
  have HB0 := Lib.hid hb0
  have HXR := Lib.hid hxr
  have HW0 := Lib.hid hw0
  have HZ0 := Lib.hid hz0
  clear h hS hv0 hok hup hb0 hxr hz0 hk3
  go_enter Try.func40, Try.ntmps40
  go_wp2_with fail
  rw [← HW0.out]
  clear hw0 HW0
  refine HOWN.out.mono ?_
  rintro e w1 ⟨v1, rfl, ho1, hb1⟩
  have hz1 := hb1.size
  have hx1 := (hb1.block _ (row_lt HXR.out)).trans HXR.out
  have HO1 := Lib.hid (ho1.base (base' := w.heap.size) (by rw [HZ0.out]; omega))
  have HB1 := Lib.hid (By.ext HB0.out hb1)
  have HX1 := Lib.hid hx1
  have HFI := Lib.hid (find_any v1 w.heap.size _ F nm w1 HO1.out.at_ HUP.out)
  have hx1n : w1.cell? ⟨w.heap.size, 1, none⟩ = some (.string (str nm)) := by rw [cell_of_row w1 _ 1 _ _ _ hx1]; rfl
  have hx1k : w1.cell? ⟨w.heap.size, 0, none⟩ = some (.int .i64 (k : Nat)) := by rw [cell_of_row w1 _ 0 _ _ _ hx1]; rfl
  clear ho1 hb1 hz1 hx1 HOWN HB0 HXR HZ0
  go_wp2_with fail
  clear hx1n hx1k
  refine HFI.out.mono ?_
  rintro e w2 ⟨rfl, hb2⟩
  have hx2 := (hb2.block _ (row_lt HX1.out)).trans HX1.out
  have hx1n : w2.cell? ⟨w.heap.size, 1, none⟩ = some (.string (str nm)) := by rw [cell_of_row w2 _ 1 _ _ _ hx2]; rfl
  have hx1k : w2.cell? ⟨w.heap.size, 0, none⟩ = some (.int .i64 (k : Nat)) := by rw [cell_of_row w2 _ 0 _ _ _ hx2]; rfl
  have HO1 := Lib.hid (HO1.out.below hb2)
  have HB1 := Lib.hid (By.ext HB1.out hb2)
  have HX1 := Lib.hid hx2
  clear hx2 hb2 HFI
  obtain ⟨w1, rfl⟩ : ∃ w1, w1 = w2 := ⟨_, rfl⟩
  have HFL := Lib.hid (fidx_le F nm)
  · have hk3 := HK3.out
    clear HK3
    subst hk3
    have HDO := Lib.hid (show doW F ⟨3, nm, off, d⟩ = if fthere F nm then F.take (fidx F nm) ++ F.drop (fidx F nm + 1) else F by
      unfold doW
      rw [if_pos rfl]
      exact fdel_idx HUP.out)
    cases ht : fthere F nm with
    | false =>
      have HR1 := Lib.hid (HDO.out.trans (by rw [ht, if_neg (by simp)]))
      clear ht HDO
      go_wp2
      go_ret
      rw [HR1.out]
      exact gives_own HO1.out HB1.out rfl
    | true =>
      have HR1 := Lib.hid (HDO.out.trans (by rw [ht, if_pos rfl]))
      have HT := Lib.hid ht
      clear ht HDO
      have hil : fidx F nm < F.length := by
        obtain ⟨b, hb⟩ := Option.isSome_iff_exists.1 (show (fget F nm).isSome = true from HT.out)
        have h1 := congrArg List.length (fget_idx HUP.out hb)
        rw [List.length_append, take_idx, List.length_cons, List.length_drop] at h1
        omega
      obtain ⟨i, hi⟩ : ∃ i, i = fidx F nm := ⟨_, rfl⟩
      rw [← hi] at hil HR1 HFL ⊢
      have HI := Lib.hid hi
      clear hi
      obtain ⟨ac, hac, how, hda, hap⟩ := HO1.out
      obtain ⟨A1, c1, rfl⟩ := ownsRow_form how
      have hcap : F.length ≤ c1 := by
        obtain ⟨A', c', e, h2, _⟩ := HO1.out.at_.form
        injection e with _ _ e
        rw [e]
        exact h2
      have hcut := fun w' => run_toF w' A1 F.length c1 i (by omega)
      have hw1 : IntKind.i64.wrap ((i : Int) + 1) = (i : Int) + 1 := IntWalk.i64_in _ (by omega)
      have hfrom : ∀ w', (Instr.slice tRFs (.slice A1 F.length c1) (some (.int .i64 ((i : Int) + 1))) none none).run Try.prog w' = .ok (.slice (cutRF A1 c1 (i + 1)) (F.length - (i + 1)) (c1 - (i + 1))) w' := fun w' => run_fromF w' A1 F.length c1 (i + 1) (by omega)
      have HOC := Lib.hid (show w1.drew.ownsRow w.heap.size tRF 2 (.slice A1 i c1) i (fRow (F.take i) (ac.take i)) from by rw [← fRow_take i hac]; exact ownsRow_cut how (by omega))
      have HNF := Lib.hid (show 0 < F.length - (i + 1) → ∃ a, cutRF A1 c1 (i + 1) = some a ∧ ∀ j u, (fRow (F.drop (i + 1)) (ac.drop (i + 1)))[j]? = some u → w1.drew.cell? (a.add j) = some u from by rw [← fRow_drop (i + 1) hac]; exact ownsRow_from how (by omega))
      have HN1 := Lib.hid (show ∀ u ∈ fRow (F.drop (i + 1)) (ac.drop (i + 1)), u.oneCell' = true from fun u hu => fRow_one' hu)
      have HNL := Lib.hid (show (fRow (F.drop (i + 1)) (ac.drop (i + 1))).length = (F.length - (i + 1)) * 2 from by rw [fRow_length (by simp [hac]), List.length_drop])
      have HOW := Lib.hid how
      have HDA := Lib.hid hda
      have HAC := Lib.hid hac
      have HZB := Lib.hid (show w.heap.size ≤ w1.drew.heap.size from HB1.out.size)
      have HCP := Lib.hid hcap
      clear how hda hap hac hcap HO1
      go_wp2
      go_region_law (refine step_appF rfl (.tmp 26) (.tmp 30) rfl w.heap.size (.slice A1 i c1) i (fRow (F.take i) (ac.take i)) rfl HOC.out (cutRF A1 c1 (i + 1)) (F.length - (i + 1)) (c1 - (i + 1)) rfl (fRow (F.drop (i + 1)) (ac.drop (i + 1))) HNL.out HNF.out HN1.out (by omega) HZB.out ?_
                     intro v5 w5 ho5 hg5 hv5
                     have HO5 := Lib.hid ho5
                     have HG5 := Lib.hid (show w1.grownBy w5 (Value.slice A1 i c1).ownBlock from ⟨hg5.os, hg5.tape, hg5.output, hg5.size, hg5.block⟩)
                     clear ho5 hg5 hv5)
      all_goals
        go_wp2
        go_ret
        rw [HR1.out]
        have hk5 : ∀ b, b < w1.heap.size → U8 w1 b → w5.heap[b]? = w1.heap[b]? := fun b hb h8 => HG5.out.block b hb (u8_neF HOC.out h8)
        have hz5 := HG5.out.size
        have hr5 := own_cut_row (w' := w5) (m := F.length - (i + 1)) HAC.out (by omega) rfl HDA.out HO5.out hk5 hz5
        exact ⟨v5, rfl, hr5, HB1.out.grown HG5.out HB1.out.size (fun q e => (ownsRow_lt HOC.out e).1)⟩
end Go.Proofs.Ytcfnfphnjkllcaa.Dk
