/- The reference's Do, as a contract of a call: Put and Cut. -/
import Derived.Test.YtcfnfphnjkllcaaRfE
namespace Go.Proofs.Ytcfnfphnjkllcaa.Dk
open Go.RowKit Go.Maps By Mp

theorem midF_not {F : Fs} {nm : Bs} (h : fthere F nm = false) : midF F nm = (F.take (fidx F nm) ++ [(nm, [])]) ++ F.drop (fidx F nm) := by
  have hb : bytesOf F nm = [] := by
    unfold bytesOf
    have h2 : (fget F nm).isSome = false := h
    cases hc : fget F nm with
    | none => rfl
    | some b => rw [hc] at h2; cases h2
  unfold midF
  rw [h, hb, if_neg (by simp), Nat.add_zero, List.append_assoc]
  rfl
/-- A file is put into its row. -/
theorem own_put_row {w w' : World} {base : Nat} {v' : Value} {F : Fs} {ac : List AC} {i m : Nat} {nm : Bs} (hac : ac.length = F.length) (hi : i ≤ F.length) (hm : m = F.length - i)
    (hda : ∀ (j : Nat) (x : Bs × Bs) (a : AC), F[j]? = some x → ac[j]? = some a → Own base w (.slice a.1 x.2.length a.2) x.2)
    (hap : ∀ (j j' : Nat) (a b : AC) (q n m : Nat), ac[j]? = some a → ac[j']? = some b → (Value.slice a.1 n a.2).ownBlock = some q → (Value.slice b.1 m b.2).ownBlock = some q → j = j')
    (ho : w'.ownsRow base tRF 2 v' (i + 1 + m) ((fRow (F.take i) (ac.take i) ++ fCells (nm, []) (none, 0)) ++ fRow (F.drop i) (ac.drop i))) (hk : ∀ b, b < w.heap.size → U8 w b → w'.heap[b]? = w.heap[b]?) :
    RfOwn w' base v' ((F.take i ++ [(nm, [])]) ++ F.drop i) := by
  have e1 : (F.take i).length = i := by rw [List.length_take]; omega
  have e2 : (ac.take i).length = i := by rw [List.length_take]; omega
  have hl : (ac.take i).length = (F.take i).length := by rw [e1, e2]
  have hl2 : (ac.take i ++ [((none, 0) : AC)]).length = (F.take i ++ [(nm, ([] : Bs))]).length := by simp [hac]
  have hpick : ∀ (j : Nat) (a : AC), ((ac.take i ++ [((none, 0) : AC)]) ++ ac.drop i)[j]? = some a → (j = i ∧ a = (none, 0)) ∨ (ac[if j < i then j else j - 1]? = some a ∧ j ≠ i) := by
    intro j a ha
    by_cases h1 : j < i
    · rw [List.append_assoc, List.getElem?_append_left (by omega), List.getElem?_take_of_lt h1] at ha
      exact .inr ⟨by rw [if_pos h1]; exact ha, by omega⟩
    · rw [List.append_assoc, List.getElem?_append_right (by omega), e2] at ha
      by_cases h2 : j = i
      · rw [h2, Nat.sub_self] at ha
        simp at ha
        exact .inl ⟨h2, ha.symm⟩
      · refine .inr ⟨?_, h2⟩
        rw [if_neg h1]
        rw [show j - i = (j - i - 1) + 1 by omega] at ha
        simp only [List.cons_append, List.nil_append, List.getElem?_cons_succ, List.getElem?_drop] at ha
        rw [show i + (j - i - 1) = j - 1 by omega] at ha
        exact ha
  refine ⟨(ac.take i ++ [(none, 0)]) ++ ac.drop i, by simp [hac], ?_, fun j x a hx ha => ?_, fun j j' a b q n m' ha hb hqa hqb => ?_⟩
  · rw [fRow_app hl2, fRow_app hl, fRow_one]
    have e3 : ((F.take i ++ [(nm, ([] : Bs))]) ++ F.drop i).length = i + 1 + m := by
      rw [List.length_append, List.length_append, List.length_drop, e1, hm]
      rfl
    rw [e3]
    exact ho
  · rcases hpick j a ha with ⟨h1, h2⟩ | ⟨h1, h2⟩
    · subst h1 h2
      rw [List.append_assoc, List.getElem?_append_right (by omega), e1, Nat.sub_self] at hx
      simp at hx
      subst hx
      exact Own.nil _ _
    · have hx' : F[if j < i then j else j - 1]? = some x := by
        by_cases h3 : j < i
        · rw [List.append_assoc, List.getElem?_append_left (by omega), List.getElem?_take_of_lt h3] at hx
          rw [if_pos h3]
          exact hx
        · rw [List.append_assoc, List.getElem?_append_right (by omega), e1, show j - i = (j - i - 1) + 1 by omega] at hx
          simp only [List.cons_append, List.nil_append, List.getElem?_cons_succ, List.getElem?_drop] at hx
          rw [show i + (j - i - 1) = j - 1 by omega] at hx
          rw [if_neg h3]
          exact hx
      have h4 := hda _ x a hx' h1
      refine own_keep8 h4 (fun b hb => hk b (ownsRow_lt h4 hb).2 ?_)
      obtain ⟨cur, h5⟩ := ownsRow_type h4 hb
      exact ⟨cur, _, h5⟩
  · rcases hpick j a ha with ⟨h1, h2⟩ | ⟨h1, h2⟩
    · subst h2
      cases hqa
    · rcases hpick j' b hb with ⟨k1, k2⟩ | ⟨k1, k2⟩
      · subst k2
        cases hqb
      · have := hap _ _ a b q n m' h1 k1 hqa hqb
        split at this <;> split at this <;> omega
def lenV : Value → Nat
  | .slice _ n _ => n
  | _ => 0
/-- A file's bytes while they grow, in a block of the file's own. -/
structure PadAt (base : Nat) (wm wr : World) (a : AC) (v : Value) (l : Bs) : Prop where
  own : Own base wr v l
  kept : Kept (fun q => (Value.slice a.1 0 a.2).ownBlock = some q) wm wr
  at_ : ∀ q, v.ownBlock = some q → (Value.slice a.1 0 a.2).ownBlock = some q ∨ wm.heap.size ≤ q
theorem own_any_len (A : Option Addr) (n m c : Nat) : (Value.slice A n c).ownBlock = (Value.slice A m c).ownBlock := by cases A <;> rfl
theorem PadAt.start {base : Nat} {wm : World} {a : AC} {l : Bs} (h : Own base wm (.slice a.1 l.length a.2) l) : PadAt base wm wm a (.slice a.1 l.length a.2) l :=
  ⟨h, Kept.refl _ _, fun _ hq => .inl ((own_any_len _ _ _ _).trans hq)⟩
theorem PadAt.drewN {base : Nat} {wm wr : World} {a : AC} {v : Value} {l : Bs} (h : PadAt base wm wr a v l) (q : Nat) : PadAt base wm (wr.drewN q) a v l := ⟨h.own, h.kept.drewN q, h.at_⟩
theorem PadAt.step {base : Nat} {wm wr w5 : World} {a : AC} {v v5 : Value} {l l5 : Bs} {cs : Array Value} (h : PadAt base wm wr a v l) (ho : Own base w5 v5 l5) (hg : (wr.alloc (.cells cs 5)).grownBy w5 v.ownBlock) (hv : ∀ q, v5.ownBlock = some q → v.ownBlock = some q ∨ (wr.alloc (.cells cs 5)).heap.size ≤ q) : PadAt base wm w5 a v5 l5 := by
  refine ⟨ho, (h.kept.alloc _).step (Kept.of_grown (M := fun q => v.ownBlock = some q) hg (fun _ e _ => e)) (fun q _ e => ?_), fun q hq => ?_⟩
  · rcases h.at_ q e with h1 | h1
    · exact h1
    · omega
  · rcases hv q hq with h1 | h1
    · exact h.at_ q h1
    · have h2 := h.kept.size
      rw [World.size_alloc] at h1
      exact .inr (by omega)
/-- What a file that grows leaves as it was. -/
theorem PadAt.block {base : Nat} {wm wr : World} {a : AC} {v : Value} {l l0 : Bs} (h : PadAt base wm wr a v l) (h0 : Own base wm (.slice a.1 l0.length a.2) l0) {b : Nat} {cs : Array Value} {T : TypeId} {fr : Nat × Nat} (hb : wm.heap[b]? = some (.cells cs T fr)) (hT : T ≠ 5) : wr.heap[b]? = some (.cells cs T fr) := by
  refine (h.kept.block b (row_lt hb) (fun e => ?_)).trans hb
  obtain ⟨cur, h1⟩ := ownsRow_type h0 ((own_any_len _ _ _ _).trans e)
  rw [hb] at h1
  injection h1 with h1
  injection h1 with _ h1
  exact hT h1
theorem PadAt.far {base B : Nat} {w wm wr : World} {a : AC} {v : Value} {l l0 : Bs} (h : PadAt base wm wr a v l) (h0 : Own base wm (.slice a.1 l0.length a.2) l0) (hb : Below B w wm) (hB : B ≤ base) (hz : B ≤ wm.heap.size) : Below B w wr :=
  hb.trans (h.kept.below hz (fun _ e => Nat.le_trans hB (ownsRow_lt h0 ((own_any_len _ _ _ _).trans e)).1))
theorem tRF_ne8 : tRF ≠ 5 := by decide
theorem tWrite_ne8 : tWrite ≠ 5 := by decide
/-- The file's bytes are put back. -/
theorem do_fin {w wm wr : World} {F : Fs} {nm nb l : Bs} {ac : List AC} {gr n cap cb : Nat} {a : AC} {v : Value} {Ab : Option Addr} (hn : n = (midF F nm).length) (hup : Up F) (hac : ac.length = (midF F nm).length)
    (how : wm.ownsRow w.heap.size tRF 2 (.slice (some ⟨gr, 0, none⟩) n cap) n (fRow (midF F nm) ac))
    (hda : ∀ (j : Nat) (x : Bs × Bs) (b : AC), (midF F nm)[j]? = some x → ac[j]? = some b → Own w.heap.size wm (.slice b.1 x.2.length b.2) x.2)
    (hap : ∀ (j j' : Nat) (b b' : AC) (q n m : Nat), ac[j]? = some b → ac[j']? = some b' → (Value.slice b.1 n b.2).ownBlock = some q → (Value.slice b'.1 m b'.2).ownBlock = some q → j = j')
    (ha : ac[fidx F nm]? = some a) (hb : Below w.heap.size w wm) (hp : PadAt w.heap.size wm wr a v l)
    (hnb : nb.length ≤ cb) (hl : LiesS wr (fun b => w.heap.size ≤ b ∧ b < wr.heap.size ∧ U8 wr b) Ab nb) :
    GivesF (fput nm nb F) w (.returned (.slice (some ⟨gr, 0, none⟩) n cap)) (wr.setCell ⟨gr, fidx F nm * 2 + 1, none⟩ (.slice Ab nb.length cb)) := by
  have hx := midF_get F nm
  have h0 : Own w.heap.size wm (.slice a.1 (bytesOf F nm).length a.2) (bytesOf F nm) := hda _ _ _ hx ha
  have hgr : ∃ cur, wm.heap[gr]? = some (.cells cur tRF (0, 0)) := ownsRow_type how rfl
  obtain ⟨cur, hgr⟩ := hgr
  have hgr' := hp.block h0 hgr tRF_ne8
  have hgl := (ownsRow_lt how (b := gr) rfl).1
  have hrow : wr.ownsRow w.heap.size tRF 2 (.slice (some ⟨gr, 0, none⟩) n cap) n (fRow (midF F nm) ac) := ownsRow_keep how (fun b hb => by
    simp only [Value.ownBlock, Option.some.injEq] at hb
    subst hb
    rw [hgr', hgr])
  have hfar := hp.far h0 hb (Nat.le_refl _) hb.size
  have h8 : ∀ b, U8 wr b → b ≠ gr := by
    rintro b ⟨cs, fr, h1⟩ rfl
    rw [hgr'] at h1
    injection h1 with h1
    injection h1 with _ h1
    exact tRF_ne8 h1
  have hst := rf_store (w := wr) (S := fun b => w.heap.size ≤ b ∧ b < wr.heap.size ∧ U8 wr b) hn hrow hac hx (fun j y b hj hy hb' => by
    have h1 := hda j y b hy hb'
    have hkeep : ∀ q, (Value.slice b.1 y.2.length b.2).ownBlock = some q → wr.heap[q]? = wm.heap[q]? := fun q hq => hp.kept.block q (ownsRow_lt h1 hq).2 (fun e => hj (hap j _ b a q _ _ hb' ha hq e))
    have h2 : Own w.heap.size wr (.slice b.1 y.2.length b.2) y.2 := own_keep8 h1 hkeep
    obtain ⟨A', c', e, h3, _⟩ := h2.form
    injection e with _ _ e
    exact ⟨by rw [e]; exact h3, lies8 h2⟩) (fun b hb => h8 b hb.2.2) hnb hl
  rw [midF_set hup] at hst
  refine ⟨_, rfl, ?_, hfar.setCell (p := ⟨gr, _, none⟩) hgl _⟩
  obtain ⟨ac2, k1, k2, k3⟩ := hst
  refine ⟨ac2, k1, k2, fun j y b hy hb' => ⟨(k3 j y b hy hb').1, (k3 j y b hy hb').2.keep (fun _ _ => rfl) (fun b hb => ⟨hb.1, by rw [size_setCell']; exact hb.2.1, u8_keep hb.2.2 (heap_setCell_other wr ⟨gr, _, none⟩ b _ (h8 b hb.2.2))⟩)⟩⟩
theorem own_cap {base : Nat} {w : World} {A : Option Addr} {n c : Nat} {l : Bs} (h : Own base w (.slice A n c) l) : n = l.length ∧ l.length ≤ c ∧ c ≤ maxLen := by
  obtain ⟨A', c', e, h1, h2, _⟩ := h.form
  injection e with _ e1 e2
  subst e1 e2
  exact ⟨rfl, h1, h2⟩
theorem Lies.toS {w : World} {S : Nat → Prop} {A : Option Addr} {n c base : Nat} {l : Bs} (h : Own base w (.slice A n c) l) (hS : ∀ b, base ≤ b → b < w.heap.size → U8 w b → S b) : LiesS w S A l := by
  have hn := (own_cap h).1
  subst hn
  exact (lies8 h).keep (fun _ _ => rfl) (fun b hb => hS b hb.1 hb.2.1 hb.2.2)
theorem PadAt.store {base : Nat} {wm wr : World} {a : AC} {q n c : Nat} {l : Bs} (h : PadAt base wm wr a (.slice (some ⟨q, 0, none⟩) n c) l) (j : Nat) (x : UInt8) : PadAt base wm (wr.setCell ⟨q, j, none⟩ (bv x)) a (.slice (some ⟨q, 0, none⟩) n c) (l.set j x) :=
  ⟨Own.stored h.own j x, h.kept.setCell (p := ⟨q, j, none⟩) (fun hq => (h.at_ q rfl).elim id (fun h2 => absurd hq (Nat.not_lt_of_le h2))) _, h.at_⟩
theorem row_ne {w : World} {base n size : Nat} {v : Value} {xs : List Value} {T T' : TypeId} (h : w.ownsRow base T size v n xs) {b : Nat} {cs : Array Value} {fr : Nat × Nat} (hb : w.heap[b]? = some (.cells cs T' fr)) (hT : T' ≠ T) : some b ≠ v.ownBlock := fun e => by
  obtain ⟨cur, h2⟩ := ownsRow_type h e.symm
  rw [hb] at h2
  injection h2 with h2
  injection h2 with _ h2
  exact hT h2
theorem tWrite_neF : tWrite ≠ tRF := by decide
theorem row_news {w : World} {base n c : Nat} {A : Option Addr} {xs : List Value} (h : w.ownsRow base tRF 2 (.slice A n c) n xs) : 0 < n → ∃ g, A = some ⟨g, 0, none⟩ ∧ base ≤ g ∧ g < w.heap.size ∧ ∀ j u, xs[j]? = some u → w.cell? ⟨g, j, none⟩ = some u := by
  intro hp
  rcases h.2 with ⟨e0, hn⟩ | ⟨g, cap, cur, e0, h1, h2, h3, h4, h5, h6⟩
  · omega
  · injection e0 with e1 e2 e3
    subst e1 e3
    refine ⟨g, rfl, h1, row_lt h2, fun j u hu => ?_⟩
    rw [cell_of_row w g _ _ _ _ h2]
    rw [← h6, List.getElem?_take] at hu
    split at hu
    · simpa using hu
    · cases hu
set_option maxRecDepth 100000 in
set_option maxHeartbeats 4000000 in
theorem do_put (v0 : Value) (base : Nat) (S : Nat → Prop) (F : Fs) (k : Nat) (nm : Bs) (off : Nat) (d : Bs) (A : Option Addr) (c B : Nat) (w : World) (h : RfAt w base S v0 F) (hS : ∀ b, S b → b < w.heap.size) (hv0 : ∀ b, v0.ownBlock = some b → b < w.heap.size) (hl : F.length ≤ 68719476736) (hup : Up F) (hok : ∀ p ∈ F, p.2.length ≤ 1099511627776)
    (hk : 1 ≤ k ∧ k ≤ 2) (hoff : off ≤ 4194304) (hd : d.length ≤ 1099511627776) (hr : Lies w B A d) (hB : B ≤ w.heap.size) :
    Calls Try.prog 40 #[v0, wV k nm (off : Int) A d.length c] w (GivesF (doW F ⟨k, nm, off, d⟩) w) := by
  unfold wV
  obtain ⟨w0, hw0⟩ : ∃ w0, w0 = w.alloc (.cells #[.int .i64 (k : Nat), .string (str nm), .int .i64 (off : Nat), .slice A d.length c] tWrite) := ⟨_, rfl⟩
  have hb0 : Below w.heap.size w w0 := by rw [hw0]; exact (Below.refl _ _).alloc (Nat.le_refl _) _
  have hz0 : w0.heap.size = w.heap.size + 1 := by rw [hw0]; simp
  have hxr : w0.heap[w.heap.size]? = some (.cells #[.int .i64 (k : Nat), .string (str nm), .int .i64 (off : Nat), .slice A d.length c] tWrite (0, 0)) := by rw [hw0]; exact heap_alloc_new w _
  have HOWN := Lib.hid (own_any v0 base S F w0 (h.keep (fun b hb => hb0.block b (hv0 b hb)) (fun b hb => hb0.block b (hS b hb)) (fun _ hb => hb)) (fun b hb => by rw [hz0]; have := hS b hb; omega) hl (fun p hp => Nat.le_trans (hok p hp) (by decide)))
  have HOK := Lib.hid hok
  have HUP := Lib.hid hup
  have HR := Lib.hid hr
  have HB0 := Lib.hid hb0
  have HXR := Lib.hid hxr
  have HW0 := Lib.hid hw0
  have HZ0 := Lib.hid hz0
  clear h hS hv0 hok hup hb0 hxr hz0 hr
  go_enter Try.func40, Try.ntmps40
  go_wp2_with fail
  rw [← HW0.out]
  clear hw0 HW0
  refine HOWN.out.mono ?_
  rintro e w1 ⟨v1, rfl, ho1, hb1⟩
  have hz1 := hb1.size
  have hx1 := (hb1.block _ (row_lt HXR.out)).trans HXR.out
  have HO1 := Lib.hid (ho1.base (base' := w.heap.size) (by rw [HZ0.out]; omega))
  have HB1 := Lib.hid (By.ext HB0.out hb1)
  have HX1 := Lib.hid hx1
  have HFI := Lib.hid (find_any v1 w.heap.size _ F nm w1 HO1.out.at_ HUP.out)
  have hx1n : w1.cell? ⟨w.heap.size, 1, none⟩ = some (.string (str nm)) := by rw [cell_of_row w1 _ 1 _ _ _ hx1]; rfl
  have hx1k : w1.cell? ⟨w.heap.size, 0, none⟩ = some (.int .i64 (k : Nat)) := by rw [cell_of_row w1 _ 0 _ _ _ hx1]; rfl
  clear ho1 hb1 hz1 hx1 HOWN HB0 HXR HZ0
  obtain ⟨i, hi⟩ : ∃ i, fidx F nm = i := ⟨_, rfl⟩
  obtain ⟨th, ht⟩ : ∃ th, fthere F nm = th := ⟨_, rfl⟩
  have hfi := HFI.out
  rw [hi, ht] at hfi
  clear HFI
  have HFI := Lib.hid hfi
  have HI := Lib.hid hi
  have HTH := Lib.hid ht
  clear hfi hi ht
  go_wp2_with fail
  clear hx1n hx1k
  refine HFI.out.mono ?_
  rintro e w2 ⟨rfl, hb2⟩
  have hx2 := (hb2.block _ (row_lt HX1.out)).trans HX1.out
  have hx1n : w2.cell? ⟨w.heap.size, 1, none⟩ = some (.string (str nm)) := by rw [cell_of_row w2 _ 1 _ _ _ hx2]; rfl
  have hx1k : w2.cell? ⟨w.heap.size, 0, none⟩ = some (.int .i64 (k : Nat)) := by rw [cell_of_row w2 _ 0 _ _ _ hx2]; rfl
  have HO1 := Lib.hid (HO1.out.below hb2)
  have HB1 := Lib.hid (By.ext HB1.out hb2)
  have HX1 := Lib.hid hx2
  clear hx2 hb2 HFI
  obtain ⟨w1, rfl⟩ : ∃ w1, w1 = w2 := ⟨_, rfl⟩
  have HFL := Lib.hid (show i ≤ F.length from HI.out ▸ fidx_le F nm)
  have hk3' : ((k : Int) == 3) = false := by simpa using (show ¬ (k : Int) = 3 by omega)
  have HK3 := Lib.hid hk3'
  clear hk3'
  go_upto_if 22 with (fail)
  have hk3' := HK3.out
  go_upto_if 34 with (fail)
  clear hk3'
  go_cut [5] (fun out wx => DoMid F k nm off d A c out w wx)
  case first =>
    cases th with
    | true =>
      have HM := Lib.hid (midF_there HUP.out HTH.out)
      go_wp2
      go_meet
      exact ⟨by rw [HM.out]; exact HO1.out, HX1.out, HB1.out⟩
    | false =>
      have HM := Lib.hid (midF_not HTH.out)
      have hil := HFL.out
      obtain ⟨ac, hac, how, hda, hap⟩ := HO1.out
      obtain ⟨A1, c1, rfl⟩ := ownsRow_form how
      have hcap : F.length ≤ c1 := by
        obtain ⟨A', c', e, h2, _⟩ := HO1.out.at_.form
        injection e with _ _ e
        rw [e]
        exact h2
      have hcut := fun w' => run_toF w' A1 F.length c1 i (by omega)
      have hfrom := fun w' => run_fromF w' A1 F.length c1 i (by omega)
      have HOM := Lib.hid (show (w1.alloc (.cells #[] tRF)).ownsRow w1.heap.size tRF 2 (.slice (some ⟨w1.heap.size, 0, none⟩) 0 0) 0 [] from World.ownsRow_made w1 #[] 0 (Nat.le_refl _) (by decide) rfl)
      have HNF := Lib.hid (show 0 < F.length - i → ∃ a, cutRF A1 c1 i = some a ∧ ∀ j u, (fRow (F.drop i) (ac.drop i))[j]? = some u → (w1.alloc (.cells #[] tRF)).cell? (a.add j) = some u from by rw [← fRow_drop i hac]; exact ownsRow_from (how.alloc _) (by omega))
      have HNN := Lib.hid (show ∀ u ∈ fRow (F.drop i) (ac.drop i), u.oneCell' = true from fun u hu => fRow_one' hu)
      have HNL := Lib.hid (show (fRow (F.drop i) (ac.drop i)).length = (F.length - i) * 2 from by rw [fRow_length (by simp [hac]), List.length_drop])
      have HZA := Lib.hid (show w1.heap.size ≤ (w1.alloc (.cells #[] tRF)).heap.size by simp)
      have HOW := Lib.hid how
      have HDA := Lib.hid hda
      have HAC := Lib.hid hac
      have HAP := Lib.hid hap
      clear how hda hac hap
      go_wp2_with (at_builtin; refine wpList_appF rfl (.tmp 35) (.tmp 38) rfl w1.heap.size _ 0 [] rfl HOM.out (cutRF A1 c1 i) (F.length - i) (c1 - i) rfl (fRow (F.drop i) (ac.drop i)) HNL.out HNF.out HNN.out (by omega) HZA.out ?_; intro v2 w2 ho2 hg2 hv2)
      rw [Nat.zero_add, List.nil_append] at ho2
      obtain ⟨A2, c2, rfl⟩ := ownsRow_form ho2
      have hb2 : Below w1.heap.size w1 w2 := ((Below.refl _ _).alloc (Nat.le_refl _) _).grown hg2 (by simp) (fun q e => by injection e with e; exact Nat.le_of_eq e)
      have hx2 := (hb2.block _ (row_lt HX1.out)).trans HX1.out
      have hx2n : w2.cell? ⟨w.heap.size, 1, none⟩ = some (.string (str nm)) := by rw [cell_of_row w2 _ 1 _ _ _ hx2]; rfl
      have HOC := Lib.hid (show (w2.alloc (.cells (fCells (nm, []) (none, 0)).toArray tRF)).drew.ownsRow w.heap.size tRF 2 (.slice A1 i c1) i (fRow (F.take i) (ac.take i)) from by
        rw [← fRow_take i HAC.out]
        exact ownsRow_cut ((ownsRow_keep HOW.out (fun b hb => hb2.block b (ownsRow_lt HOW.out hb).2)).alloc _) hil)
      have HNC := Lib.hid (show 0 < 1 → ∃ a, (some ⟨w2.heap.size, 0, none⟩ : Option Addr) = some a ∧ ∀ j u, (fCells (nm, []) (none, 0))[j]? = some u → (w2.alloc (.cells (fCells (nm, []) (none, 0)).toArray tRF)).drew.cell? (a.add j) = some u from fun _ => ⟨_, rfl, fun j u hu => by
        rw [plainAdd, Nat.zero_add]
        refine Eq.trans (cell_of_row (w2.alloc (.cells (fCells (nm, []) (none, 0)).toArray tRF)) _ j _ _ _ (heap_alloc_new w2 _)) ?_
        simpa using hu⟩)
      have HN1 := Lib.hid (show ∀ u ∈ fCells (nm, []) (none, 0), u.oneCell' = true by
        intro u hu
        simp only [fCells, List.mem_cons, List.not_mem_nil, or_false] at hu
        rcases hu with rfl | rfl <;> rfl)
      have HZC := Lib.hid (show w.heap.size ≤ (w2.alloc (.cells (fCells (nm, []) (none, 0)).toArray tRF)).drew.heap.size from by
        show _ ≤ (w2.alloc _).heap.size
        have := HB1.out.size
        have := hb2.size
        simp
        omega)
      have HO2 := Lib.hid ho2
      have HB2 := Lib.hid hb2
      have HX2 := Lib.hid hx2
      clear ho2 hb2 hx2 hg2 hv2 hcut hfrom hx1n hx1k
      have hcut2 := fun w' => run_toF w' A1 F.length c1 i (by omega)
      go_region_law (first
        | (refine step_appF rfl (.tmp 42) (.tmp 46) rfl w.heap.size (.slice A1 i c1) i (fRow (F.take i) (ac.take i)) rfl HOC.out (some ⟨w2.heap.size, 0, none⟩) 1 1 rfl (fCells (nm, []) (none, 0)) rfl HNC.out HN1.out (by omega) HZC.out ?_
           intro v5 w5 ho5 hg5 hv5
           obtain ⟨A5, c5, rfl⟩ := ownsRow_form ho5
           have hg5' : (w2.alloc (.cells (fCells (nm, []) (none, 0)).toArray tRF)).grownBy w5 (Value.slice A1 i c1).ownBlock := ⟨hg5.os, hg5.tape, hg5.output, hg5.size, hg5.block⟩
           have hb5 : ∀ b, b < w2.heap.size → some b ≠ (Value.slice A1 i c1).ownBlock → w5.heap[b]? = w2.heap[b]? := fun b hb hne => (hg5'.block b (by simp; omega) hne).trans (heap_alloc_old w2 _ hb)
           have hx5 := (hb5 _ (row_lt HX2.out) (row_ne HOC.out ((heap_alloc_old w2 (.cells (fCells (nm, []) (none, 0)).toArray tRF) (row_lt HX2.out)).trans HX2.out) tWrite_neF)).trans HX2.out
           have hx5n : w5.cell? ⟨w.heap.size, 1, none⟩ = some (.string (str nm)) := by rw [cell_of_row w5 _ 1 _ _ _ hx5]; rfl
           have HRS := Lib.hid (show 0 < F.length - i → ∃ a, A2 = some a ∧ ∀ j u, (fRow (F.drop i) (ac.drop i))[j]? = some u → w5.cell? (a.add j) = some u from fun hp => by
             obtain ⟨g, e, h1, h2, h3⟩ := row_news HO2.out hp
             refine ⟨_, e, fun j u hu => ?_⟩
             rw [plainAdd, Nat.zero_add]
             exact (World.cell?_of_block (w := w2) (hb5 g h2 (fun e2 => by
               have h4 := (ownsRow_lt HOW.out (b := g) ((own_any_len A1 F.length i c1).trans e2.symm)).2
               omega))).trans (h3 j u hu))
           have HO5 := Lib.hid ho5
           have HG5 := Lib.hid hg5'
           have HB5 := Lib.hid hb5
           have HX5 := Lib.hid hx5
           have HZ5 := Lib.hid (Nat.le_trans HZC.out hg5.size)
           clear ho5 hg5 hg5' hb5 hx5 hv5)
        | (refine step_appF rfl (.tmp 47) (.tmp 48) rfl w.heap.size (.slice A5 (i + 1) c5) (i + 1) (fRow (F.take i) (ac.take i) ++ fCells (nm, []) (none, 0)) rfl HO5.out A2 (F.length - i) c2 rfl (fRow (F.drop i) (ac.drop i)) HNL.out HRS.out HNN.out (by omega) HZ5.out ?_
           intro v6 w6 ho6 hg6 hv6
           have HO6 := Lib.hid ho6
           have HG6 := Lib.hid hg6
           clear ho6 hg6 hv6))
      all_goals
        go_wp2
        go_meet
        have hm := HM.out
        rw [HI.out] at hm
        have h8 : ∀ b, b < w1.heap.size → U8 w1 b → w6.heap[b]? = w1.heap[b]? := fun b hb hu => by
          have h1 := HB2.out.block b hb
          have hz2 := HB2.out.size
          have h2 : w5.heap[b]? = w2.heap[b]? := HB5.out b (by omega) (u8_neF HOC.out (u8_keep (u8_keep hu h1) (heap_alloc_old w2 _ (by omega))))
          have h3 : w6.heap[b]? = w5.heap[b]? := HG6.out.block b (by have := HG5.out.size; rw [World.size_alloc] at this; omega) (u8_neF HO5.out (u8_keep (u8_keep hu h1) h2))
          exact h3.trans (h2.trans h1)
        refine ⟨by rw [hm]; exact own_put_row HAC.out hil rfl HDA.out HAP.out HO6.out h8, ?_, ?_⟩
        · exact (HG6.out.block _ (row_lt HX5.out) (row_ne HO5.out HX5.out tWrite_neF)).trans HX5.out
        · have hz1 := HB1.out.size
          have hz2 := HB2.out.size
          refine ((((HB1.out.trans (HB2.out.mono hz1)).alloc (by omega) _).grown HG5.out (by simp; omega) (fun q e => (ownsRow_lt HOC.out e).1)).grown HG6.out HZ5.out (fun q e => (ownsRow_lt HO5.out e).1))
  obtain ⟨ho, hxw, hbw⟩ := hcut
  obtain ⟨ac, hac, how, hda, hap⟩ := ho
  have hget := midF_get F nm
  have hil : i < (midF F nm).length := by
    rw [HI.out] at hget
    exact (List.getElem?_eq_some_iff.1 hget).1
  rcases how.2 with ⟨rfl, hn⟩ | ⟨gr, cap, cur, rfl, hgb, hgr, hncap, hcap, hcsz, htake⟩
  · omega
  unfold maxLen at hcap
  obtain ⟨b0, hb0⟩ : ∃ b0, bytesOf F nm = b0 := ⟨_, rfl⟩
  rw [hb0] at hget
  have hbl : b0.length ≤ 1099511627776 := by
    rw [← hb0]
    unfold bytesOf
    cases hg : fget F nm with
    | none => simp
    | some b => exact HOK.out _ (mem_fget hg)
  obtain ⟨⟨Aa, ca⟩, hai⟩ : ∃ a, ac[i]? = some a := ⟨_, List.getElem?_eq_getElem (by omega)⟩
  have h0 : Own w.heap.size wc (.slice Aa b0.length ca) b0 := by
    have h1 := hda i (nm, b0) (Aa, ca) (by rw [← HI.out]; exact hget) hai
    exact h1
  have hcell : wc.cell? ⟨gr, i * 2 + 1, none⟩ = some (.slice Aa b0.length ca) := by
    have h1 := fRow_get (j := 1) (by decide) (show (midF F nm)[i]? = some (nm, b0) by rw [← HI.out]; exact hget) hai hac
    rw [cell_of_row wc gr _ _ _ _ hgr]
    rw [← htake, List.getElem?_take] at h1
    split at h1
    · exact (show cur[i * 2 + 1]? = cur.toList[i * 2 + 1]? by simp).trans h1
    · rename_i hh
      omega
  have hx0 : wc.cell? ⟨w.heap.size, 0, none⟩ = some (.int .i64 (k : Nat)) := by rw [cell_of_row wc _ 0 _ _ _ hxw]; rfl
  have H0 := Lib.hid h0
  have HXW := Lib.hid hxw
  have HGR := Lib.hid hgr
  have HBW := Lib.hid hbw
  have HAI := Lib.hid hai
  have HB0 := Lib.hid hb0
  have HOW := Lib.hid how
  have HAC := Lib.hid hac
  have HDA := Lib.hid hda
  have HAP := Lib.hid hap
  clear h0 hxw hgr hbw hai hb0 how hac hda hap hget htake hcsz hx1n hx1k
  have FIN := Lib.hid (fun (wr : World) (v : Value) (l nb : Bs) (Ab : Option Addr) (cb : Nat) (hp : PadAt w.heap.size wc wr (Aa, ca) v l) (hnb : nb.length ≤ cb) (hll : LiesS wr (fun b => w.heap.size ≤ b ∧ b < wr.heap.size ∧ U8 wr b) Ab nb) => by
    have h1 := do_fin (cap := cap) (gr := gr) rfl HUP.out HAC.out HOW.out HDA.out HAP.out (by rw [HI.out]; exact HAI.out) HBW.out hp hnb hll
    rw [HI.out] at h1
    exact h1)
  by_cases hk2 : k = 2
  · have HDO := Lib.hid (show doW F ⟨k, nm, off, d⟩ = fput nm (cutB b0 off) F by
      subst hk2
      unfold doW
      rw [if_neg (by show ¬ (2 : Nat) = 3; decide), if_pos rfl, HB0.out])
    have hk2' : ((k : Int) == 2) = true := by simpa using (show (k : Int) = 2 by omega)
    clear hk2
    go_wp2
    go_loopw [9] (fun bv wr => ∃ j, j ≤ off - b0.length ∧ PadAt w.heap.size wc wr (Aa, ca) bv (b0 ++ List.replicate j 0)) (fun bv _ => off - lenV bv)
    case atStart => exact ⟨0, Nat.zero_le _, by simpa using PadAt.start H0.out⟩
    case round =>
      obtain ⟨j, hj, hp⟩ := hrel
      have hxr := hp.block H0.out HXW.out tWrite_ne8
      have hgr' := hp.block H0.out HGR.out tRF_ne8
      have hlen : (b0 ++ List.replicate j (0 : UInt8)).length = b0.length + j := by simp
      obtain ⟨Ab, cb, e⟩ := ownsRow_form hp.own
      rw [hlen] at e
      subst e
      have hy2 : wr.cell? ⟨w.heap.size, 2, none⟩ = some (.int .i64 (off : Nat)) := by rw [cell_of_row wr _ 2 _ _ _ hxr]; rfl
      have hy3 : wr.cell? ⟨w.heap.size, 3, none⟩ = some (.slice A d.length c) := by rw [cell_of_row wr _ 3 _ _ _ hxr]; rfl
      have HP := Lib.hid hp
      have HGW := Lib.hid hgr'
      have HLEN := Lib.hid hlen
      clear hxr hgr' hlen hp
      by_cases hlt : b0.length + j < off
      · have HOA := Lib.hid (show Own w.heap.size (wr.alloc (.cells #[.int .u8 0] 5)) (.slice Ab (b0.length + j) cb) (b0 ++ List.replicate j 0) from HP.out.own.alloc _)
        have HLA := Lib.hid (Lies.one wr 0 0 rfl)
        have HZW := Lib.hid (show w.heap.size ≤ (wr.alloc (.cells #[.int .u8 0] 5)).heap.size from by
          have h1 := HBW.out.size
          have h2 := HP.out.kept.size
          simp
          omega)
        go_wp2_with (at_builtin; refine wpList_appB rfl (.tmp 63) (.tmp 64) rfl (base := w.heap.size) rfl HOA.out (A := some ⟨wr.heap.size, 0, none⟩) (m := 1) (c := 1) (l2 := [0]) rfl rfl HLA.out (by have := HLEN.out; simp only [List.length_singleton]; omega) HZW.out ?_; intro v5 w5 ho5 hg5 hv5)
        have hl5 : (b0 ++ List.replicate j (0 : UInt8) ++ [0]).length = b0.length + j + 1 := by simp [Nat.add_assoc]
        obtain ⟨A5, c5, e⟩ := ownsRow_form ho5
        rw [hl5] at e
        subst e
        have hq := HP.out.step ho5 hg5 hv5
        rw [List.append_assoc, ← List.replicate_succ'] at hq
        go_roundw
        case rel => exact ⟨j + 1, by omega, hq⟩
        case measure => show off - (b0.length + j + 1) < off - (b0.length + j); omega
      · have hge : off ≤ cb := by
          have h1 := (own_cap HP.out.own).2.1
          have h2 := HLEN.out
          omega
        have hcut := fun w' => run_to w' Ab (b0.length + j) cb off hge
        have hfz : wr.frozen? ⟨gr, i * 2 + 1, none⟩ = false := frozen_of_row wr gr _ _ _ HGW.out
        have hcl : ∃ u, wr.cell? ⟨gr, i * 2 + 1, none⟩ = some u := by
          have h1 := hcell
          rw [cell_of_row wc gr _ _ _ _ HGR.out] at h1
          exact ⟨_, by rw [cell_of_row wr gr _ _ _ _ HGW.out]; exact h1⟩
        obtain ⟨uu, hcl⟩ := hcl
        clear hcell
        go_wp2
        go_ret
        rw [HDO.out]
        have hpe := pad_end hj hlt
        have hp2 := HP.out
        rw [hpe] at hp2
        have hln : (cutB b0 off).length = off := cutB_length _ _
        have hll : LiesS wr (fun b => w.heap.size ≤ b ∧ b < wr.heap.size ∧ U8 wr b) Ab (cutB b0 off) := lies_takeS (Lies.toS hp2.own (fun b h1 h2 h3 => ⟨h1, h2, h3⟩)) off
        have hfin := FIN.out wr _ _ (cutB b0 off) Ab cb hp2 (by rw [hln]; exact hge) hll
        rw [hln] at hfin
        exact hfin
  · have HDO := Lib.hid (show doW F ⟨k, nm, off, d⟩ = fput nm (putB b0 off d) F by
      unfold doW
      rw [if_neg (by show ¬ k = 3; omega), if_neg hk2, HB0.out])
    have hk2' : ((k : Int) == 2) = false := by simpa using (show ¬ (k : Int) = 2 by omega)
    clear hk2
    go_wp2
    go_loopw [9] (fun bv wr => ∃ j, j ≤ off + d.length - b0.length ∧ PadAt w.heap.size wc wr (Aa, ca) bv (b0 ++ List.replicate j 0)) (fun bv _ => off + d.length - lenV bv)
    case atStart => exact ⟨0, Nat.zero_le _, by simpa using PadAt.start H0.out⟩
    case round =>
      obtain ⟨j, hj, hp⟩ := hrel
      have hxr := hp.block H0.out HXW.out tWrite_ne8
      have hgr' := hp.block H0.out HGR.out tRF_ne8
      have hlen : (b0 ++ List.replicate j (0 : UInt8)).length = b0.length + j := by simp
      obtain ⟨Ab, cb, e⟩ := ownsRow_form hp.own
      rw [hlen] at e
      subst e
      have hy2 : wr.cell? ⟨w.heap.size, 2, none⟩ = some (.int .i64 (off : Nat)) := by rw [cell_of_row wr _ 2 _ _ _ hxr]; rfl
      have hy3 : wr.cell? ⟨w.heap.size, 3, none⟩ = some (.slice A d.length c) := by rw [cell_of_row wr _ 3 _ _ _ hxr]; rfl
      have HP := Lib.hid hp
      have HGW := Lib.hid hgr'
      have HLEN := Lib.hid hlen
      clear hxr hgr' hlen hp
      by_cases hlt : b0.length + j < off + d.length
      · have HOA := Lib.hid (show Own w.heap.size (wr.alloc (.cells #[.int .u8 0] 5)) (.slice Ab (b0.length + j) cb) (b0 ++ List.replicate j 0) from HP.out.own.alloc _)
        have HLA := Lib.hid (Lies.one wr 0 0 rfl)
        have HZW := Lib.hid (show w.heap.size ≤ (wr.alloc (.cells #[.int .u8 0] 5)).heap.size from by
          have h1 := HBW.out.size
          have h2 := HP.out.kept.size
          simp
          omega)
        go_wp2_with (at_builtin; refine wpList_appB rfl (.tmp 84) (.tmp 85) rfl (base := w.heap.size) rfl HOA.out (A := some ⟨wr.heap.size, 0, none⟩) (m := 1) (c := 1) (l2 := [0]) rfl rfl HLA.out (by have := HLEN.out; simp only [List.length_singleton]; omega) HZW.out ?_; intro v5 w5 ho5 hg5 hv5)
        have hl5 : (b0 ++ List.replicate j (0 : UInt8) ++ [0]).length = b0.length + j + 1 := by simp [Nat.add_assoc]
        obtain ⟨A5, c5, e⟩ := ownsRow_form ho5
        rw [hl5] at e
        subst e
        have hq := HP.out.step ho5 hg5 hv5
        rw [List.append_assoc, ← List.replicate_succ'] at hq
        go_roundw
        case rel => exact ⟨j + 1, by omega, hq⟩
        case measure => show off + d.length - (b0.length + j + 1) < off + d.length - (b0.length + j); omega
      · have hpe := pad_end (t := off + d.length) hj hlt
        have hp2 := HP.out
        rw [hpe] at hp2
        obtain ⟨N, hN⟩ : ∃ N, b0.length + j = N := ⟨_, rfl⟩
        have hNl : (padTo b0 (off + d.length)).length = N := by rw [← hpe, ← hN]; exact HLEN.out
        rw [hN] at hp2 hlt ⊢
        have HP2 := Lib.hid hp2
        have HNL := Lib.hid hNl
        have HN := Lib.hid hN
        have HGW2 := Lib.hid HGW.out
        clear hN hNl hp2 hpe HP HLEN hcell HGW
        have hge : off + d.length ≤ N := Nat.le_of_not_lt hlt
        go_wp2
        go_loopw [10] (fun iv w5 => ∃ q : Nat, q ≤ d.length ∧ iv = .int .i64 (q : Int) ∧ PadAt w.heap.size wc w5 (Aa, ca) (.slice Ab N cb) (midB (padTo b0 (off + d.length)) off d q)) (fun iv _ => d.length - (intOf iv).toNat)
        case atStart => exact ⟨0, Nat.zero_le _, rfl, by rw [midB_zero]; exact HP2.out⟩
        case round =>
          obtain ⟨q, hq, rfl, hp⟩ := hrel
          have hxr := hp.block H0.out HXW.out tWrite_ne8
          have hgr' := hp.block H0.out HGR.out tRF_ne8
          have hy2 : wr.cell? ⟨w.heap.size, 2, none⟩ = some (.int .i64 (off : Nat)) := by rw [cell_of_row wr _ 2 _ _ _ hxr]; rfl
          have hy3 : wr.cell? ⟨w.heap.size, 3, none⟩ = some (.slice A d.length c) := by rw [cell_of_row wr _ 3 _ _ _ hxr]; rfl
          have HP := Lib.hid hp
          have HGW := Lib.hid hgr'
          have HLM := Lib.hid (show (midB (padTo b0 (off + d.length)) off d q).length = N by rw [midB_len hq (by rw [HNL.out]; omega)]; exact HNL.out)
          clear hp hgr' hxr
          by_cases hql : q < d.length
          · obtain ⟨qb, rfl⟩ : ∃ qb, Ab = some ⟨qb, 0, none⟩ := by
              obtain ⟨qb, e, _⟩ := own_head HP.out.own (show 0 < N by omega)
              exact ⟨qb, e⟩
            obtain ⟨ga, oa, rfl, hga, hca⟩ := HR.out.at_ hql
            have hfar := HP.out.far H0.out HBW.out (Nat.le_refl _) HBW.out.size
            have hca5 : wr.cell? ⟨ga, oa + q, none⟩ = some (.int .u8 (d[q].toNat : Int)) := (hfar.cell (show ga < w.heap.size by omega)).trans hca
            have hwb := own_cell HP.out.own (j := off + q) (by have := HLM.out; omega)
            have hfz := own_free HP.out.own HLM.out.symm (off + q)
            have HST := Lib.hid (show PadAt w.heap.size wc (wr.drew.setCell ⟨qb, off + q, none⟩ (bv d[q])) (Aa, ca) (.slice (some ⟨qb, 0, none⟩) N cb) ((midB (padTo b0 (off + d.length)) off d q).set (off + q) d[q]) from PadAt.store (show PadAt w.heap.size wc wr.drew (Aa, ca) _ _ from HP.out.drewN 1) (off + q) d[q])
            rw [midB_set hql (by rw [HNL.out]; exact hge)] at HST
            obtain ⟨x, hx⟩ : ∃ x, d[q] = x := ⟨_, rfl⟩
            rw [hx] at hca5 HST
            have HX := Lib.hid hx
            clear hx hca hfar
            have hwr : IntKind.i64.wrap ((off : Int) + (q : Int)) = (off : Int) + (q : Int) := IntWalk.i64_in _ (by omega)
            have hi0 : (0 : Int) ≤ (off : Int) + (q : Int) := by omega
            have hi1 : (off : Int) + (q : Int) < (N : Int) := by omega
            have hto : ((off : Int) + (q : Int)).toNat = off + q := by omega
            go_wp2
            go_still_tail 11, (by kernel_rfl)
            change wpList _ _ _ _ _ wr.drew
            go_wp2
            go_roundw
            case rel => exact ⟨q + 1, by omega, by go_num, HST.out⟩
            case measure => simp [intOf]; omega
          · have hqe : q = d.length := by omega
            have HQE := Lib.hid hqe
            clear hqe
            have hfz : wr.frozen? ⟨gr, i * 2 + 1, none⟩ = false := frozen_of_row wr gr _ _ _ HGW.out
            have hcl : ∃ u, wr.cell? ⟨gr, i * 2 + 1, none⟩ = some u := by
              have h1 := fRow_get (j := 1) (by decide) (show (midF F nm)[i]? = some (nm, b0) by rw [← HI.out, ← HB0.out]; exact midF_get F nm) HAI.out HAC.out
              rcases HOW.out.2 with ⟨e0, _⟩ | ⟨g, cp, cu, e0, _, h3, h4, _, h6, h7⟩
              · cases e0
              · injection e0 with e1 _ e2
                injection e1 with e1
                injection e1 with e1
                subst e1 e2
                rw [HGR.out] at h3
                injection h3 with h3
                injection h3 with h3
                subst h3
                rw [← h7, List.getElem?_take] at h1
                split at h1
                · exact ⟨_, by rw [cell_of_row wr gr _ _ _ _ HGW.out]; exact (show cur[i * 2 + 1]? = cur.toList[i * 2 + 1]? by simp).trans h1⟩
                · rename_i hh
                  omega
            obtain ⟨uu, hcl⟩ := hcl
            go_wp2
            go_ret
            rw [HDO.out]
            have hp2 := HP.out
            have hlm := HLM.out
            rw [HQE.out, midB_end] at hp2 hlm
            have hll : LiesS wr (fun b => w.heap.size ≤ b ∧ b < wr.heap.size ∧ U8 wr b) Ab (putB b0 off d) := Lies.toS hp2.own (fun b h1 h2 h3 => ⟨h1, h2, h3⟩)
            have hfin := FIN.out wr _ _ (putB b0 off d) Ab cb hp2 (by have := (own_cap hp2.own).2.1; omega) hll
            rw [hlm] at hfin
            exact hfin
end Go.Proofs.Ytcfnfphnjkllcaa.Dk
