/- Package clock's Pass, as a contract of a call. -/
import Derived.Test.YthpcmcnkiiebkaaCkE
namespace Go.Proofs.Ythpcmcnkiiebkaa.Ck
open Go.RowKit Go.Maps By Mp SumP SumW

theorem pass_bad {w : World} {g : Nat} {c : C9} {S : Nat → Prop} (h : ClkIs w g c S) (n d : Int) (hn : ¬ okN n) :
    Calls Try.prog 15 #[.pointer (some ⟨g, 0, none⟩), .int .i64 n, .int .u64 d] w (CStep (.int .i64 1) g c S w) := by
  have HC := Lib.hid h
  obtain ⟨b, h⟩ := h
  obtain ⟨c0, c1, c2, c3⟩ := h.cells
  have q1 := ptrTest
  have HB := Lib.hid (bounds_bad n c.rho (fun ht => hn ⟨ht.1, ht.2.1⟩))
  clear hn h
  go_enter Try.func15, Try.ntmps15
  go_wp2_with (go_at_call 24; refine (HB.out _).mono ?_; rintro e w1 ⟨rfl, rfl⟩)
  go_ret
  exact CStep.same HC.out
theorem pass_late {w : World} {g : Nat} {c : C9} {S : Nat → Prop} (h : ClkIs w g c S) (n d : Int) (hn : okN n) (ho : top < c.real + n) :
    Calls Try.prog 15 #[.pointer (some ⟨g, 0, none⟩), .int .i64 n, .int .u64 d] w (CStep (.int .i64 3) g c S w) := by
  have HC := Lib.hid h
  obtain ⟨b, h⟩ := h
  obtain ⟨c0, c1, c2, c3⟩ := h.cells
  have q1 := ptrTest
  have HB := Lib.hid (bounds_good n c.rho (h.ok.tame hn))
  have HL := Lib.hid (later_over c.real n h.ok.real.1 h.ok.real.2 ho)
  clear hn ho h
  go_enter Try.func15, Try.ntmps15
  go_wp2_with (first
    | (go_at_call 24; refine (HB.out _).mono ?_; rintro e w1 ⟨rfl, rfl⟩)
    | (go_at_call 25; refine (HL.out _).mono ?_; rintro e w1 ⟨rfl, rfl⟩))
  go_ret
  exact CStep.same HC.out
/-- What of the next times is there, while some are still to come. -/
def doneG (N M : Nat) (t : List Int) (left : Lit → Bool) : Lit → Option Value := fun l => if left l = true then none else getT N M t l
theorem done_few {N M : Nat} (hN : N ≤ 16) (hM : M ≤ 16) {t : List Int} {left : Lit → Bool} (l : Lit) (v : Value) (h : doneG N M t left l = some v) : ∃ e : Int, l = ekey e ∧ -16 ≤ e ∧ e ≤ 16 := by
  unfold doneG at h
  split at h
  · cases h
  · exact getT_few hN hM l v h
theorem getT_some {N M : Nat} {t t' : List Int} (ht : t'.length = t.length) (l : Lit) : (getT N M t' l).isSome = (getT N M t l).isSome := by
  unfold getT
  split
  · rename_i e
    by_cases h : 0 ≤ atF N M e
    · rw [if_pos h, if_pos h, Option.isSome_map, Option.isSome_map]
      by_cases h2 : (atF N M e).toNat < t.length
      · rw [List.getElem?_eq_getElem h2, List.getElem?_eq_getElem (show (atF N M e).toNat < t'.length by omega)]; rfl
      · rw [List.getElem?_eq_none (by omega), List.getElem?_eq_none (by omega)]
    · rw [if_neg h, if_neg h]
  · rfl
theorem done_start {N M : Nat} {t t' : List Int} (ht : t'.length = t.length) {left : Lit → Bool} (hl : ∀ l, WideAt.IsKeyLit l → left l = (getT N M t l).isSome) (l : Lit) (hk : WideAt.IsKeyLit l) : doneG N M t' left l = none := by
  unfold doneG
  rw [hl l hk]
  split
  · rfl
  · rename_i h
    rw [← getT_some ht] at h
    exact Option.isNone_iff_eq_none.1 (by simpa using h)
theorem done_step {N M : Nat} {t' : List Int} {left : Lit → Bool} {e x : Int} (he : 0 ≤ atF N M e) (hx : t'[(atF N M e).toNat]? = some x) (l : Lit) :
    doneG N M t' (fun z => left z && !z.sameKey (ekey e)) l = upd (doneG N M t' left) (ekey e) (some (iv x)) l := by
  unfold upd
  by_cases hs : l.sameKey (ekey e) = true
  · rw [if_pos hs]
    obtain rfl := WideAt.sameKey_eq hs
    unfold doneG
    rw [if_neg (by show ¬ (left (ekey e) && !(ekey e).sameKey (ekey e)) = true; rw [hs]; simp)]
    unfold getT
    simp only
    rw [if_pos he, hx]; rfl
  · rw [if_neg hs]
    unfold doneG
    simp [hs]
theorem done_end {N M : Nat} {t' : List Int} {left : Lit → Bool} (h : ∀ l, left l = false) (l : Lit) : doneG N M t' left l = getT N M t' l := by
  unfold doneG
  rw [if_neg (by rw [h l]; simp)]
/-- No place is without an end. -/
theorem end_at {N M i : Nat} (h : i < N + M) : ∃ e : Int, 0 ≤ atF N M e ∧ (atF N M e).toNat = i := by
  by_cases h1 : i < N
  · refine ⟨(i : Int) + 1, ?_⟩
    unfold atF
    rw [if_pos (by omega)]; omega
  · refine ⟨(N : Int) - i - 1, ?_⟩
    unfold atF
    rw [if_neg (by omega), if_pos (by omega)]; omega
/-- Behind some rounds of Pass. -/
def PassMid (b r bo : Nat) (c : C9) (n d : Int) (k : Nat) (w wr : World) : Prop := ∃ (left : Lit → Bool) (lc : Nat), RangeIs Try.prog tInt wr b r (getT c.nodes c.edges c.t) k left lc ∧
  (∃ m, MapIs Try.prog tInt wr bo (doneG c.nodes c.edges (nextT c n d) left) m) ∧ Below w.heap.size w wr ∧
  ∀ e x, 0 ≤ atF c.nodes c.edges e → left (ekey e) = false → (nextT c n d)[(atF c.nodes c.edges e).toNat]? = some x → x ≤ top
theorem passed {w wr : World} {g b bo : Nat} {c : C9} {S : Nat → Prop} {n d : Int} (h : CAt w g c b S) (hn : okN n) (ho : ¬ top < c.real + n) (hb : Below w.heap.size w wr) (hbo : w.heap.size ≤ bo)
    (hm : ∃ m, MapIs Try.prog tInt wr bo (getT c.nodes c.edges (nextT c n d)) m) (hx : ∀ e x, 0 ≤ atF c.nodes c.edges e → (nextT c n d)[(atF c.nodes c.edges e).toNat]? = some x → x ≤ top) :
    passE c n d = 0 ∧ CStep (.int .i64 0) g (passC c n d) S w (.returned (.int .i64 0)) ((wr.setCell ⟨g, 1, none⟩ (.int .i64 (c.real + n))).setCell ⟨g, 0, none⟩ (.map (some bo))) := by
  have hov : ¬ overP c n d := by
    rintro (h1 | ⟨x, h1, h2⟩)
    · exact ho h1
    · obtain ⟨i, hi⟩ := List.getElem?_of_mem h1
      have hil := (List.getElem?_eq_some_iff.1 hi).1
      rw [nextT_length, h.ok.len] at hil
      obtain ⟨e, he, hei⟩ := end_at hil
      have := hx e x he (by rw [hei]; exact hi)
      omega
  have e1 : passC c n d = { c with t := nextT c n d, real := c.real + n } := by
    unfold passC
    rw [if_neg (fun h => h hn), if_neg hov]
  have hk := h.ok.pass n d
  rw [e1] at hk ⊢
  obtain ⟨m, hm⟩ := hm
  have hml := hm.lt
  have hgl := row_lt h.row
  have hg := (hb.block g hgl).trans h.row
  have hz := hb.size
  have hne : bo ≠ g := by omega
  refine ⟨by unfold passE; rw [if_neg (fun h => h hn), if_neg hov], rfl, fun x => S x ∨ x = bo, ⟨bo, ⟨?_, ⟨m, hm.keep ?_⟩, .inl h.sg, .inr rfl, fun x hx => ?_, hk⟩⟩, fun x hx => hx.imp id (fun e => by omega), ?_⟩
  · have := heap_setCell_same _ g 0 _ _ (.map (some bo)) (heap_setCell_same wr g 1 _ _ (.int .i64 (c.real + n)) hg)
    rw [this]; rfl
  · exact (heap_setCell_other _ ⟨g, 0, none⟩ bo _ hne).trans (heap_setCell_other wr ⟨g, 1, none⟩ bo _ hne)
  · simp only [World.setCell, Array.size_modify]
    rcases hx with hx | rfl
    · have := h.lt x hx; omega
    · exact hml
  · exact ((Kept.of_below hb).setCell (fun _ => h.sg) _).setCell (fun _ => h.sg) _
theorem stopped {w w' : World} {g b : Nat} {c : C9} {S : Nat → Prop} {n d x : Int} {i : Nat} (h : CAt w g c b S) (hn : okN n) (hx : (nextT c n d)[i]? = some x) (ho : top < x) (hb : Below w.heap.size w w') :
    CStep (.int .i64 (passE c n d)) g (passC c n d) S w (.returned (.int .i64 3)) w' := by
  have hov : overP c n d := .inr ⟨x, List.mem_of_getElem? hx, ho⟩
  have e1 : passC c n d = c := by
    unfold passC
    rw [if_neg (fun h => h hn), if_pos hov]
  have e2 : passE c n d = 3 := by
    unfold passE
    rw [if_neg (fun h => h hn), if_pos hov]
  rw [e1, e2]
  exact ⟨rfl, S, ClkIs.below ⟨b, h⟩ hb, fun _ hb => .inl hb, Kept.of_below hb⟩
theorem mid_step {w w3 w5 : World} {b r bo k m5 lc3 : Nat} {c : C9} {n d e x : Int} {left : Lit → Bool} (he : 0 ≤ atF c.nodes c.edges e) (hx : (nextT c n d)[(atF c.nodes c.edges e).toNat]? = some x) (ho : ¬ top < x)
    (hrg : RangeIs Try.prog tInt w3 b r (getT c.nodes c.edges c.t) k (fun z => left z && !z.sameKey (ekey e)) lc3)
    (hm : MapIs Try.prog tInt w5 bo (upd (doneG c.nodes c.edges (nextT c n d) left) (ekey e) (some (iv x))) m5) (ht : w3.mapTurned w5 bo) (hb : Below w.heap.size w w3) (h1 : bo = w.heap.size) (h2 : b < w.heap.size) (h3 : r ≠ bo)
    (hf : ∀ e x, 0 ≤ atF c.nodes c.edges e → left (ekey e) = false → (nextT c n d)[(atF c.nodes c.edges e).toNat]? = some x → x ≤ top) :
    PassMid b r bo c n d k w w5 ∧ w5.rangeLeft b r = lc3 := by
  have hk := hrg.kept (turned_other ht (show b ≠ bo by omega)) (turned_other ht h3)
  refine ⟨⟨_, lc3, hk, ⟨_, hm.same (fun l _ => done_step he hx l)⟩, below_turned hb ht (by omega), fun e' x' he' hl hx' => ?_⟩, hk.left_eq⟩
  by_cases hee : e' = e
  · subst hee
    rw [hx] at hx'
    injection hx' with hx'
    omega
  · rw [ekey_same, decide_eq_false hee] at hl
    exact hf e' x' he' (by simpa using hl) hx'
theorem run_makeMapN (w : World) (x : Int) : (Instr.makeMap tMap (some (.int .i64 x))).run Try.prog w = .ok (.map (some w.heap.size)) (w.alloc (.map #[] 0)) := by
  simp [Instr.makeMap, run_underlying Try.underlying50, asInt, asIntOf, Result.andThen]
set_option maxRecDepth 100000 in
set_option maxHeartbeats 2000000 in
theorem pass_run {w : World} {g : Nat} {c : C9} {S : Nat → Prop} (h : ClkIs w g c S) (n d : Int) (hn : okN n) (ho : ¬ top < c.real + n) (d0 : 0 ≤ d) (d1 : d ≤ 18446744073709551615) :
    Calls Try.prog 15 #[.pointer (some ⟨g, 0, none⟩), .int .i64 n, .int .u64 d] w (CStep (.int .i64 (passE c n d)) g (passC c n d) S w) := by
  obtain ⟨b, h⟩ := h
  have HC := Lib.hid h
  obtain ⟨c0, c1, c2, c3⟩ := h.cells
  have q1 := ptrTest
  have HB := Lib.hid (bounds_good n c.rho (h.ok.tame hn))
  have HL := Lib.hid (later_fits c.real n h.ok.real.1 h.ok.real.2 hn.1 (show c.real + n ≤ top by omega))
  obtain ⟨k, hm⟩ := h.map
  have hlen := fun ty => hm.len (t := tMap) Try.underlying50 ty
  have HM := Lib.hid hm
  have HP := Lib.hid (And.intro hn ho)
  have HD := Lib.hid (And.intro d0 d1)
  clear hn ho h hm c3 d0 d1
  have hmm := run_makeMapN
  go_enter Try.func15, Try.ntmps15
  go_upto_region 10 with (first
    | (go_at_call 24; refine (HB.out _).mono ?_; rintro e w1 ⟨rfl, rfl⟩)
    | (go_at_call 25; refine (HL.out _).mono ?_; rintro e w1 ⟨rfl, rfl⟩))
  obtain ⟨wm, hwm⟩ : ∃ wm, wm = w.alloc (.map #[] 0) := ⟨_, rfl⟩
  obtain ⟨bo, hbo⟩ : ∃ bo, bo = w.heap.size := ⟨_, rfl⟩
  rw [← hwm, ← hbo]
  have hbl := HM.out.lt
  have hgl := row_lt HC.out.row
  have hb1 : Below w.heap.size w wm := by rw [hwm]; exact (Below.refl _ _).alloc (Nat.le_refl _) _
  have c0 : wm.cell? ⟨g, 0, none⟩ = some (.map (some b)) := (hb1.cell hgl).trans c0
  have hmo : MapIs Try.prog tInt wm bo (fun _ => none) 0 := by rw [hwm, hbo]; exact MapIs.made w Try.prog tInt
  have hz : wm.heap.size = bo + 1 := by rw [hwm, hbo]; simp
  have HM1 := Lib.hid (HM.out.keep (hb1.block b hbl))
  have HB1 := Lib.hid hb1
  have HMO := Lib.hid hmo
  have HBO := Lib.hid (And.intro hbo (And.intro hz (And.intro hbl hgl)))
  clear hb1 hmo hbo hz hwm hbl hgl HM hlen hmm c1 c2 q1
  go_wp2_with (first
    | (at_range; refine wpList_range rfl _ tMap rfl tInt tI64 keyI Try.underlying50 b k _ rfl HM1.out ?_; intro w2 left lc hrg hl hg2 hs2)
    | go_in)
  go_frame
  obtain ⟨r, hr⟩ : ∃ r, r = wm.heap.size := ⟨_, rfl⟩
  rw [← hr] at hrg hs2 ⊢
  have hst : PassMid b r bo c n d k w w2 := by
    obtain ⟨e1, e2, e3, e4⟩ := HBO.out
    refine ⟨left, lc, hrg, ⟨0, (HMO.out.keep (hg2.block bo (by omega) (by simp))).same (fun l hk => done_start (nextT_length c n d) hl l hk)⟩, HB1.out.grown hg2 HB1.out.size (by simp), fun e x he hle hx => ?_⟩
    have h1 := hl (ekey e) trivial
    rw [hle, getT_at HC.out.ok he] at h1
    cases h1
  have HST := Lib.hid hst
  have HR := Lib.hid (And.intro hr (And.intro hs2 hrg.lt))
  clear hst hrg hl hg2 hs2 hr HM1 HMO HB HL c0
  go_loopw [12] (fun _ wr => PassMid b r bo c n d k w wr) (fun _ wr => wr.rangeLeft b r)
  case atStart => exact HST.out
  case round =>
    clear HST
    obtain ⟨left, lc, hrg, ⟨m, hm⟩, hbw, hfit⟩ := hrel
    have HRG := Lib.hid hrg
    have HMO := Lib.hid hm
    have HBW := Lib.hid hbw
    have HF := Lib.hid hfit
    have HL0 := Lib.hid hrg.left_eq
    have HINV : ∀ key kl v, keyOf Try.prog tInt key = some kl → getT c.nodes c.edges c.t kl = some v → ∃ (x c : Int), key = iv x ∧ v = iv c := by
      intro key kl v hk hg
      obtain ⟨e, x, rfl, _, _, rfl⟩ := getT_key hg
      obtain ⟨x2, rfl, _, _⟩ := Maps.keyOf_int_inv Try.underlying3 hk
      exact ⟨_, _, rfl, rfl⟩
    have HINV := Lib.hid HINV
    clear hrg hm hbw hfit
    go_wp2_with (first
      | (at_next; refine wpList_next rfl _ rfl tInt keyI iv iv b r k _ _ _ rfl HRG.out HINV.out ?_ ?_)
      | go_in)
    · intro hl0
      have hg := (HBW.out.block g (HBO.out.2.2.2)).trans HC.out.row
      have hc0 : wr.cell? ⟨g, 0, none⟩ = some (.map (some b)) := by rw [cell_of_row wr g 0 _ _ _ hg]; rfl
      have hc1 : wr.cell? ⟨g, 1, none⟩ = some (.int .i64 c.real) := by rw [cell_of_row wr g 1 _ _ _ hg]; rfl
      have hf0 : wr.frozen? ⟨g, 0, none⟩ = false := frozen_of_row wr g 0 _ _ hg
      have hf1 : wr.frozen? ⟨g, 1, none⟩ = false := frozen_of_row wr g 1 _ _ hg
      have hp := passed HC.out HP.out.1 (Int.not_lt.2 HP.out.2) HBW.out (by rw [HBO.out.1]; exact Nat.le_refl _) ⟨m, HMO.out.same (fun l _ => (done_end hl0 l).symm)⟩ (fun e x he hx => HF.out e x he (hl0 _) hx)
      have HPP := Lib.hid hp
      clear hl0 hg hp
      go_wp2
      go_ret
      rw [HPP.out.1]
      exact HPP.out.2
    · intro e x kl w3 lc3 hkey hlk hget hrg3 hlt hgr hsz hen
      obtain ⟨e', x', rfl, he, hxt, hxv⟩ := getT_key hget
      have hee : e = e' := by
        obtain ⟨y, e1, e2, _⟩ := Maps.keyOf_int_inv Try.underlying3 hkey
        injection e1 with _ e1
        injection e2 with _ e2
        omega
      subst hee
      have hxx : x = x' := by injection hxv
      subst hxx
      have hok := HC.out.ok
      have hends := at_end hok.n2 hok.m he
      have hpl := place_bit hok.n2 hok.m he
      obtain ⟨dd, hdd⟩ : ∃ dd, dd = dr d (bitAt c.nodes (atF c.nodes c.edges e).toNat) := ⟨_, rfl⟩
      have hd1 := dr_in d (bitAt c.nodes (atF c.nodes c.edges e).toNat)
      rw [← hdd] at hd1
      have ht := hok.tame HP.out.1
      have s1 := step_prod ht hd1.1 hd1.2
      have s2 := step_in ht hd1.1 hd1.2
      have s3 := least_in ht
      have s4 := most_in ht
      have hnext := nextT_at c n d hxt
      rw [← hdd] at hnext
      have hx0 := hok.ts x (List.mem_of_getElem? hxt)
      have HDR := Lib.hid (show ∀ w, Calls Try.prog 26 #[.int .u64 d, .int .i64 e] w (Ret (.int .i64 dd) w) from fun w => by
        have := drawn_any d e HD.out.1 HD.out.2 hends w
        rwa [hpl, ← hdd] at this)
      have hm3 : MapIs Try.prog tInt w3 bo (doneG c.nodes c.edges (nextT c n d) left) m := HMO.out.keep (hgr.block bo HMO.out.lt (by have h1 := HBO.out.2.1; have h2 := HR.out.1; intro e; injection e with e; omega))
      have HM3 := Lib.hid hm3
      have HFW := Lib.hid (few hm3 (fun l v _ => done_few hok.n2 hok.m l v))
      have HB3 := Lib.hid (HBW.out.grown hgr HBW.out.size (fun q hq => by have h1 := HBO.out.1; have h2 := HR.out.1; have h3 := HBO.out.2.1; injection hq with hq; omega))
      have HRG3 := Lib.hid hrg3
      have HLT := Lib.hid hlt
      have HKEY := Lib.hid hkey
      have HE := Lib.hid (And.intro he (And.intro hnext hlk))
      clear hm3 hgr hrg3 hlt hkey hget hlk he hxt hxv hends hpl hdd hnext hok HINV hsz
      have hen : (Instr.entry (.pointer (some ⟨r, 0, none⟩))).run Try.prog w3 = .ok (.tuple #[.int .i64 e, .int .i64 x]) w3 := hen
      by_cases hov : top < x + stepF n c.rho dd
      · have HLA := Lib.hid (later_over x (leastF n c.rho + (mostF n c.rho - leastF n c.rho) * dd / 15) hx0.1 hx0.2 hov)
        have HOV := Lib.hid hov
        clear hov
        go_wp2_with (first
          | (go_at_call 26; refine (HDR.out _).mono ?_; rintro e9 w9 ⟨rfl, rfl⟩)
          | (go_at_call 25; refine (HLA.out _).mono ?_; rintro e9 w9 ⟨rfl, rfl⟩)
          | (at_mapUpdate; refine wpList_put rfl _ _ _ tMap rfl tInt tI64 keyI Try.underlying50 bo m _ rfl HM3.out (by have := HFW.out; unfold maxLen; omega) _ _ _ rfl rfl HKEY.out ?_; intro w5 hm5 ht5)
          | go_in)
        go_ret
        exact stopped HC.out HP.out.1 HE.out.2.1 HOV.out (below_turned HB3.out ht5 (by rw [HBO.out.1]; exact Nat.le_refl _))
      · have HLA := Lib.hid (later_fits x (leastF n c.rho + (mostF n c.rho - leastF n c.rho) * dd / 15) hx0.1 hx0.2 s2.2.2.1 (Int.not_lt.1 hov))
        have HOV := Lib.hid hov
        clear hov
        go_wp2_with (first
          | (go_at_call 26; refine (HDR.out _).mono ?_; rintro e9 w9 ⟨rfl, rfl⟩)
          | (go_at_call 25; refine (HLA.out _).mono ?_; rintro e9 w9 ⟨rfl, rfl⟩)
          | (at_mapUpdate; refine wpList_put rfl _ _ _ tMap rfl tInt tI64 keyI Try.underlying50 bo m _ rfl HM3.out (by have := HFW.out; unfold maxLen; omega) _ _ _ rfl rfl HKEY.out ?_; intro w5 hm5 ht5)
          | go_in)
        have hfin := mid_step HE.out.1 HE.out.2.1 (Int.not_lt.2 HOV.out) HRG3.out hm5 ht5 HB3.out HBO.out.1 HBO.out.2.2.1 (by have h2 := HR.out.1; have h3 := HBO.out.2.1; omega) HF.out
        have HFIN := Lib.hid hfin
        clear hfin hm5
        go_roundw
        case rel => exact HFIN.out.1
        case measure => rw [HFIN.out.2, HL0.out]; exact HLT.out
/-- Pass. -/
theorem pass_any {w : World} {g : Nat} {c : C9} {S : Nat → Prop} (h : ClkIs w g c S) (n d : Int) (d0 : 0 ≤ d) (d1 : d ≤ 18446744073709551615) :
    Calls Try.prog 15 #[.pointer (some ⟨g, 0, none⟩), .int .i64 n, .int .u64 d] w (CStep (.int .i64 (passE c n d)) g (passC c n d) S w) := by
  by_cases hn : okN n
  · by_cases ho : top < c.real + n
    · have e1 : passC c n d = c := by
        unfold passC
        rw [if_neg (fun h => h hn), if_pos (.inl ho)]
      have e2 : passE c n d = 3 := by
        unfold passE
        rw [if_neg (fun h => h hn), if_pos (.inl ho)]
      rw [e1, e2]
      exact pass_late h n d hn ho
    · exact pass_run h n d hn ho d0 d1
  · have e1 : passC c n d = c := by
      unfold passC
      rw [if_pos hn]
    have e2 : passE c n d = 1 := by
      unfold passE
      rw [if_pos hn]
    rw [e1, e2]
    exact pass_bad h n d hn
/-- Tick. -/
theorem tick_any {w : World} {g : Nat} {c : C9} {S : Nat → Prop} (h : ClkIs w g c S) (e n : Int) (e0 : -9223372036854775808 ≤ e) (e1 : e ≤ 9223372036854775807) :
    Calls Try.prog 19 #[.pointer (some ⟨g, 0, none⟩), .int .i64 e, .int .i64 n] w (CStep (.int .i64 (tickE c e n)) g (tickC c e n) S w) := by
  by_cases hn : atF c.nodes c.edges e < 0 ∨ ¬ okN n
  · have a1 : tickC c e n = c := by
      unfold tickC
      rw [if_pos hn]
    have a2 : tickE c e n = 1 := by
      unfold tickE
      rw [if_pos hn]
    rw [a1, a2]
    exact tick_bad h e n e0 e1 hn
  · have hat : 0 ≤ atF c.nodes c.edges e := by
      have : ¬ atF c.nodes c.edges e < 0 := fun e => hn (.inl e)
      omega
    have hk : okN n := Decidable.not_not.1 fun e => hn (.inr e)
    by_cases ho : top < c.time e + n
    · have a1 : tickC c e n = c := by
        unfold tickC
        rw [if_neg hn, if_pos ho]
      have a2 : tickE c e n = 3 := by
        unfold tickE
        rw [if_neg hn, if_pos ho]
      rw [a1, a2]
      exact tick_over h e n e0 e1 hat hk ho
    · have a2 : tickE c e n = 0 := by
        unfold tickE
        rw [if_neg hn, if_neg ho]
      rw [a2]
      exact tick_good h e n e0 e1 hat hk ho
end Go.Proofs.Ythpcmcnkiiebkaa.Ck
