/- Package rlog's checkList, as a contract of a call. | slices.IndexFunc at entries, over any function value that answers a plain question; the one that Append asks. -/
import Derived.Test.YtdbaajgkcjpnoaaGreatQb
import Derived.Test.YtdbaajgkcjpnoaaGreatKnE
/-! Package rlog's checkList, as a contract of a call. -/
namespace Go.Proofs.YtdbaajgkcjpnoaaGreat.Rg
open Go.RowKit By CoP Co Mo Kd

theorem put_small {x : En} (h : EnOk x) : (entryK.put (eD x)).length + 9 ≤ 140737488355328 := by
  show (entryK.put (entryD x.ix x.tm x.kd x.dl x.da)).length + 9 ≤ _
  rw [entry_put]
  unfold putEntry
  have h1 := putNum_len x.ix (by have := h.ix.2; omega)
  have h2 := putNum_len x.tm (by have := h.tm.2; omega)
  have h3 := putNum_len (u64N x.kd) (u64N_lt _)
  have h4 := putNum_len (u64N x.dl) (u64N_lt _)
  have h5 := putBytes_length x.da (by have := h.da; omega)
  have h6 := h.da
  simp only [List.length_append]
  omega
/-- Is it sound? By an error's number. -/
def SoundPost (x : En) (w : World) (e : Ending) (w' : World) : Prop := ∃ v, e = .returned (.tuple #[v, .int .i64 (if eB x = true then 0 else 2)]) ∧ Below w.heap.size w w'
theorem msg_entry (w : World) (x : En) (Ad : Option Addr) (cd : Nat) (h : EnV w (Old w) x Ad cd) : Calls Tryz.prog 47 #[.agg #[.int .u64 (x.ix : Int), .int .u64 (x.tm : Int), .int .i64 x.kd, .int .i64 x.dl, .slice Ad x.da.length cd]] w (SoundPost x w) := by
  have hs : entryK.sound (eD x) = eB x := entry_sound _ _ _ _ _
  refine (msgEntry_any w (xs := entV x Ad cd) rfl h.rep (fun hh => put_small (eB_ok (by rw [← hs]; exact hh)))).mono ?_
  rintro e w' ⟨hb, ⟨h1, v, rfl, _⟩ | ⟨h1, rfl⟩⟩
  · rw [hs] at h1
    exact ⟨v, by rw [if_pos h1], hb⟩
  · rw [hs] at h1
    exact ⟨_, by rw [if_neg (by rw [h1]; decide)], hb⟩
def okE (i t : Nat) (es : List En) : Int := if okL i t es = true then 0 else 2
theorem okE_t {i t : Nat} {es : List En} (h : okL i t es = true) : okE i t es = 0 := if_pos h
theorem okE_f {i t : Nat} {es : List En} (h : okL i t es = false) : okE i t es = 2 := if_neg (by rw [h]; decide)
theorem okL_cons (i t : Nat) (e : En) (r : List En) : okL i t (e :: r) = ((eB e && decide (e.ix = i + 1)) && (decide (t ≤ e.tm) && okL e.ix e.tm r)) := rfl
set_option maxRecDepth 100000 in
set_option maxHeartbeats 1600000 in
theorem checkList_any (i t : Nat) (hi : i < 18446744073709551616) {A : Option Addr} {n c : Nat} {es : List En} {most : Int} (w : World) (h : (listK entryK most).rep w (Old w) [.slice A n c] (.agg (es.map eD))) :
    Calls Tryz.prog 36 #[.int .u64 (i : Int), .int .u64 (t : Int), .slice A n c] w (RetB (.int .i64 (okE i t es)) w) := by
  obtain ⟨rfl, hnc, hn, hr⟩ := ents_at h
  have HR := Lib.hid hr
  obtain ⟨m, hm⟩ : ∃ m, m = es.length := ⟨_, rfl⟩
  rw [← hm] at hn ⊢
  have HM := Lib.hid hm
  have HI := Lib.hid hi
  clear h hr hm hnc hi
  go_enter Tryz.func36, Tryz.ntmps36
  go_wp2
  go_loopw [0, 1, 13] (fun a b k wr => ∃ (j : Nat) (p q : Nat), j ≤ m ∧ k = .int .i64 (j : Int) ∧ a = .int .u64 (p : Int) ∧ b = .int .u64 (q : Int) ∧ p < 18446744073709551616 ∧ Below w.heap.size w wr ∧ okL i t es = okL p q (es.drop j)) (fun _ _ k _ => m - (intOf k).toNat)
  case atStart => exact ⟨0, i, t, Nat.zero_le _, rfl, rfl, rfl, HI.out, Below.refl _ _, rfl⟩
  case round =>
    obtain ⟨j, p, q, hj, rfl, rfl, rfl, hp, hbr, heq⟩ := hrel
    by_cases hjm : j < m
    · have hjl : j < es.length := by have := HM.out; omega
      obtain ⟨x, hx⟩ : ∃ x, es[j]? = some x := ⟨_, List.getElem?_eq_getElem hjl⟩
      have HDR := Lib.hid (show es.drop j = x :: es.drop (j + 1) by
        rw [List.drop_eq_getElem_cons hjl]
        rw [List.getElem?_eq_getElem hjl] at hx
        rw [Option.some.inj hx])
      obtain ⟨b, o, rfl, hb, hcell⟩ := HR.out (by have := HM.out; omega)
      obtain ⟨Ad, cd, ⟨e0, e1, e2, e3, e4⟩, hv⟩ := hcell j x hx
      have hb : b < w.heap.size := hb
      have x0 := (hbr.cell (p := ⟨b, o + j * 5, none⟩) hb).trans e0
      have x1 := (hbr.cell (p := ⟨b, o + j * 5 + 1, none⟩) hb).trans e1
      have x2 := (hbr.cell (p := ⟨b, o + j * 5 + 2, none⟩) hb).trans e2
      have x3 := (hbr.cell (p := ⟨b, o + j * 5 + 3, none⟩) hb).trans e3
      have x4 := (hbr.cell (p := ⟨b, o + j * 5 + 4, none⟩) hb).trans e4
      have hj1 : (j : Int) < (m : Int) := by omega
      have HV := Lib.hid (hv.below hbr)
      have HBR := Lib.hid hbr
      have HEQ := Lib.hid heq
      have HXV := Lib.hid (show x.ix < 18446744073709551616 from hv.ix)
      obtain ⟨P, hP⟩ : ∃ P : Int, P = (p : Int) := ⟨_, rfl⟩
      rw [← hP]
      clear hbr hcell hx e0 e1 e2 e3 e4 hv heq hb hjl
      go_upto_region 4 with fail
      have hr1 := heap_alloc_new wr (.cells #[.int .u64 (x.ix : Int), .int .u64 (x.tm : Int), .int .i64 x.kd, .int .i64 x.dl, .slice Ad x.da.length cd] tApi)
      have hb1 : Below wr.heap.size wr (wr.alloc (.cells #[.int .u64 (x.ix : Int), .int .u64 (x.tm : Int), .int .i64 x.kd, .int .i64 x.dl, .slice Ad x.da.length cd] tApi)) := (Below.refl _ _).alloc (Nat.le_refl _) _
      change Code.wp _ _ _ _ (wr.alloc (.cells #[.int .u64 (x.ix : Int), .int .u64 (x.tm : Int), .int .i64 x.kd, .int .i64 x.dl, .slice Ad x.da.length cd] tApi))
      generalize wr.alloc (.cells #[.int .u64 (x.ix : Int), .int .u64 (x.tm : Int), .int .i64 x.kd, .int .i64 x.dl, .slice Ad x.da.length cd] tApi) = wa at hr1 hb1 ⊢
      have HROW := Lib.hid (fun w' (hb : Below wa.heap.size wa w') => (hb.block _ (row_lt hr1)).trans hr1)
      have d0 : wa.cell? ⟨wr.heap.size, 0, none⟩ = some (.int .u64 (x.ix : Int)) := by rw [cell_of_row wa _ 0 _ _ _ hr1]; rfl
      have d1 : wa.cell? ⟨wr.heap.size, 1, none⟩ = some (.int .u64 (x.tm : Int)) := by rw [cell_of_row wa _ 1 _ _ _ hr1]; rfl
      have d2 : wa.cell? ⟨wr.heap.size, 2, none⟩ = some (.int .i64 x.kd) := by rw [cell_of_row wa _ 2 _ _ _ hr1]; rfl
      have d3 : wa.cell? ⟨wr.heap.size, 3, none⟩ = some (.int .i64 x.dl) := by rw [cell_of_row wa _ 3 _ _ _ hr1]; rfl
      have d4 : wa.cell? ⟨wr.heap.size, 4, none⟩ = some (.slice Ad x.da.length cd) := by rw [cell_of_row wa _ 4 _ _ _ hr1]; rfl
      have HE := Lib.hid (msg_entry wa x Ad cd (HV.out.below hb1))
      have HB1 := Lib.hid hb1
      clear hb1 hr1 x0 x1 x2 x3 x4
      go_wp2_with fail
      refine HE.out.mono ?_
      rintro e w2 ⟨v2, rfl, hb2⟩
      have hr2 := HROW.out w2 hb2
      have y0 : w2.cell? ⟨wr.heap.size, 0, none⟩ = some (.int .u64 (x.ix : Int)) := by rw [cell_of_row w2 _ 0 _ _ _ hr2]; rfl
      have y1 : w2.cell? ⟨wr.heap.size, 1, none⟩ = some (.int .u64 (x.tm : Int)) := by rw [cell_of_row w2 _ 1 _ _ _ hr2]; rfl
      have HB2 := Lib.hid (By.ext HBR.out (By.ext HB1.out hb2))
      clear hb2 hr2 d0 d1 d2 d3 d4
      have HEQ2 := Lib.hid (show okL i t es = ((eB x && decide (x.ix = p + 1)) && (decide (q ≤ x.tm) && okL x.ix x.tm (es.drop (j + 1)))) by rw [HEQ.out, HDR.out, okL_cons])
      by_cases hB : eB x = true
      · have HX := Lib.hid (eB_ok hB)
        rw [if_pos hB]
        by_cases h1 : x.ix = p + 1
        · have hw : IntKind.u64.wrap (P + 1) = (x.ix : Int) := by rw [wrap_u (by omega) (by have := HX.out.ix.2; omega)]; omega
          by_cases h2 : q ≤ x.tm
          · have h2' : ¬ ((x.tm : Int) < (q : Int)) := by omega
            have HN := Lib.hid (show okL i t es = okL x.ix x.tm (es.drop (j + 1)) by rw [HEQ2.out, hB, decide_eq_true h1, decide_eq_true h2]; rfl)
            clear h1 h2 hB hP
            go_wp2
            go_quiet (fail)
            go_wp2
            go_roundw
            case rel => exact ⟨j + 1, x.ix, x.tm, by omega, by go_num, rfl, rfl, HXV.out, below_drewN HB2.out _, HN.out⟩
            case measure => simp [intOf]; omega
          · have h2' : (x.tm : Int) < (q : Int) := by omega
            have HN := Lib.hid (show okL i t es = false by rw [HEQ2.out, hB, decide_eq_true h1, decide_eq_false h2]; rfl)
            clear h1 h2 hB hP
            go_wp2
            go_ret
            exact ⟨by rw [okE_f HN.out]; rfl, HB2.out⟩
        · have hw : (((x.ix : Nat) : Int) == IntKind.u64.wrap (P + 1)) = false := by
            rw [beq_eq_false_iff_ne]
            have h0 := HX.out.ix
            by_cases h3 : p + 1 < 18446744073709551616
            · rw [wrap_u (by omega) (by omega)]; omega
            · have : P + 1 = 18446744073709551616 := by omega
              rw [this]
              show (x.ix : Int) ≠ 0
              omega
          have hw2 : (((x.ix : Nat) : Int) != IntKind.u64.wrap (P + 1)) = true := by unfold bne; rw [hw]; rfl
          have HN := Lib.hid (show okL i t es = false by rw [HEQ2.out, hB, decide_eq_false h1]; rfl)
          clear h1 hB hP
          go_wp2
          go_ret
          exact ⟨by rw [okE_f HN.out]; rfl, HB2.out⟩
      · have HN := Lib.hid (show okL i t es = false by rw [HEQ2.out, Bool.not_eq_true _ |>.mp hB]; rfl)
        rw [if_neg hB]
        clear hB hP
        go_wp2
        go_ret
        exact ⟨by rw [okE_f HN.out]; rfl, HB2.out⟩
    · have hjm' : j = m := by omega
      subst hjm'
      have HN := Lib.hid (show okL i t es = true by rw [heq, List.drop_of_length_le (by have := HM.out; omega)]; rfl)
      have HBR := Lib.hid hbr
      clear hbr heq
      go_wp2
      go_ret
      exact ⟨by rw [okE_t HN.out]; rfl, HBR.out⟩
end Go.Proofs.YtdbaajgkcjpnoaaGreat.Rg

/-! slices.IndexFunc at entries, over any function value that answers a plain question; the one that Append asks. -/
namespace Go.Proofs.YtdbaajgkcjpnoaaGreat.Rg
open Go.RowKit By CoP Co Mo Kd

/-- A function value of one entry: it answers p, in every world in which what lay in w0 lies as it was; what lies there stays. -/
def AsksE (g : Nat) (lb : Array Value) (p : En → Bool) (w0 : World) : Prop :=
  ∀ (W : World) (x : En) (Ad : Option Addr) (cd : Nat), EnV W (Old W) x Ad cd → Below w0.heap.size w0 W → Calls Tryz.prog g (#[.agg #[.int .u64 (x.ix : Int), .int .u64 (x.tm : Int), .int .i64 x.kd, .int .i64 x.dl, .slice Ad x.da.length cd]] ++ lb) W (RetB (.bool (p x)) W)
/-- Where the first one is; or -1. -/
def IdxPost (p : En → Bool) (l : List En) (w : World) (e : Ending) (w' : World) : Prop :=
  ∃ z : Int, e = .returned (.int .i64 z) ∧ Below w.heap.size w w' ∧ ((z = -1 ∧ ∀ x ∈ l, p x = false) ∨ ∃ (k : Nat) (x : En), z = k ∧ l[k]? = some x ∧ p x = true ∧ ∀ j y, j < k → l[j]? = some y → p y = false)
set_option maxHeartbeats 1000000 in
theorem indexFunc_any {A : Option Addr} {n c : Nat} {es : List En} {most : Int} (g : Nat) (lb : Array Value) (p : En → Bool) (eg : ∀ args w, (callFunc g args).run Tryz.prog w = .ok (.enter g args) w) (w : World)
    (h : (listK entryK most).rep w (Old w) [.slice A n c] (.agg (es.map eD))) (hp : AsksE g lb p w) :
    Calls Tryz.prog 37 #[.slice A n c, .func (.func g) #[] lb] w (IdxPost p es w) := by
  obtain ⟨rfl, hnc, hn, hr⟩ := ents_at h
  have HR := Lib.hid hr
  have HP := Lib.hid hp
  obtain ⟨m, hm⟩ : ∃ m, m = es.length := ⟨_, rfl⟩
  rw [← hm] at hn ⊢
  have HM := Lib.hid hm
  clear h hr hm hnc hp
  go_enter Tryz.func37, Tryz.ntmps37
  go_wp2
  go_loopw [5, 8] (fun _ i wr => ∃ k : Nat, k ≤ m ∧ i = .int .i64 k ∧ Below w.heap.size w wr ∧ ∀ j x, j < k → es[j]? = some x → p x = false) (fun _ i _ => m - (intOf i).toNat)
  case atStart => exact ⟨0, Nat.zero_le _, rfl, Below.refl _ _, fun j x hj => absurd hj (Nat.not_lt_zero _)⟩
  case round =>
    obtain ⟨k, hk, rfl, hbr, hno⟩ := hrel
    have HNO := Lib.hid hno
    have HB := Lib.hid hbr
    clear hno
    by_cases hkn : k < m
    · obtain ⟨x, hx⟩ : ∃ x, es[k]? = some x := ⟨_, List.getElem?_eq_getElem (by have := HM.out; omega)⟩
      obtain ⟨b, o, rfl, hb, hcell⟩ := HR.out (by have := HM.out; omega)
      obtain ⟨Ad, cd, ⟨e0, e1, e2, e3, e4⟩, hv⟩ := hcell k x hx
      have hb : b < w.heap.size := hb
      have x0 := (hbr.cell (p := ⟨b, o + k * 5, none⟩) hb).trans e0
      have x1 := (hbr.cell (p := ⟨b, o + k * 5 + 1, none⟩) hb).trans e1
      have x2 := (hbr.cell (p := ⟨b, o + k * 5 + 2, none⟩) hb).trans e2
      have x3 := (hbr.cell (p := ⟨b, o + k * 5 + 3, none⟩) hb).trans e3
      have x4 := (hbr.cell (p := ⟨b, o + k * 5 + 4, none⟩) hb).trans e4
      have HC := Lib.hid (HP.out wr x Ad cd (hv.below hbr) hbr)
      have HX := Lib.hid hx
      have hk1 : (k : Int) < (m : Int) := by omega
      clear hbr hcell hx e0 e1 e2 e3 e4 hv hb
      cases hq : p x with
      | true =>
        rw [hq] at HC
        have HI := Lib.hid (show IdxPost p es w (.returned (.int .i64 (k : Int))) = IdxPost p es w (.returned (.int .i64 (k : Int))) from rfl)
        have HQ := Lib.hid hq
        clear hq
        go_wp2_with (go_at_fn g; refine HC.out.mono ?_; rintro e w' ⟨rfl, hb'⟩; have HB' := Lib.hid hb'; clear hb')
        go_ret
        exact ⟨_, rfl, ext HB.out HB'.out, .inr ⟨k, x, rfl, HX.out, HQ.out, HNO.out⟩⟩
      | false =>
        rw [hq] at HC
        have HQ := Lib.hid hq
        clear hq
        go_wp2_with (go_at_fn g; refine HC.out.mono ?_; rintro e w' ⟨rfl, hb'⟩; have HB' := Lib.hid hb'; clear hb')
        go_roundw
        case rel =>
          refine ⟨k + 1, by omega, by go_num, ext HB.out HB'.out, fun j y hj hy => ?_⟩
          by_cases e : j = k
          · subst e
            rw [HX.out] at hy
            rw [← Option.some.inj hy]
            exact HQ.out
          · exact HNO.out j y (by omega) hy
        case measure => simp [intOf]; omega
    · obtain rfl : k = m := by omega
      clear hbr
      go_wp2
      go_ret
      refine ⟨_, rfl, HB.out, .inl ⟨rfl, fun x hx => ?_⟩⟩
      obtain ⟨j, hj⟩ := List.mem_iff_getElem?.1 hx
      exact HNO.out j x (by have := HM.out; have := (List.getElem?_eq_some_iff.1 hj).1; omega) hj
theorem append1_enters : ∀ args w, (callFunc 38 args).run Tryz.prog w = .ok (.enter 38 args) w := enters_of Tryz.func38 (by kernel_rfl) rfl
theorem append1_asks (w : World) (g bl : Nat) (s : Lg) (v : Value) (S : Nat → Prop) (h : LogIs w g s v S) (hl : bl < w.heap.size) (hc : w.cell? ⟨bl, 0, none⟩ = some (ptr g)) :
    AsksE 38 #[.pointer (some ⟨bl, 0, none⟩)] (fun x => !fits s x.ix x.tm) w := fun W x Ad cd hv hb => by
  have HF := Lib.hid (fun w' (hb : Below w.heap.size w w') => fits_any w' (h.below hb) x.ix x.tm)
  have HC := Lib.hid (fun w' (hb : Below w.heap.size w w') => (hb.cell (p := ⟨bl, 0, none⟩) hl).trans hc)
  show Calls _ _ #[.agg #[.int .u64 (x.ix : Int), .int .u64 (x.tm : Int), .int .i64 x.kd, .int .i64 x.dl, .slice Ad x.da.length cd], .pointer (some ⟨bl, 0, none⟩)] _ (RetB (.bool (!fits s x.ix x.tm)) W)
  generalize fits s x.ix x.tm = bb at *
  have HB := Lib.hid hb
  clear h hc hv hb
  go_enter Tryz.func38, Tryz.ntmps38
  go_upto_region 1 with fail
  have hr1 := heap_alloc_new W (.cells #[.int .u64 (x.ix : Int), .int .u64 (x.tm : Int), .int .i64 x.kd, .int .i64 x.dl, .slice Ad x.da.length cd] tApi)
  have hb1 : Below W.heap.size W (W.alloc (.cells #[.int .u64 (x.ix : Int), .int .u64 (x.tm : Int), .int .i64 x.kd, .int .i64 x.dl, .slice Ad x.da.length cd] tApi)) := (Below.refl _ _).alloc (Nat.le_refl _) _
  change Code.wp _ _ _ _ (W.alloc (.cells #[.int .u64 (x.ix : Int), .int .u64 (x.tm : Int), .int .i64 x.kd, .int .i64 x.dl, .slice Ad x.da.length cd] tApi))
  generalize W.alloc (.cells #[.int .u64 (x.ix : Int), .int .u64 (x.tm : Int), .int .i64 x.kd, .int .i64 x.dl, .slice Ad x.da.length cd] tApi) = wa at hr1 hb1 ⊢
  have d0 : wa.cell? ⟨W.heap.size, 0, none⟩ = some (.int .u64 (x.ix : Int)) := by rw [cell_of_row wa _ 0 _ _ _ hr1]; rfl
  have d1 : wa.cell? ⟨W.heap.size, 1, none⟩ = some (.int .u64 (x.tm : Int)) := by rw [cell_of_row wa _ 1 _ _ _ hr1]; rfl
  have d2 := HC.out wa (By.ext HB.out hb1)
  have HCA := Lib.hid (HF.out wa (By.ext HB.out hb1))
  have HB1 := Lib.hid hb1
  clear hr1 hb1
  cases bb with
  | true =>
    simp only [Bool.not_true]
    go_wp2_with (go_at_call 21; refine HCA.out.mono ?_; rintro e w2 ⟨rfl, hb2⟩; have HB2 := Lib.hid (By.ext HB1.out hb2); clear hb2)
    go_ret
    exact ⟨rfl, HB2.out⟩
  | false =>
    simp only [Bool.not_false]
    go_wp2_with (go_at_call 21; refine HCA.out.mono ?_; rintro e w2 ⟨rfl, hb2⟩; have HB2 := Lib.hid (By.ext HB1.out hb2); clear hb2)
    go_ret
    exact ⟨rfl, HB2.out⟩
end Go.Proofs.YtdbaajgkcjpnoaaGreat.Rg
