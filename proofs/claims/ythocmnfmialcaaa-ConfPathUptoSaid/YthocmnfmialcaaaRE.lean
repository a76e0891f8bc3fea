/- The package's most at unsigned numbers, and Reached, as contracts of calls. | The package's Reached, as a contract of a call. | The reference's Reached, as a contract of a call. | Plain facts of majorities and places: what more than half reach is a majority's, and what is above is none's. | Plain facts: majorities of a configuration and of the next one meet. -/
import Derived.Test.YthocmnfmialcaaaRD
import Derived.Test.YthocmnfmialcaaaSu
/-! The package's most at unsigned numbers, and Reached, as contracts of calls. -/
namespace Go.Proofs.Ythocmnfmialcaaa.Cn
open Go.RowKit Go.ChangeAt By CoP Co Mo Kd Go.Shelf Su

/-- A function value of one unsigned number: it answers p. -/
def AsksU (g : Nat) (lb : Array Value) (p : Nat → Bool) (w0 : World) : Prop :=
  ∀ (W : World) (x : Nat), x < 18446744073709551616 → Below w0.heap.size w0 W → Calls Try.prog g (#[.int .u64 x] ++ lb) W (Says (p x) W)
theorem countU_step {p : Nat → Bool} {l : List Nat} {k : Nat} {y : Nat} (hy : l[k]? = some y) : (l.take (k + 1)).countP p = (l.take k).countP p + (if p y then 1 else 0) := by
  obtain ⟨hk, e⟩ := List.getElem?_eq_some_iff.1 hy
  rw [List.take_succ_eq_append_getElem hk, List.countP_append, e, List.countP_singleton]
def mostU (p : Nat → Bool) (l : List Nat) : Bool := decide (l.length / 2 < l.countP p)
set_option maxHeartbeats 1000000 in
theorem mostU_any (A : Option Addr) (n c B : Nat) (l : List Nat) (hn : n = l.length) (hm : n ≤ 140737488355328) (g : Nat) (lb : Array Value) (p : Nat → Bool) (eg : ∀ args w, (callFunc g args).run Try.prog w = .ok (.enter g args) w) (w : World)
    (hB : B ≤ w.heap.size) (hr : LiesU w B A l) (hp : AsksU g lb p w) :
    Calls Try.prog 37 #[.slice A n c, .func (.func g) #[] lb] w (Says (mostU p l) w) := by
  have HN := Lib.hid hn
  have HR := Lib.hid hr
  have HP := Lib.hid hp
  clear hn hr hp
  go_enter Try.func37, Try.ntmps37
  go_wp2
  go_loopw [5, 7, 10] (fun s _ i wr => ∃ k m : Nat, k ≤ n ∧ m ≤ k ∧ s = .int .i64 m ∧ i = .int .i64 k ∧ Below w.heap.size w wr ∧ (l.take k).countP p = m) (fun _ _ i _ => n - (intOf i).toNat)
  case atStart => exact ⟨0, 0, Nat.zero_le _, Nat.le_refl _, rfl, rfl, Below.refl _ _, rfl⟩
  case round =>
    obtain ⟨k, m, hk, hmk, rfl, rfl, hb, hcnt⟩ := hrel
    have HCN := Lib.hid hcnt
    have HB := Lib.hid hb
    clear hcnt
    by_cases hkn : k < n
    · have hkl : k < l.length := by have := HN.out; omega
      obtain ⟨gg, o, rfl, hg, hc, hy⟩ := (HR.out.below (hb.mono hB)).at_ hkl
      have HY := Lib.hid (List.getElem?_eq_getElem hkl)
      generalize l[k] = y at hc hy HY
      have HC := Lib.hid (HP.out _ y hy hb)
      have HS := Lib.hid (countU_step (p := p) HY.out)
      clear hkl hb hy
      cases hq : p y with
      | true =>
        rw [hq, HCN.out] at HS
        rw [hq] at HC
        have HS2 := Lib.hid HS.out
        clear hq HS
        go_wp2_with (go_at_fn g; refine HC.out.mono ?_; rintro e w' ⟨rfl, hb'⟩; have HB' := Lib.hid hb'; clear hb')
        go_roundw
        case rel => exact ⟨k + 1, m + 1, by omega, by omega, by go_num, by go_num, ext HB.out HB'.out, HS2.out⟩
        case measure => simp [intOf]; omega
      | false =>
        rw [hq, HCN.out] at HS
        rw [hq] at HC
        have HS2 := Lib.hid HS.out
        clear hq HS
        go_wp2_with (go_at_fn g; refine HC.out.mono ?_; rintro e w' ⟨rfl, hb'⟩; have HB' := Lib.hid hb'; clear hb')
        go_roundw
        case rel => exact ⟨k + 1, m, by omega, by omega, rfl, by go_num, ext HB.out HB'.out, HS2.out⟩
        case measure => simp [intOf]; omega
    · obtain rfl : k = n := by omega
      have hI : mostU p l = decide ((k : Int) / 2 < (m : Int)) := by
        have h1 := HCN.out
        have h2 := HN.out
        rw [List.take_of_length_le (by omega)] at h1
        unfold mostU
        rw [h1, ← h2]
        exact decide_eq_decide.2 ⟨fun h => by omega, fun h => by omega⟩
      have HI := Lib.hid hI
      clear hb hI
      go_wp2
      go_ret
      rw [HI.out]
      exact ⟨rfl, HB.out⟩
theorem reached1_asks (w : World) (g : Nat) (y : Nat) (hg : g < w.heap.size) (hc : w.cell? ⟨g, 0, none⟩ = some (.int .u64 (y : Int))) : AsksU 38 #[.pointer (some ⟨g, 0, none⟩)] (fun x => decide (y ≤ x)) w := fun W x hx hb => by
  have hc' := (hb.cell (p := ⟨g, 0, none⟩) hg).trans hc
  have hd : decide ((y : Int) ≤ (x : Int)) = decide (y ≤ x) := decide_eq_decide.2 Int.ofNat_le
  have HD := Lib.hid hd
  clear hc hg hx hd
  go_enter Try.func38, Try.ntmps38
  go_wp2
  go_ret
  exact ⟨by first | rfl | (rw [← HD.out]; rfl), Below.refl _ _⟩
theorem reached1_enters : ∀ args w, (callFunc 38 args).run Try.prog w = .ok (.enter 38 args) w := enters_of Try.func38 (by kernel_rfl) rfl
/-- One place more. -/
def stepU (l : List Nat) (G y : Nat) : Nat := if G < y ∧ mostU (fun x => decide (y ≤ x)) l = true then y else G
def reachU (l : List Nat) : Nat := l.foldl (stepU l) 0
theorem fold_step {l : List Nat} {f : Nat → Nat → Nat} {k y : Nat} (hy : l[k]? = some y) (z : Nat) : (l.take (k + 1)).foldl f z = f ((l.take k).foldl f z) y := by
  obtain ⟨hk, e⟩ := List.getElem?_eq_some_iff.1 hy
  rw [List.take_succ_eq_append_getElem hk, List.foldl_append, e]
  rfl
end Go.Proofs.Ythocmnfmialcaaa.Cn

/-! The package's Reached, as a contract of a call. -/
namespace Go.Proofs.Ythocmnfmialcaaa.Cn
open Go.RowKit Go.ChangeAt By CoP Co Mo Kd Go.Shelf Su
variable {w W w' : World} {A A2 : Option Addr} {n c m c2 : Nat} {vs ls : List Int}
/-- What Reached answers. -/
def reN (vs ls : List Int) (ps : List Nat) : Nat := if confB vs ls = true then (if ps.length = vs.length then reachU ps else 0) else 0
def reE (vs ls : List Int) (ps : List Nat) : Int := if confB vs ls = true then (if ps.length = vs.length then 0 else 1) else 2
theorem stepU_lt {l : List Nat} {G y : Nat} (hG : G < 18446744073709551616) (hy : y < 18446744073709551616) : stepU l G y < 18446744073709551616 := by
  unfold stepU
  split <;> assumption
set_option maxHeartbeats 2000000 in
theorem reached_any (h : CfAt w (Old w) A n c A2 m c2 vs ls) (A9 : Option Addr) (q c9 : Nat) (ps : List Nat) (hq : q = ps.length) (hq47 : q ≤ 140737488355328) (hr : LiesU w w.heap.size A9 ps) :
    Calls Try.prog 23 #[cfV A n c A2 m c2, .slice A9 q c9] w (Tells (.tuple #[.int .u64 (reN vs ls ps : Nat), .int .i64 (reE vs ls ps)]) w) := by
  obtain ⟨w1, hw1⟩ : ∃ w1, w1 = w.alloc (.cells #[.slice A n c, .slice A2 m c2] 24) := ⟨_, rfl⟩
  have hb1 : Below w.heap.size w w1 := by rw [hw1]; exact (Below.refl _ _).alloc (Nat.le_refl _) _
  have hrow : w1.heap[w.heap.size]? = some (.cells #[.slice A n c, .slice A2 m c2] 24 (0, 0)) := by rw [hw1]; exact heap_alloc_new w _
  obtain ⟨k0, k1⟩ := box_cells hrow
  have hcl : ∀ w', Below w1.heap.size w1 w' → w'.cell? ⟨w.heap.size, 0, none⟩ = some (.slice A n c) ∧ w'.cell? ⟨w.heap.size, 1, none⟩ = some (.slice A2 m c2) := fun w' hb => box_cells ((hb.block _ (row_lt hrow)).trans hrow)
  have hcc := checkc_any h w1 hb1
  have hE : reE vs ls ps = if confB vs ls = true then (if ps.length = vs.length then 0 else 1) else 2 := rfl
  have hN : reN vs ls ps = if confB vs ls = true then (if ps.length = vs.length then reachU ps else 0) else 0 := rfl
  generalize reE vs ls ps = er at hE ⊢
  generalize reN vs ls ps = G9 at hN ⊢
  have hnn := h.hn
  have hnv := h.nv
  have HB1 := Lib.hid hb1
  have HCL := Lib.hid hcl
  have HR := Lib.hid hr
  have HQ := Lib.hid hq
  have HNN := Lib.hid hnn
  by_cases hs : confB vs ls = true
  case neg =>
    rw [if_neg hs] at hE hN
    have hcc2 : Calls Try.prog 9 #[cfV A n c A2 m c2] w1 (Tells (.int .i64 2) w1) := by rw [if_neg hs] at hcc; exact hcc
    subst hE hN
    have HC := Lib.hid hcc2
    clear hcc hcc2 hs h hb1 hrow hcl hr hq hnn hnv
    go_enter Try.func23, Try.ntmps23
    go_wp2_with fail
    rw [← hw1]
    clear hw1
    refine HC.out.mono ?_
    rintro e w2 ⟨rfl, hb2⟩
    have HB2 := Lib.hid hb2
    clear hb2
    go_wp2
    go_ret2
    exact ⟨rfl, By.ext HB1.out HB2.out⟩
  rw [if_pos hs] at hE hN
  have hcc2 : Calls Try.prog 9 #[cfV A n c A2 m c2] w1 (Tells (.int .i64 0) w1) := by rw [if_pos hs] at hcc; exact hcc
  have HC := Lib.hid hcc2
  by_cases hl : ps.length = vs.length
  case neg =>
    rw [if_neg hl] at hE hN
    subst hE hN
    have e1 : ((q : Int) == (n : Int)) = false := by rw [beq_eq_false_iff_ne]; omega
    have e2 : (q == n) = false := by rw [beq_eq_false_iff_ne]; omega
    clear hcc hcc2 hs h hb1 hrow hcl hr hq hnn hnv hl
    go_enter Try.func23, Try.ntmps23
    go_wp2_with fail
    rw [← hw1]
    clear hw1
    refine HC.out.mono ?_
    rintro e w2 ⟨rfl, hb2⟩
    have HB2 := Lib.hid hb2
    obtain ⟨k0, k1⟩ := HCL.out w2 hb2
    clear hb2
    go_wp2
    go_ret2
    exact ⟨rfl, By.ext HB1.out HB2.out⟩
  rw [if_pos hl] at hE hN
  subst hE
  obtain rfl : q = n := by omega
  have HG := Lib.hid hN
  clear hcc hcc2 hs h hb1 hrow hcl hr hq hnn hnv hl hN
  go_enter Try.func23, Try.ntmps23
  go_wp2_with fail
  rw [← hw1]
  clear hw1
  refine HC.out.mono ?_
  rintro e w2 ⟨rfl, hb2⟩
  have HB2 := Lib.hid (By.ext HB1.out hb2)
  obtain ⟨k0, k1⟩ := HCL.out w2 hb2
  clear hb2
  go_wp2
  clear k0 k1
  go_loopw [7, 9, 23] (fun g _ i wr => ∃ k G : Nat, k ≤ q ∧ G < 18446744073709551616 ∧ g = .int .u64 G ∧ i = .int .i64 k ∧ Below w.heap.size w wr ∧ G = (ps.take k).foldl (stepU ps) 0) (fun _ _ i _ => q - (intOf i).toNat)
  case atStart => exact ⟨0, 0, Nat.zero_le _, by decide, rfl, rfl, HB2.out, rfl⟩
  case round =>
    obtain ⟨k, G, hk, hG, rfl, rfl, hb, hf⟩ := hrel
    have HB := Lib.hid hb
    have HF := Lib.hid hf
    have HGL := Lib.hid hG
    clear hf hG
    by_cases hkn : k < q
    · have hkl : k < ps.length := by have := HQ.out; omega
      obtain ⟨gg, o, rfl, hg, hc, hy⟩ := (HR.out.below hb).at_ hkl
      have HY := Lib.hid (List.getElem?_eq_getElem hkl)
      generalize ps[k] = y at hc hy HY
      obtain ⟨wb, hwb⟩ : ∃ wb, wb = wr.alloc (.cells #[.int .u64 (y : Int)] 40) := ⟨_, rfl⟩
      have hbb : Below wr.heap.size wr wb := by rw [hwb]; exact (Below.refl _ _).alloc (Nat.le_refl _) _
      have hrb : wb.heap[wr.heap.size]? = some (.cells #[.int .u64 (y : Int)] 40 (0, 0)) := by rw [hwb]; exact heap_alloc_new wr _
      have hcb : wb.cell? ⟨wr.heap.size, 0, none⟩ = some (.int .u64 (y : Int)) := (cell_of_row wb _ 0 _ _ _ hrb).trans rfl
      have hbw := By.ext hb hbb
      have HM := Lib.hid (mostU_any (some ⟨gg, o, none⟩) q c9 w.heap.size ps HQ.out hq47 _ _ _ reached1_enters wb hbw.size (HR.out.below hbw) (reached1_asks wb wr.heap.size y (row_lt hrb) hcb))
      have HST := Lib.hid (fold_step (f := stepU ps) HY.out 0)
      have HBB := Lib.hid hbw
      have HLT := Lib.hid (stepU_lt (l := ps) (G := G) (y := y) HGL.out hy)
      have HCB := Lib.hid hcb
      have HRB := Lib.hid hrb
      clear hkl hb hbb hrb hbw hcb
      have HWB := Lib.hid hwb
      clear hwb hy
      by_cases hGy : G < y
      · have hGi : (G : Int) < (y : Int) := by omega
        have hgt : decide ((G : Int) < (y : Int)) = true := decide_eq_true hGi
        cases hm : mostU (fun x => decide (y ≤ x)) ps with
        | true =>
          have hsu : stepU ps G y = y := by unfold stepU; rw [if_pos ⟨hGy, hm⟩]
          have HSU := Lib.hid hsu
          rw [hm] at HM
          rw [hsu] at HLT
          clear hm hsu
          go_upto_region 10 with fail
          rw [← HWB.out]
          have hcb := HCB.out
          go_wp2_with fail
          refine HM.out.mono ?_
          rintro e w3 ⟨rfl, hb3⟩
          have hcb3 := (hb3.cell (p := ⟨wr.heap.size, 0, none⟩) (row_lt HRB.out)).trans HCB.out
          have HB3 := Lib.hid (By.ext HBB.out hb3)
          clear hb3 hcb
          go_wp2
          go_roundw
          case rel => exact ⟨k + 1, y, by omega, HLT.out, rfl, by go_num, HB3.out, by rw [HST.out, ← HF.out, HSU.out]⟩
          case measure => simp [intOf]; omega
        | false =>
          have hsu : stepU ps G y = G := by unfold stepU; rw [if_neg (fun h => by rw [hm] at h; cases h.2)]
          have HSU := Lib.hid hsu
          rw [hm] at HM
          rw [hsu] at HLT
          clear hm hsu
          go_upto_region 10 with fail
          rw [← HWB.out]
          have hcb := HCB.out
          go_wp2_with fail
          refine HM.out.mono ?_
          rintro e w3 ⟨rfl, hb3⟩
          have hcb3 := (hb3.cell (p := ⟨wr.heap.size, 0, none⟩) (row_lt HRB.out)).trans HCB.out
          have HB3 := Lib.hid (By.ext HBB.out hb3)
          clear hb3 hcb
          go_wp2
          go_roundw
          case rel => exact ⟨k + 1, G, by omega, HLT.out, rfl, by go_num, HB3.out, by rw [HST.out, ← HF.out, HSU.out]⟩
          case measure => simp [intOf]; omega
      · have hGi : ¬ (G : Int) < (y : Int) := by omega
        have hgt : decide ((G : Int) < (y : Int)) = false := decide_eq_false hGi
        have hsu : stepU ps G y = G := by unfold stepU; rw [if_neg (fun h => hGy h.1)]
        have HSU := Lib.hid hsu
        rw [hsu] at HLT
        clear hsu
        go_upto_region 10 with fail
        rw [← HWB.out]
        have hcb := HCB.out
        go_wp2
        go_roundw
        case rel => exact ⟨k + 1, G, by omega, HLT.out, rfl, by go_num, HBB.out, by rw [HST.out, ← HF.out, HSU.out]⟩
        case measure => simp [intOf]; omega
    · obtain rfl : k = q := by omega
      have hl : ps.take k = ps := List.take_of_length_le (by have := HQ.out; omega)
      have hf := HF.out
      rw [hl] at hf
      have HGG := Lib.hid (show G9 = G from HG.out.trans hf.symm)
      clear hl hf hb
      go_wp2
      go_ret2
      rw [HGG.out]
      exact ⟨rfl, HB.out⟩
end Go.Proofs.Ythocmnfmialcaaa.Cn

/-! The reference's Reached, as a contract of a call. -/
namespace Go.Proofs.Ythocmnfmialcaaa.Cn
open Go.RowKit Go.ChangeAt By CoP Co Mo Kd Go.Shelf Su
theorem countU_le (p : Nat → Bool) (l : List Nat) (k : Nat) : (l.take k).countP p ≤ k := Nat.le_trans List.countP_le_length (by rw [List.length_take]; omega)
set_option maxHeartbeats 2000000 in
theorem rReached_any (A : Option Addr) (n c : Nat) (ps : List Nat) (hn : n = ps.length) (hm : n ≤ 140737488355328) (w : World) (hr : LiesU w w.heap.size A ps) :
    Calls Try.prog 24 #[.slice A n c] w (Tells (.int .u64 (reachU ps : Nat)) w) := by
  have HN := Lib.hid hn
  have HR := Lib.hid hr
  clear hn hr
  go_enter Try.func24, Try.ntmps24
  go_wp2
  go_loopw [3, 4, 5, 6] (fun g i _ _ wr => ∃ k G q : Nat, k ≤ n ∧ G < 18446744073709551616 ∧ g = .int .u64 G ∧ i = .int .i64 k ∧ wr = w.drewN q ∧ G = (ps.take k).foldl (stepU ps) 0) (fun _ i _ _ _ => n - (intOf i).toNat)
  case atStart => exact ⟨0, 0, 0, Nat.zero_le _, by decide, rfl, rfl, rfl, rfl⟩
  case round =>
    obtain ⟨k, G, q, hk, hG, rfl, rfl, rfl, hf⟩ := hrel
    have HF := Lib.hid hf
    have HGL := Lib.hid hG
    clear hf hG
    by_cases hkn : k < n
    · have hkl : k < ps.length := by have := HN.out; omega
      have hki : (k : Int) < (n : Int) := by omega
      obtain ⟨gg, o, rfl, hg, hc, hy⟩ := HR.out.at_ hkl
      have HY := Lib.hid (List.getElem?_eq_getElem hkl)
      generalize ps[k] = y at hc hy HY
      have HST := Lib.hid (fold_step (f := stepU ps) HY.out 0)
      have HLT := Lib.hid (stepU_lt (l := ps) (G := G) (y := y) HGL.out hy)
      have HCC := Lib.hid hc
      clear hkl hy hc
      go_wp2
      go_loopw [5, 6] (fun s j wr2 => ∃ (j' z q2 : Nat), j' ≤ n ∧ z ≤ j' ∧ s = .int .i64 z ∧ j = .int .i64 j' ∧ wr2 = w.drewN q2 ∧ (ps.take j').countP (fun x => decide (y ≤ x)) = z) (fun _ j _ => n - (intOf j).toNat)
      case atStart => exact ⟨0, 0, q, Nat.zero_le _, Nat.le_refl _, rfl, rfl, rfl, rfl⟩
      case round =>
        obtain ⟨j, z, q2, hj, hz, rfl, rfl, rfl, hcnt⟩ := hrel
        have HCN := Lib.hid hcnt
        clear hcnt
        by_cases hjn : j < n
        · have hjl : j < ps.length := by have := HN.out; omega
          have hji : (j : Int) < (n : Int) := by omega
          obtain ⟨gg2, o2, e2, hg2, hc2, hx⟩ := HR.out.at_ hjl
          injection e2 with e2
          injection e2 with e3 e4
          subst e3 e4
          have HX := Lib.hid (List.getElem?_eq_getElem hjl)
          generalize ps[j] = x at hc2 hx HX
          have hc := HCC.out
          have HS := Lib.hid (countU_step (p := fun x => decide (y ≤ x)) HX.out)
          clear hjl hx
          by_cases hyx : y ≤ x
          · have hd : decide ((y : Int) ≤ (x : Int)) = true := decide_eq_true (by omega)
            have hdn : decide (y ≤ x) = true := decide_eq_true hyx
            have hs2 : (ps.take (j + 1)).countP (fun x => decide (y ≤ x)) = z + 1 := by rw [HS.out, HCN.out, decide_eq_true hyx]; rfl
            have HS2 := Lib.hid hs2
            clear hs2 hyx
            go_wp2
            go_quiet (fail)
            go_wp2
            go_roundw
            case rel => exact ⟨j + 1, z + 1, _, by omega, by omega, by go_num, by go_num, rfl, HS2.out⟩
            case measure => simp [intOf]; omega
          · have hd : decide ((y : Int) ≤ (x : Int)) = false := decide_eq_false (by omega)
            have hdn : decide (y ≤ x) = false := decide_eq_false hyx
            have hs2 : (ps.take (j + 1)).countP (fun x => decide (y ≤ x)) = z := by rw [HS.out, HCN.out, decide_eq_false hyx]; rfl
            have HS2 := Lib.hid hs2
            clear hs2 hyx
            go_wp2
            go_quiet (fail)
            go_wp2
            go_roundw
            case rel => exact ⟨j + 1, z, _, by omega, by omega, rfl, by go_num, rfl, HS2.out⟩
            case measure => simp [intOf]; omega
        · obtain rfl : j = n := by omega
          have hji : ¬ (j : Int) < (j : Int) := by omega
          have hcnt : ps.countP (fun x => decide (y ≤ x)) = z := by
            have := HCN.out
            rwa [List.take_of_length_le (by have := HN.out; omega)] at this
          have hmost : mostU (fun x => decide (y ≤ x)) ps = decide ((j : Int) - (z : Int) < (z : Int)) := by
            unfold mostU
            rw [hcnt, ← HN.out]
            exact decide_eq_decide.2 ⟨fun h => by omega, fun h => by omega⟩
          have HMO := Lib.hid hmost
          have hzi : (z : Int) ≤ (j : Int) := by omega
          have hw : IntKind.i64.wrap ((j : Int) - (z : Int)) = (j : Int) - (z : Int) := IntWalk.i64_in _ (by constructor <;> omega)
          have hc := HCC.out
          clear hcnt hmost
          by_cases hzz : (j : Int) - (z : Int) < (z : Int)
          · have hd1 : decide ((j : Int) - (z : Int) < (z : Int)) = true := decide_eq_true hzz
            rw [hd1] at HMO
            by_cases hGy : G < y
            · have hgi : decide ((G : Int) < (y : Int)) = true := decide_eq_true (by omega)
              have hgn : decide (G < y) = true := decide_eq_true hGy
              have hsu : stepU ps G y = y := by unfold stepU; rw [if_pos ⟨hGy, HMO.out⟩]
              have HSU := Lib.hid hsu
              rw [hsu] at HLT
              clear hsu hzz hGy
              go_wp2
              go_roundw
              case rel => exact ⟨k + 1, y, _, by omega, HLT.out, rfl, by go_num, rfl, by rw [HST.out, ← HF.out, HSU.out]⟩
              case measure => simp [intOf]; omega
            · have hgi : decide ((G : Int) < (y : Int)) = false := decide_eq_false (by omega)
              have hgn : decide (G < y) = false := decide_eq_false hGy
              have hsu : stepU ps G y = G := by unfold stepU; rw [if_neg (fun h => hGy h.1)]
              have HSU := Lib.hid hsu
              rw [hsu] at HLT
              clear hsu hzz hGy
              go_wp2
              go_roundw
              case rel => exact ⟨k + 1, G, _, by omega, HLT.out, rfl, by go_num, rfl, by rw [HST.out, ← HF.out, HSU.out]⟩
              case measure => simp [intOf]; omega
          · have hd1 : decide ((j : Int) - (z : Int) < (z : Int)) = false := decide_eq_false hzz
            rw [hd1] at HMO
            have hsu : stepU ps G y = G := by unfold stepU; rw [if_neg (fun h => by rw [HMO.out] at h; cases h.2)]
            have HSU := Lib.hid hsu
            rw [hsu] at HLT
            clear hsu hzz
            go_wp2
            go_roundw
            case rel => exact ⟨k + 1, G, _, by omega, HLT.out, rfl, by go_num, rfl, by rw [HST.out, ← HF.out, HSU.out]⟩
            case measure => simp [intOf]; omega
    · obtain rfl : k = n := by omega
      have hki : ¬ (k : Int) < (k : Int) := by omega
      have hl : ps.take k = ps := List.take_of_length_le (by have := HN.out; omega)
      have hf := HF.out
      rw [hl] at hf
      have HGG := Lib.hid (show reachU ps = G from hf.symm)
      clear hl hf
      go_wp2
      go_ret
      rw [HGG.out]
      exact ⟨rfl, Co.below_drewN (Below.refl _ w) q⟩
end Go.Proofs.Ythocmnfmialcaaa.Cn

/-! Plain facts of majorities and places: what more than half reach is a majority's, and what is above is none's. -/
namespace Go.Proofs.Ythocmnfmialcaaa.Cn
open Go.RowKit By CoP Co Mo Kd

theorem stepU_spec (l : List Nat) : ∀ (k : Nat), k ≤ l.length → let G := (l.take k).foldl (stepU l) 0
    (G = 0 ∨ mostU (fun x => decide (G ≤ x)) l = true) ∧ ∀ y ∈ l.take k, mostU (fun x => decide (y ≤ x)) l = true → y ≤ G := by
  intro k
  induction k with
  | zero => exact fun _ => ⟨.inl rfl, fun y hy => absurd hy (by simp)⟩
  | succ k ih =>
    intro hk
    have hkl : k < l.length := hk
    obtain ⟨h1, h2⟩ := ih (by omega)
    have hst := fold_step (f := stepU l) (List.getElem?_eq_getElem hkl) 0
    have hT := List.take_succ_eq_append_getElem hkl
    generalize (l.take k).foldl (stepU l) 0 = G at h1 h2 hst
    generalize l[k] = y at hst hT
    show ((l.take (k + 1)).foldl (stepU l) 0 = 0 ∨ _) ∧ _
    rw [hst, hT]
    by_cases hc : G < y ∧ mostU (fun x => decide (y ≤ x)) l = true
    · have e : stepU l G y = y := by unfold stepU; rw [if_pos hc]
      rw [e]
      refine ⟨.inr hc.2, fun z hz hm => ?_⟩
      rw [List.mem_append, List.mem_singleton] at hz
      rcases hz with hz | rfl
      · have := h2 z hz hm; omega
      · exact Nat.le_refl _
    · have e : stepU l G y = G := by unfold stepU; rw [if_neg hc]
      rw [e]
      refine ⟨h1, fun z hz hm => ?_⟩
      rw [List.mem_append, List.mem_singleton] at hz
      rcases hz with hz | rfl
      · exact h2 z hz hm
      · by_cases h3 : G < z
        · exact absurd ⟨h3, hm⟩ hc
        · omega
theorem reach_most {l : List Nat} (hl : 0 < l.length) : mostU (fun x => decide (reachU l ≤ x)) l = true := by
  have h := (stepU_spec l l.length (Nat.le_refl _)).1
  rw [List.take_length] at h
  rcases h with h | h
  · have e : reachU l = 0 := h
    rw [e]
    unfold mostU
    have : l.countP (fun x => decide (0 ≤ x)) = l.length := by
      rw [List.countP_eq_length]
      intro a _
      exact decide_eq_true (Nat.zero_le _)
    rw [this]
    exact decide_eq_true (by omega)
  · exact h
theorem reach_top {l : List Nat} {y : Nat} (hy : y ∈ l) (hm : mostU (fun x => decide (y ≤ x)) l = true) : y ≤ reachU l := by
  have h := (stepU_spec l l.length (Nat.le_refl _)).2
  rw [List.take_length] at h
  exact h y hy hm
/-- The least of some. -/
theorem least (p : Nat → Bool) : ∀ (l : List Nat), (∃ x ∈ l, p x = true) → ∃ y ∈ l, p y = true ∧ ∀ x ∈ l, p x = true → y ≤ x
  | [], h => by obtain ⟨x, hx, _⟩ := h; cases hx
  | a :: t, h => by
    by_cases ht : ∃ x ∈ t, p x = true
    · obtain ⟨y, hy, hpy, hle⟩ := least p t ht
      by_cases ha : p a = true ∧ a < y
      · refine ⟨a, by simp, ha.1, fun x hx hpx => ?_⟩
        rcases List.mem_cons.1 hx with rfl | hx
        · exact Nat.le_refl _
        · have := hle x hx hpx; omega
      · refine ⟨y, List.mem_cons_of_mem _ hy, hpy, fun x hx hpx => ?_⟩
        rcases List.mem_cons.1 hx with rfl | hx
        · by_cases h9 : x < y
          · exact absurd ⟨hpx, h9⟩ ha
          · omega
        · exact hle x hx hpx
    · obtain ⟨x, hx, hpx⟩ := h
      rcases List.mem_cons.1 hx with rfl | hx
      · refine ⟨x, by simp, hpx, fun z hz hpz => ?_⟩
        rcases List.mem_cons.1 hz with rfl | hz
        · exact Nat.le_refl _
        · exact absurd ⟨z, hz, hpz⟩ ht
      · exact absurd ⟨x, hx, hpx⟩ ht
theorem more_few (l : List Nat) : l.countP (fun x => decide (reachU l < x)) ≤ l.length / 2 := by
  by_cases h : l.countP (fun x => decide (reachU l < x)) ≤ l.length / 2
  · exact h
  · exfalso
    have hpos : 0 < l.countP (fun x => decide (reachU l < x)) := by omega
    rw [List.countP_pos_iff] at hpos
    obtain ⟨y, hy, hpy, hle⟩ := least _ l hpos
    have hc : l.countP (fun x => decide (reachU l < x)) ≤ l.countP (fun x => decide (y ≤ x)) := List.countP_mono_left (fun x hx hpx => decide_eq_true (hle x hx hpx))
    have hm : mostU (fun x => decide (y ≤ x)) l = true := by
      unfold mostU
      exact decide_eq_true (by omega)
    have h1 := reach_top hy hm
    have h2 := of_decide_eq_true hpy
    omega
/-- Those whose places are so. -/
def pickL (p : Nat → Bool) (vs : List Int) (ps : List Nat) : List Int := ((vs.zip ps).filter fun q => p q.2).map (·.1)
theorem pick_step {p : Nat → Bool} {vs : List Int} {ps : List Nat} {k : Nat} {v : Int} {y : Nat} (hv : vs[k]? = some v) (hy : ps[k]? = some y) : pickL p (vs.take (k + 1)) (ps.take (k + 1)) = pickL p (vs.take k) (ps.take k) ++ (if p y then [v] else []) := by
  obtain ⟨hk, e⟩ := List.getElem?_eq_some_iff.1 hv
  obtain ⟨hk2, e2⟩ := List.getElem?_eq_some_iff.1 hy
  unfold pickL
  rw [List.take_succ_eq_append_getElem hk, List.take_succ_eq_append_getElem hk2, List.zip_append (by rw [List.length_take, List.length_take]; omega), List.filter_append, List.map_append, e, e2]
  congr 1
  cases h : p y <;> simp [h]
theorem pick_mem {p : Nat → Bool} {vs : List Int} {ps : List Nat} {v : Int} : v ∈ pickL p vs ps ↔ ∃ y, (v, y) ∈ vs.zip ps ∧ p y = true := by
  unfold pickL
  simp only [List.mem_map, List.mem_filter]
  constructor
  · rintro ⟨⟨a, b⟩, ⟨h1, h2⟩, rfl⟩
    exact ⟨b, h1, h2⟩
  · rintro ⟨y, h1, h2⟩
    exact ⟨(v, y), ⟨h1, h2⟩, rfl⟩
theorem count_fst (f : Int → Bool) (vs : List Int) (ps : List Nat) (h : ps.length = vs.length) : vs.countP f = (vs.zip ps).countP fun q => f q.1 := by
  have e : (vs.zip ps).map Prod.fst = vs := List.map_fst_zip (by omega)
  conv => lhs; rw [← e]
  rw [List.countP_map]
  rfl
theorem count_snd (f : Nat → Bool) (vs : List Int) (ps : List Nat) (h : ps.length = vs.length) : ps.countP f = (vs.zip ps).countP fun q => f q.2 := by
  have e : (vs.zip ps).map Prod.snd = ps := List.map_snd_zip (by omega)
  conv => lhs; rw [← e]
  rw [List.countP_map]
  rfl
theorem pick_many (p : Nat → Bool) (vs : List Int) (ps : List Nat) (h : ps.length = vs.length) : ps.countP p ≤ vs.countP fun v => decide (v ∈ pickL p vs ps) := by
  rw [count_fst _ vs ps h, count_snd _ vs ps h]
  refine List.countP_mono_left (fun q hq hp => decide_eq_true (pick_mem.2 ⟨q.2, hq, hp⟩))
theorem zip_inj : ∀ {vs : List Int} {ps : List Nat} {v : Int} {a b : Nat}, vs.Nodup → (v, a) ∈ vs.zip ps → (v, b) ∈ vs.zip ps → a = b
  | [], _, _, _, _, _, h, _ => by simp at h
  | x :: t, [], _, _, _, _, h, _ => by simp at h
  | x :: t, y :: s, v, a, b, hn, h1, h2 => by
    rw [List.zip_cons_cons, List.mem_cons] at h1 h2
    rw [List.nodup_cons] at hn
    have hin : ∀ {c : Nat}, (v, c) ∈ t.zip s → v ∈ t := fun hc => (List.of_mem_zip hc).1
    rcases h1 with h1 | h1 <;> rcases h2 with h2 | h2
    · simp only [Prod.mk.injEq] at h1 h2
      rw [h1.2, h2.2]
    · simp only [Prod.mk.injEq] at h1
      exact absurd (h1.1 ▸ hin h2) hn.1
    · simp only [Prod.mk.injEq] at h2
      exact absurd (h2.1 ▸ hin h1) hn.1
    · exact zip_inj hn.2 h1 h2
theorem pick_few (p : Nat → Bool) (vs : List Int) (ps : List Nat) (h : ps.length = vs.length) (hn : vs.Nodup) : (vs.countP fun v => decide (v ∈ pickL p vs ps)) ≤ ps.countP p := by
  rw [count_fst _ vs ps h, count_snd _ vs ps h]
  refine List.countP_mono_left (fun q hq hp => ?_)
  obtain ⟨y, h1, h2⟩ := pick_mem.1 (of_decide_eq_true hp)
  have : q.2 = y := zip_inj hn (show (q.1, q.2) ∈ _ from hq) h1
  rw [this]
  exact h2
theorem rising_nodup : ∀ {l : List Int} {p : Int}, risingFrom p l = true → l.Nodup
  | [], _, _ => List.nodup_nil
  | x :: t, p, h => by
    simp only [risingFrom, Bool.and_eq_true, decide_eq_true_eq] at h
    rw [List.nodup_cons]
    exact ⟨fun hx => by have := (risingFrom_mem t x h.2 x hx).1; omega, rising_nodup h.2⟩
theorem reach_yes {vs ls : List Int} {ps : List Nat} (hs : confB vs ls = true) (h : ps.length = vs.length) : quorB vs ls (pickL (fun x => decide (reachU ps ≤ x)) vs ps) = true := by
  obtain ⟨_, _, _, hp⟩ := (confB_iff vs ls).1 hs
  have h1 := reach_most (l := ps) (by omega)
  have h2 := pick_many (fun x => decide (reachU ps ≤ x)) vs ps h
  unfold mostU at h1
  have h3 := of_decide_eq_true h1
  unfold quorB mostB
  rw [hs, Bool.true_and]
  exact decide_eq_true (by omega)
theorem reach_no {vs ls : List Int} {ps : List Nat} (hs : confB vs ls = true) (h : ps.length = vs.length) : quorB vs ls (pickL (fun x => decide (reachU ps < x)) vs ps) = false := by
  obtain ⟨_, hr, _, _⟩ := (confB_iff vs ls).1 hs
  have h1 := more_few ps
  have h2 := pick_few (fun x => decide (reachU ps < x)) vs ps h (rising_nodup hr)
  unfold quorB mostB
  rw [hs, Bool.true_and]
  exact decide_eq_false (by omega)
end Go.Proofs.Ythocmnfmialcaaa.Cn

/-! Plain facts: majorities of a configuration and of the next one meet. -/
namespace Go.Proofs.Ythocmnfmialcaaa.Cn
open Go.RowKit By CoP Co Mo Kd

theorem count_meet {A B : Int → Bool} : ∀ (L : List Int), L.length < L.countP A + L.countP B → ∃ x ∈ L, A x = true ∧ B x = true
  | [], h => by simp at h
  | a :: t, h => by
    by_cases hab : A a = true ∧ B a = true
    · exact ⟨a, by simp, hab⟩
    · have h1 := List.countP_cons (p := A) (a := a) (l := t)
      have h2 := List.countP_cons (p := B) (a := a) (l := t)
      have h3 : (if A a = true then 1 else 0) + (if B a = true then 1 else 0) ≤ 1 := by
        by_cases ha : A a = true <;> by_cases hb : B a = true
        · exact absurd ⟨ha, hb⟩ hab
        · simp [hb]; split <;> omega
        · simp [ha]; split <;> omega
        · simp [ha, hb]
      rw [List.length_cons] at h
      obtain ⟨x, hx, hp⟩ := count_meet (A := A) (B := B) t (by omega)
      exact ⟨x, List.mem_cons_of_mem _ hx, hp⟩
theorem wthL_sub (x : Int) (l : List Int) : l.Sublist (wthL x l) := by
  unfold wthL insL'
  have h : l = l.take (posL x l) ++ l.drop (posL x l) := (List.take_append_drop _ _).symm
  conv => lhs; rw [h]
  exact List.Sublist.append_left (List.sublist_cons_self _ _) _
theorem woL_sub (x : Int) (l : List Int) : (woL x l).Sublist l := List.filter_sublist
theorem woL_long (x : Int) : ∀ (l : List Int), l.Nodup → l.length ≤ (woL x l).length + 1
  | [], _ => by simp
  | a :: t, h => by
    rw [List.nodup_cons] at h
    by_cases e : a = x
    · subst e
      have h1 : woL a (a :: t) = woL a t := by unfold woL; rw [List.filter_cons_of_neg (by simp)]
      rw [h1, woL_none h.1, List.length_cons]
      omega
    · have h1 : woL x (a :: t) = a :: woL x t := by unfold woL; rw [List.filter_cons_of_pos (by simp [e])]
      have h2 := woL_long x t h.2
      rw [h1, List.length_cons, List.length_cons]
      omega
/-- The next one, or the same, if the change may not be. -/
def nxV (k : Nat) (vs ls : List Int) (x : Int) : List Int := if chgE k vs ls x ≠ 0 then vs else chgV k vs ls x
def nxL (k : Nat) (vs ls : List Int) (x : Int) : List Int := if chgE k vs ls x ≠ 0 then ls else chgL k vs ls x
theorem nxV_near {k : Nat} {vs ls : List Int} {x : Int} (hk : k = 1 ∨ k = 2 ∨ k = 3) (hs : confB vs ls = true) : (vs.Sublist (nxV k vs ls x) ∧ (nxV k vs ls x).length ≤ vs.length + 1) ∨ ((nxV k vs ls x).Sublist vs ∧ vs.length ≤ (nxV k vs ls x).length + 1) := by
  obtain ⟨_, hr, _, _⟩ := (confB_iff vs ls).1 hs
  unfold nxV
  by_cases he : chgE k vs ls x ≠ 0
  · rw [if_pos he]
    exact .inl ⟨List.Sublist.refl _, by omega⟩
  · rw [if_neg he]
    unfold chgV
    rw [if_neg he]
    rcases hk with rfl | rfl | rfl
    · rw [if_pos rfl]
      exact .inl ⟨List.Sublist.refl _, by omega⟩
    · rw [if_neg (by decide), if_pos rfl]
      exact .inl ⟨wthL_sub _ _, by rw [wthL_len]; omega⟩
    · rw [if_neg (by decide), if_neg (by decide)]
      exact .inr ⟨woL_sub _ _, woL_long x vs (rising_nodup hr)⟩
theorem meets {k : Nat} {vs ls : List Int} {x : Int} {a b : List Int} (hk : k = 1 ∨ k = 2 ∨ k = 3) (ha : quorB vs ls a = true) (hb : quorB (nxV k vs ls x) (nxL k vs ls x) b = true) :
    ∃ v ∈ a, v ∈ b ∧ ((confB vs ls && decide (v ∈ vs)) = true ∨ (confB (nxV k vs ls x) (nxL k vs ls x) && decide (v ∈ nxV k vs ls x)) = true) := by
  unfold quorB mostB at ha hb
  rw [Bool.and_eq_true] at ha hb
  have h1 := of_decide_eq_true ha.2
  have h2 := of_decide_eq_true hb.2
  have hn := nxV_near (x := x) hk ha.1
  rw [ha.1, hb.1]
  simp only [Bool.true_and]
  generalize nxV k vs ls x = us at h2 hn ⊢
  rcases hn with ⟨hs, hl⟩ | ⟨hs, hl⟩
  · have h3 := List.Sublist.countP_le (p := fun v => decide (v ∈ a)) hs
    obtain ⟨v, hv, hva, hvb⟩ := count_meet (A := fun v => decide (v ∈ a)) (B := fun v => decide (v ∈ b)) us (by omega)
    exact ⟨v, of_decide_eq_true hva, of_decide_eq_true hvb, .inr (decide_eq_true hv)⟩
  · have h3 := List.Sublist.countP_le (p := fun v => decide (v ∈ b)) hs
    obtain ⟨v, hv, hva, hvb⟩ := count_meet (A := fun v => decide (v ∈ a)) (B := fun v => decide (v ∈ b)) vs (by omega)
    exact ⟨v, of_decide_eq_true hva, of_decide_eq_true hvb, .inl (decide_eq_true hv)⟩
end Go.Proofs.Ythocmnfmialcaaa.Cn
