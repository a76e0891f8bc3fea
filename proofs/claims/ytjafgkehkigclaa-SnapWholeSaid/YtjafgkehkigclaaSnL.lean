/- SnapWhole's walk; a list of bools that comes in. -/
import Derived.Test.YtjafgkehkigclaaSnJ
import Derived.Test.YtjafgkehkigclaaGD
import Derived.Deep.Grids
namespace Go.Proofs.Ytjafgkehkigclaa.Sn
open Go.RowKit By

/-- The cells of a slice of bools. -/
def LiesT (w : World) (B : Nat) (A : Option Addr) (n : Nat) (f : Nat → Bool) : Prop := 0 < n → ∃ g o, A = some ⟨g, o, none⟩ ∧ g < B ∧ ∀ k, k < n → w.cell? ⟨g, o + k, none⟩ = some (.bool (f k))
theorem LiesT.at_ {w w' : World} {B : Nat} {A : Option Addr} {n : Nat} {f : Nat → Bool} (h : LiesT w B A n f) (hb : Below B w w') {k : Nat} (hk : k < n) : ∃ g o, A = some ⟨g, o, none⟩ ∧ w'.cell? ⟨g, o + k, none⟩ = some (.bool (f k)) := by
  obtain ⟨g, o, e, hg, hc⟩ := h (by omega)
  exact ⟨g, o, e, (hb.cell (show (⟨g, o + k, none⟩ : Addr).block < B from hg)).trans (hc k hk)⟩
theorem bools {H : Type} {enc : TypeId × Value → H} {v : Value} {d : DataW H} {p : List MemPlace} {W : World} {base : Nat} (hv : Value.okWide Try.prog W .any base 47 v)
    (h : DataW.Trod enc Try.prog W 0 (fun _ => true) true 47 v d p) (hlt : ∀ x ∈ p, x.block < W.heap.size) :
    ∃ (A : Option Addr) (n c : Nat) (f : Nat → Bool), v = .slice A n c ∧ LiesT W W.heap.size A n f := by
  obtain ⟨a0, len, cap, rfl⟩ := Go.WideShapes.okWide_slice Try.underlying47 hv
  obtain ⟨fuel, hf⟩ := h
  rcases Go.Deep.open_bools Try.underlying47 Try.underlying4 (by kernel_rfl) hf with ⟨hcs, _⟩ | ⟨a, len', cap', f, hcs, _, hl, _, hx, hcell⟩
  · simp [Value.cells] at hcs
    obtain ⟨rfl, rfl, rfl⟩ := hcs
    exact ⟨none, 0, 0, fun _ => false, rfl, fun h => absurd h (by simp)⟩
  · simp [Value.cells] at hcs
    obtain ⟨rfl, rfl, rfl⟩ := hcs
    simp only [Prod.mk.injEq] at hx
    obtain ⟨_, rfl⟩ := hx
    refine ⟨some a, len, cap, f, rfl, fun hn => ?_⟩
    obtain ⟨b, off, spot⟩ := a
    have hspot : spot = none := by simpa [Addr.add] using World.cell?_spot (hcell 0 (by omega))
    subst hspot
    refine ⟨b, off, rfl, hlt (.cell b off) (MemPlace.mem_row.2 ⟨0, by omega, by simp⟩), fun k hk => ?_⟩
    have hc := hcell k (by omega)
    rwa [plainAdd] at hc
def jS (i t : Nat) (l : Bs) (s : Nat) : J7 := if s = 0 then ⟨0, 0, []⟩ else ⟨i, t, l.take (256 * s)⟩
theorem jS_has {i t s : Nat} {l : Bs} (hi : i ≠ 0) : hasD (jS i t l s) i t = l.take (256 * s) := by
  unfold jS hasD
  by_cases h : s = 0
  · subst h
    rw [if_pos rfl, if_neg (fun h => hi h.1.symm)]
    rfl
  · rw [if_neg h, if_pos ⟨rfl, rfl⟩]
theorem jS_len {i t s : Nat} {l : Bs} (h : l.length ≤ 32768) : (jS i t l s).d.length ≤ 32768 := by
  unfold jS
  split
  · exact Nat.zero_le _
  · show (l.take (256 * s)).length ≤ _
    rw [List.length_take]; omega
theorem take_more (l : Bs) (k m : Nat) : l.take k ++ (l.drop k).take m = l.take (k + m) := by rw [List.take_add]
theorem addR_more {i t s k : Nat} {l : Bs} (hi : i ≠ 0) (hk : k = 256 * s) (hn : k + 256 < l.length) (hl : l.length ≤ 32768) : addR (jS i t l s) ⟨i, t, (k : Int), false, (l.drop k).take 256⟩ = ⟨⟨i, t, l.take (k + 256)⟩, k + 256, [], false, 0⟩ := by
  have hx : ((l.drop k).take 256).length = 256 := by rw [List.length_take, List.length_drop]; omega
  have hp : (l.take k).length = k := by rw [List.length_take]; omega
  have hla : laidD (l.take k) k false ((l.drop k).take 256) = l.take (k + 256) := by
    unfold laidD
    rw [if_neg (by rw [hx, hp]; omega), List.take_take, Nat.min_self, take_more]
  have hll : (l.take (k + 256)).length = k + 256 := by rw [List.length_take]; omega
  unfold addR
  dsimp only
  rw [if_neg (by rw [hx]; omega), jS_has hi, ← hk, if_neg (by rw [hp]; omega), show (k : Int).toNat = k by omega, hla, hll, if_neg (by omega)]
  rfl
theorem addR_again {i t k : Nat} {l : Bs} (hi : i ≠ 0) (hn : k + 256 < l.length) (hl : l.length ≤ 32768) : addR ⟨i, t, l.take (k + 256)⟩ ⟨i, t, (k : Int), false, (l.drop k).take 256⟩ = ⟨⟨i, t, l.take (k + 256)⟩, k + 256, [], false, 0⟩ := by
  have hx : ((l.drop k).take 256).length = 256 := by rw [List.length_take, List.length_drop]; omega
  have hll : (l.take (k + 256)).length = k + 256 := by rw [List.length_take]; omega
  have hla : laidD (l.take (k + 256)) k false ((l.drop k).take 256) = l.take (k + 256) := by
    unfold laidD
    rw [if_pos ⟨by rw [hx, hll]; omega, rfl⟩]
  have hh : hasD ⟨i, t, l.take (k + 256)⟩ i t = l.take (k + 256) := if_pos ⟨rfl, rfl⟩
  unfold addR
  dsimp only
  rw [if_neg (by rw [hx]; omega), hh, if_neg (by rw [hll]; omega), show (k : Int).toNat = k by omega, hla, hll, if_neg (by omega)]
  rfl
theorem addR_last {i t s k : Nat} {l : Bs} (hi : i ≠ 0) (hk : k = 256 * s) (hkl : k ≤ l.length) (hn : l.length ≤ k + 256) (hl : l.length ≤ 32768) : addR (jS i t l s) ⟨i, t, (k : Int), true, (l.drop k).take 256⟩ = ⟨⟨0, 0, []⟩, l.length, l, true, 0⟩ := by
  have hx : ((l.drop k).take 256).length ≤ 256 := by rw [List.length_take]; omega
  have hp : (l.take k).length = k := by rw [List.length_take]; omega
  have hla : laidD (l.take k) k true ((l.drop k).take 256) = l := by
    unfold laidD
    rw [if_neg (fun h => by cases h.2), List.take_take, Nat.min_self, take_more, List.take_of_length_le hn]
  unfold addR
  dsimp only
  rw [if_neg (by omega), jS_has hi, ← hk, if_neg (by rw [hp]; omega), show (k : Int).toNat = k by omega, hla, if_neg (by omega)]
  rfl
theorem jS_next {i t s k : Nat} {l : Bs} (hk : k = 256 * s) : (⟨i, t, l.take (k + 256)⟩ : J7) = jS i t l (s + 1) := by
  unfold jS
  rw [if_neg (by omega), hk]
  rfl
set_option maxRecDepth 100000 in
set_option maxHeartbeats 6400000 in
theorem snapWhole_any (I T : Int) (A B : Option Addr) (n c m d : Nat) (l : Bs) (f : Nat → Bool) (w : World) (hI : 0 ≤ I) (hT : 0 ≤ T) (hn : n = l.length) (hA : Lies w w.heap.size A l) (hB : LiesT w w.heap.size B m f) :
    Calls Try.prog 5 #[.int .u64 I, .int .u64 T, .slice A n c, .slice B m d] w (True_ w) := by
  obtain ⟨i, rfl⟩ := Int.eq_ofNat_of_zero_le hI
  obtain ⟨t, rfl⟩ := Int.eq_ofNat_of_zero_le hT
  have HN := Lib.hid hn
  have HA := Lib.hid hA
  have HT := Lib.hid hB
  have HANS := Lib.hid (fun w' => answers_any w')
  clear hn hA hB hI hT
  go_enter Try.func5, Try.ntmps5
  go_wp2_with fail
  refine (HANS.out _).mono ?_
  rintro e w1 ⟨rfl, hb1⟩
  have HB1 := Lib.hid hb1
  clear hb1
  by_cases hz : i = 0
  · have q0 : ((i : Int) == 0) = true := beq_iff_eq.2 (by omega)
    clear hz
    go_wp2_with fail
    refine (HANS.out _).mono ?_
    rintro e w2 ⟨rfl, hb2⟩
    have HB2 := Lib.hid (By.ext HB1.out hb2)
    clear hb2
    go_wp2
    go_ret
    exact ⟨rfl, HB2.out⟩
  have q0 : ((i : Int) == 0) = false := beq_eq_false_iff_ne.2 (by omega)
  have HZ := Lib.hid hz
  clear hz
  by_cases hz : 32768 < n
  · have q1 : (32768 : Int) < (n : Int) := by omega
    clear hz
    go_wp2_with fail
    refine (HANS.out _).mono ?_
    rintro e w2 ⟨rfl, hb2⟩
    have HB2 := Lib.hid (By.ext HB1.out hb2)
    clear hb2
    go_wp2
    go_ret
    exact ⟨rfl, HB2.out⟩
  have q1 : ¬ ((32768 : Int) < (n : Int)) := by omega
  have HL := Lib.hid (show l.length ≤ 32768 by rw [← HN.out]; omega)
  clear hz
  go_wp2_with fail
  refine (new_any w1).mono ?_
  rintro e w2 ⟨rfl, hj2, hb2, hz2⟩
  obtain ⟨g, hg⟩ : ∃ g, g = w1.heap.size := ⟨_, rfl⟩
  rw [← hg] at hj2 ⊢
  have HB2 := Lib.hid (By.ext HB1.out hb2)
  have HJ2 := Lib.hid hj2
  have HG := Lib.hid (show w.heap.size ≤ g by rw [hg]; exact HB1.out.size)
  clear hg hj2 hb2 hz2
  go_wp2
  go_loopw [10, 11] (fun a b wr => ∃ s k : Nat, k = 256 * s ∧ k ≤ n ∧ a = .int .i64 (k : Int) ∧ b = .int .i64 (s : Int) ∧ JAt wr g (jS i t l s) ∧ Below w.heap.size w wr) (fun a _ _ => n + 1 - (intOf a).toNat)
  case atStart => exact ⟨0, 0, rfl, Nat.zero_le _, rfl, rfl, HJ2.out, HB2.out⟩
  case round =>
    obtain ⟨s, k, hk, hkn, rfl, rfl, hj, hb⟩ := hrel
    have HK := Lib.hid hk
    have HJ := Lib.hid hj
    have HB := Lib.hid hb
    have hki : (k : Int) ≤ (n : Int) := by omega
    have hsi : (s : Int) ≤ 128 := by omega
    clear hk hj hb
    go_upto_region 6 with fail
    go_wp2_with (at_builtin; refine wpList_app rfl (.tmp 45) (.tmp 46) rfl rfl (snoc_own wr wr.heap.size (Nat.le_refl _)) rfl HN.out ((lext HA.out HB.out).alloc (Nat.le_refl _) _) (by have := HN.out; have := HL.out; simp; omega) (by simp) ?_
                 intro v3 w3 ho3 hb3 hg3
                 rw [List.nil_append] at ho3
                 obtain ⟨A3, c3, hv3, hc3, -, -, hl3, -⟩ := ho3.form
                 rw [← HN.out] at hv3
                 subst hv3
                 have HB3 := Lib.hid (show Below wr.heap.size wr w3 from (nAlloc (Below.refl _ _) (Nat.le_refl _) _).trans hb3)
                 have HC := Lib.hid (cut_in i t A3 n c3 k l w3 HN.out (by rw [HN.out]; exact hc3) hkn (by omega) hl3)
                 clear ho3 hb3 hg3 hc3 hl3)
    refine HC.out.mono ?_
    rintro e w4 ⟨A4, c4, rfl, ho4, hb4⟩
    obtain ⟨x, hx⟩ : ∃ x, x = (l.drop k).take 256 := ⟨_, rfl⟩
    obtain ⟨pl, hpl⟩ : ∃ x, x = decide (l.length ≤ k + 256) := ⟨_, rfl⟩
    have hcp : cutP l i t k = ⟨i, t, (k : Int), pl, x⟩ := by unfold cutP; rw [hx, hpl]
    rw [hcp] at ho4 ⊢
    dsimp only [pC] at ho4 ⊢
    obtain ⟨w5, hw5⟩ : ∃ w5, w5 = w4.alloc (.cells #[.int .u64 (i : Nat), .int .u64 (t : Nat), .int .i64 (k : Int), .bool pl, .slice A4 x.length c4] tP) := ⟨_, rfl⟩
    have hb35 : Below wr.heap.size wr w5 := by rw [hw5]; exact nAlloc (By.ext HB3.out hb4) (Nat.le_refl _) _
    obtain ⟨pb, hpb⟩ : ∃ b, b = w4.heap.size := ⟨_, rfl⟩
    have HB5 := Lib.hid (By.ext HB.out hb35)
    have HJ5 := Lib.hid (HJ.out.below hb35)
    have HR5 := Lib.hid (show w5.heap[pb]? = some (.cells #[.int .u64 (i : Nat), .int .u64 (t : Nat), .int .i64 (k : Int), .bool pl, .slice A4 x.length c4] tP (0, 0)) by rw [hw5, hpb]; exact heap_alloc_new w4 _)
    have HO5 := Lib.hid (show Own w3.heap.size w5 (.slice A4 x.length c4) x by rw [hw5]; exact Own.alloc ho4 _)
    have HGL := Lib.hid (show g < w3.heap.size from Nat.lt_of_lt_of_le HJ.out.lt HB3.out.size)
    have HGP := Lib.hid (show g ≠ pb by rw [hpb]; have := HGL.out; have := hb4.size; omega)
    have HXE := Lib.hid hx
    have HPE := Lib.hid hpl
    have HW5 := Lib.hid hw5
    have HPB := Lib.hid hpb
    clear ho4 hb4 hw5 hb35 hpb hx hpl hcp HC HB3
    go_upto_region 7 with fail
    rw [← HW5.out, ← HPB.out]
    clear HW5 HPB
    obtain ⟨x0, x1, x2, x3, x4⟩ := pcells HR5.out
    go_upto_region 9 with fail
    by_cases hlast : l.length ≤ k + 256
    · obtain rfl : pl = true := by rw [HPE.out]; exact decide_eq_true hlast
      have HXL := Lib.hid (show k + x.length = n by rw [HXE.out, List.length_take, List.length_drop, HN.out]; have := HN.out; omega)
      have hxl : (x.length : Int) ≤ 256 := by have h : x.length ≤ 256 := by rw [HXE.out, List.length_take]; omega
                                              omega
      have hsum : (k : Int) + (x.length : Int) = (n : Int) := by have := HXL.out; omega
      have HADD := Lib.hid (show Calls Try.prog 12 #[.pointer (some ⟨g, 0, none⟩), .agg #[.int .u64 (i : Nat), .int .u64 (t : Nat), .int .i64 (k : Int), .bool true, .slice A4 x.length c4]] w5 (AddPost g ⟨⟨0, 0, []⟩, l.length, l, true, 0⟩ w5) by
        have h := add_any g (jS i t l s) ⟨i, t, (k : Int), true, x⟩ A4 c4 w5 HJ5.out (jS_len HL.out) (own_lies HO5.out)
        have e1 := addR_last (t := t) HZ.out HK.out (by rw [← HN.out]; exact hkn) hlast HL.out
        rw [← HXE.out] at e1
        rw [e1] at h
        exact h)
      clear hlast
      go_upto_region 13 with fail
      go_wp2_with fail
      refine HADD.out.mono ?_
      rintro e w6 ⟨A6, c6, rfl, hl6, hj6, hk6⟩
      dsimp only at hl6 hj6 ⊢
      rw [← HN.out]
      have HB6 := Lib.hid (HB5.out.trans (hk6.below HB5.out.size (fun b hb => by rw [hb]; exact HG.out)))
      have HL6 := Lib.hid hl6
      have HJ6 := Lib.hid hj6
      have HR6 := Lib.hid ((hk6.block _ (row_lt HR5.out) (fun e => HGP.out e.symm)).trans HR5.out)
      clear hl6 hj6 hk6 HADD x0 x1 x2 x3 x4
      obtain ⟨x0, x1, x2, x3, x4⟩ := pcells HR6.out
      have hse : ((k : Int) + (x.length : Int) == (n : Int)) = true := beq_iff_eq.2 hsum
      have hsn : ((n : Int) != (k : Int) + (x.length : Int)) = false := by rw [hsum]; simp
      go_upto_region 17 with fail
      clear x0 x1 x2 x3 x4
      go_wp2_with fail
      refine (have_any g ⟨0, 0, []⟩ w6 HJ6.out).mono ?_
      rintro e w7 ⟨rfl, hb7⟩
      dsimp only
      have HB7 := Lib.hid (By.ext HB6.out hb7)
      obtain ⟨x0, x1, x2, x3, x4⟩ := pcells ((hb7.block _ (row_lt HR6.out)).trans HR6.out)
      have t1 := run_text w7 c6 HN.out (by have h := lext HL6.out hb7; exact h)
      have t2 := run_text w7 c HN.out (lext HA.out HB7.out)
      have hq := strEq l
      clear hb7
      go_wp2
      go_ret
      exact ⟨rfl, HB7.out⟩
    · obtain rfl : pl = false := by rw [HPE.out]; exact decide_eq_false hlast
      have HXL := Lib.hid (show x.length = 256 by rw [HXE.out, List.length_take, List.length_drop]; omega)
      have HKL := Lib.hid (show k + 256 < l.length by omega)
      have hk256 : (k : Int) + 256 < (n : Int) := by have := HN.out; omega
      rw [HXL.out] at x4 HR5 HO5 ⊢
      have HADD := Lib.hid (show Calls Try.prog 12 #[.pointer (some ⟨g, 0, none⟩), .agg #[.int .u64 (i : Nat), .int .u64 (t : Nat), .int .i64 (k : Int), .bool false, .slice A4 256 c4]] w5 (AddPost g ⟨⟨i, t, l.take (k + 256)⟩, k + 256, [], false, 0⟩ w5) by
        have h := add_any g (jS i t l s) ⟨i, t, (k : Int), false, x⟩ A4 c4 w5 HJ5.out (jS_len HL.out) (by have h := HO5.out; rw [← HXL.out] at h; exact own_lies h)
        have e1 := addR_more (t := t) HZ.out HK.out HKL.out HL.out
        rw [← HXE.out] at e1
        rw [e1] at h
        dsimp only [pC] at h
        rw [HXL.out] at h
        exact h)
      have HAG := Lib.hid (fun (wq : World) (hjq : JAt wq g ⟨i, t, l.take (k + 256)⟩) (hoq : Own w3.heap.size wq (.slice A4 256 c4) x) => (show Calls Try.prog 12 #[.pointer (some ⟨g, 0, none⟩), .agg #[.int .u64 (i : Nat), .int .u64 (t : Nat), .int .i64 (k : Int), .bool false, .slice A4 256 c4]] wq (AddPost g ⟨⟨i, t, l.take (k + 256)⟩, k + 256, [], false, 0⟩ wq) by
        have h := add_any g ⟨i, t, l.take (k + 256)⟩ ⟨i, t, (k : Int), false, x⟩ A4 c4 wq hjq (by show (l.take (k + 256)).length ≤ 32768; rw [List.length_take]; have := HL.out; omega) (by rw [← HXL.out] at hoq; exact own_lies hoq)
        have e1 := addR_again (t := t) HZ.out HKL.out HL.out
        rw [← HXE.out] at e1
        rw [e1] at h
        dsimp only [pC] at h
        rw [HXL.out] at h
        exact h))
      have hsum : ((k : Int) + 256 == ((k + 256 : Nat) : Int)) = true := beq_iff_eq.2 (by omega)
      have hcast : ((k + 256 : Nat) : Int) = (k : Int) + 256 := by omega
      clear hlast
      by_cases hsm : s < m
      · obtain ⟨tg, tq, hBe, htc⟩ := HT.out.at_ HB5.out hsm
        subst hBe
        have hsmi : (s : Int) < (m : Int) := by omega
        cases hfs : f s
        · rw [hfs] at htc
          clear hfs
          go_upto_region 13 with fail
          clear htc
          go_wp2_with fail
          refine HADD.out.mono ?_
          rintro e w6 ⟨A6, c6, rfl, hl6, hj6, hk6⟩
          dsimp only at hj6 ⊢
          rw [hcast]
          have HB6 := Lib.hid (HB5.out.trans (hk6.below HB5.out.size (fun b hb => by rw [hb]; exact HG.out)))
          have HJ6 := Lib.hid hj6
          have HR6 := Lib.hid ((hk6.block _ (row_lt HR5.out) (fun e => HGP.out e.symm)).trans HR5.out)
          clear hl6 hj6 hk6 HADD x0 x1 x2 x3 x4
          obtain ⟨x0, x1, x2, x3, x4⟩ := pcells HR6.out
          go_wp2
          go_roundw
          case rel => exact ⟨s + 1, k + 256, by have := HK.out; omega, by have := HKL.out; have := HN.out; omega, by rw [hcast], by go_num, by rw [← jS_next HK.out]; exact HJ6.out, HB6.out⟩
          case measure => simp [intOf]; have := HKL.out; have := HN.out; omega
        · rw [hfs] at htc
          clear hfs
          go_upto_region 10 with fail
          clear htc
          go_wp2_with fail
          refine HADD.out.mono ?_
          rintro e wf ⟨Af, cf, rfl, hlf, hjf, hkf⟩
          dsimp only at hjf ⊢
          rw [hcast]
          have HBf := Lib.hid (HB5.out.trans (hkf.below HB5.out.size (fun b hb => by rw [hb]; exact HG.out)))
          have HJf := Lib.hid hjf
          have HRf := Lib.hid ((hkf.block _ (row_lt HR5.out) (fun e => HGP.out e.symm)).trans HR5.out)
          have HOf := Lib.hid (show Own w3.heap.size wf (.slice A4 256 c4) x from ownsRow_keep HO5.out (fun b hb => hkf.block b (ownsRow_lt HO5.out hb).2 (fun e => by have := (ownsRow_lt HO5.out hb).1; have := HGL.out; have e : b = g := e; omega)))
          clear hlf hjf hkf HADD x0 x1 x2 x3 x4
          obtain ⟨x0, x1, x2, x3, x4⟩ := pcells HRf.out
          go_upto_region 13 with fail
          have HADD := Lib.hid (HAG.out wf HJf.out HOf.out)
          go_wp2_with fail
          refine HADD.out.mono ?_
          rintro e w6 ⟨A6, c6, rfl, hl6, hj6, hk6⟩
          dsimp only at hj6 ⊢
          rw [hcast]
          have HB6 := Lib.hid (HBf.out.trans (hk6.below HBf.out.size (fun b hb => by rw [hb]; exact HG.out)))
          have HJ6 := Lib.hid hj6
          have HR6 := Lib.hid ((hk6.block _ (row_lt HRf.out) (fun e => HGP.out e.symm)).trans HRf.out)
          clear hl6 hj6 hk6 HADD x0 x1 x2 x3 x4
          obtain ⟨x0, x1, x2, x3, x4⟩ := pcells HR6.out
          go_wp2
          go_roundw
          case rel => exact ⟨s + 1, k + 256, by have := HK.out; omega, by have := HKL.out; have := HN.out; omega, by rw [hcast], by go_num, by rw [← jS_next HK.out]; exact HJ6.out, HB6.out⟩
          case measure => simp [intOf]; have := HKL.out; have := HN.out; omega
      · have hsmi : ¬ ((s : Int) < (m : Int)) := by omega
        go_upto_region 13 with fail
        go_wp2_with fail
        refine HADD.out.mono ?_
        rintro e w6 ⟨A6, c6, rfl, hl6, hj6, hk6⟩
        dsimp only at hj6 ⊢
        rw [hcast]
        have HB6 := Lib.hid (HB5.out.trans (hk6.below HB5.out.size (fun b hb => by rw [hb]; exact HG.out)))
        have HJ6 := Lib.hid hj6
        have HR6 := Lib.hid ((hk6.block _ (row_lt HR5.out) (fun e => HGP.out e.symm)).trans HR5.out)
        clear hl6 hj6 hk6 HADD x0 x1 x2 x3 x4
        obtain ⟨x0, x1, x2, x3, x4⟩ := pcells HR6.out
        go_wp2
        go_roundw
        case rel => exact ⟨s + 1, k + 256, by have := HK.out; omega, by have := HKL.out; have := HN.out; omega, by rw [hcast], by go_num, by rw [← jS_next HK.out]; exact HJ6.out, HB6.out⟩
        case measure => simp [intOf]; have := HKL.out; have := HN.out; omega
end Go.Proofs.Ytjafgkehkigclaa.Sn
