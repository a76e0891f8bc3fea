/- The law RlogHints, walked. -/
import Derived.Test.YtlkepkagbhibhaaGreatQh
namespace Go.Proofs.YtlkepkagbhibhaaGreat.Rg
open Go.RowKit By CoP Co Mo Kd

set_option maxRecDepth 100000 in
set_option maxHeartbeats 3200000 in
theorem rlogHints_walk (w : World) (ix tm : Nat) (A : Option Addr) (n c : Nat) (l : List A11) (h : ActsAt w.heap.size w A n c l) (i t : Nat) : Calls Tryz.prog 5 #[.int .u64 (ix : Int), .int .u64 (tm : Int), .slice A n c, .int .u64 (i : Int), .int .u64 (t : Int)] w (True_ w) := by
  have q := logTest
  have HG := Lib.hid (grown_any ix tm w (Nat.le_refl _) h)
  clear h
  go_enter Tryz.func5, Tryz.ntmps5
  go_wp2_with fail
  refine HG.out.mono ?_
  rintro e w1 ⟨p, r, F, k, rfl, htw, hF, hlen, -, hb⟩
  generalize growL ⟨ix % 1000, tm % 1000, []⟩ l k = s at *
  have HTW := Lib.hid htw
  have HB1 := Lib.hid hb
  have HLEN := Lib.hid hlen
  clear htw hF hlen hb HG
  go_wp2_with fail
  refine (answers_any _).mono ?_
  rintro e w2 ⟨rfl, hb⟩
  have HTW2 := Lib.hid (HTW.out.below hb)
  have HB2 := Lib.hid (By.ext HB1.out hb)
  clear hb HTW
  obtain ⟨v0, S0, hl0, -⟩ := HTW2.out.code
  obtain ⟨u0, T0, hr0⟩ := HTW2.out.ref
  have HH := Lib.hid (hint_any w2 hl0 i t (by have := HLEN.out; omega))
  obtain ⟨k1, k2, k3⟩ := hint_ok hl0.ok.inv i t
  obtain ⟨K, hK⟩ : ∃ K, K = hintL s i t := ⟨_, rfl⟩
  rw [← hK] at HH k1 k2 k3
  obtain ⟨K1, K2⟩ := K
  dsimp only at k1 k2 k3
  have HF := Lib.hid (fun W (hW : Below w2.heap.size w2 W) => fits_any W (hl0.below hW) K1 K2)
  rw [k1] at HF
  have HK3 := Lib.hid k3
  have HR0 := Lib.hid hr0
  unfold pairV at HH
  dsimp only at HH
  obtain ⟨Ar, cr, rfl⟩ := hr0.form
  obtain ⟨N, hN⟩ : ∃ N, N = s.es.length := ⟨_, rfl⟩
  rw [← hN] at HR0
  have HN := Lib.hid hN
  have hN47 : N ≤ 943718400 := by rw [hN]; exact HLEN.out
  have HK2 := Lib.hid k2
  clear k1 k2 k3 hK hl0 hr0 hN
  go_wp2_with fail
  refine HH.out.mono ?_
  rintro e w3 ⟨rfl, hb⟩
  have HW3 := Lib.hid hb
  clear hb HH
  have HCELL := Lib.hid (fun W (hW : Below w2.heap.size w2 W) => (HR0.out.below hW).cells)
  have HF3 := Lib.hid (HF.out _ HW3.out)
  clear HF
  go_upto_region 5 with fail
  go_cut [59] (fun b wx => b = .bool false ∧ Below w2.heap.size w2 wx)
  case first =>
    by_cases g1 : K1 = s.ix
    · have g1b : ((K1 : Int) == (s.ix : Int)) = true := beq_iff_eq.2 (by omega)
      have g1c : ((K1 : Int) != (s.ix : Int)) = false := by unfold bne; rw [g1b]; rfl
      clear g1
      go_wp2_with (go_at_call 21; refine HF3.out.mono ?_; rintro e w4 ⟨rfl, hb⟩; have HW4 := Lib.hid (By.ext HW3.out hb); obtain ⟨c0, c1, c2⟩ := HCELL.out w4 HW4.out; clear hb)
      go_meet
      exact ⟨rfl, HW4.out⟩
    · obtain ⟨g2, g3⟩ : K1 ≤ i ∧ K2 ≤ t := by rcases HK2.out with h | h; exact absurd h g1; exact h
      have g1b : ((K1 : Int) == (s.ix : Int)) = false := beq_eq_false_iff_ne.2 (by omega)
      have g1c : ((K1 : Int) != (s.ix : Int)) = true := by unfold bne; rw [g1b]; rfl
      have g2b : ¬ (i : Int) < (K1 : Int) := by omega
      have g3b : ¬ (t : Int) < (K2 : Int) := by omega
      clear g1
      go_wp2_with (go_at_call 21; refine HF3.out.mono ?_; rintro e w4 ⟨rfl, hb⟩; have HW4 := Lib.hid (By.ext HW3.out hb); obtain ⟨c0, c1, c2⟩ := HCELL.out w4 HW4.out; clear hb)
      go_meet
      exact ⟨by rw [decide_eq_false (show ¬ i < K1 by omega), decide_eq_false (show ¬ t < K2 by omega)]; rfl, HW4.out⟩
  case rest =>
    obtain ⟨rfl, hcb⟩ := hcut
    have HW4 := Lib.hid hcb
    clear hcb HF3
    go_wp2
    go_loopw [15] (fun j wr => ∃ m : Nat, m ≤ N ∧ j = .int .i64 (m : Int) ∧ Below w2.heap.size w2 wr) (fun j _ => N - (intOf j).toNat)
    case atStart => exact ⟨0, Nat.zero_le _, rfl, HW4.out⟩
    case round =>
      obtain ⟨m, hm, rfl, hbr⟩ := hrel
      have HBR := Lib.hid hbr
      have h5 := HR0.out.below hbr
      obtain ⟨c0, c1, c2⟩ := h5.cells
      by_cases hmN : m < N
      · obtain ⟨x, hx⟩ : ∃ x, s.es[m]? = some x := ⟨_, List.getElem?_eq_getElem (by have := HN.out; omega)⟩
        obtain ⟨b, c', Ad, cd, hA, -, hbl, ⟨e0, e1, e2, e3, e4⟩, -⟩ := h5.ent hx
        simp only [Value.slice.injEq] at hA
        obtain ⟨rfl, -, -⟩ := hA
        have HNO := Lib.hid (HK3.out x (List.mem_of_getElem? hx))
        have hm1 : (m : Int) < (N : Int) := by omega
        clear h5 hx hbr hbl
        go_upto_region 11 with fail
        have hr1 := heap_alloc_new wr (.cells #[.int .u64 (x.ix : Int), .int .u64 (x.tm : Int), .int .i64 x.kd, .int .i64 x.dl, .slice Ad x.da.length cd] tApi)
        have hb1 : Below wr.heap.size wr (wr.alloc (.cells #[.int .u64 (x.ix : Int), .int .u64 (x.tm : Int), .int .i64 x.kd, .int .i64 x.dl, .slice Ad x.da.length cd] tApi)) := (Below.refl _ _).alloc (Nat.le_refl _) _
        change Code.wp _ _ _ _ (wr.alloc (.cells #[.int .u64 (x.ix : Int), .int .u64 (x.tm : Int), .int .i64 x.kd, .int .i64 x.dl, .slice Ad x.da.length cd] tApi))
        generalize wr.alloc (.cells #[.int .u64 (x.ix : Int), .int .u64 (x.tm : Int), .int .i64 x.kd, .int .i64 x.dl, .slice Ad x.da.length cd] tApi) = wa at hr1 hb1 ⊢
        have y0 : wa.cell? ⟨wr.heap.size, 0, none⟩ = some (.int .u64 (x.ix : Int)) := by rw [cell_of_row wa _ 0 _ _ _ hr1]; rfl
        have y1 : wa.cell? ⟨wr.heap.size, 1, none⟩ = some (.int .u64 (x.tm : Int)) := by rw [cell_of_row wa _ 1 _ _ _ hr1]; rfl
        have HWA := Lib.hid (By.ext HBR.out hb1)
        clear hr1 hb1 e0 e1 e2 e3 e4 c0 c1 c2
        by_cases g1 : K1 < x.ix
        · have g1b : (K1 : Int) < (x.ix : Int) := by omega
          by_cases g2 : x.ix ≤ i
          · have g2b : (x.ix : Int) ≤ (i : Int) := by omega
            have g3b : ¬ (x.tm : Int) ≤ (t : Int) := fun hh => HNO.out ⟨g1, g2, by omega⟩
            clear g1 g2
            go_wp2
            go_roundw
            case rel => exact ⟨m + 1, by omega, by go_num, HWA.out⟩
            case measure => simp [intOf]; omega
          · have g2b : ¬ (x.ix : Int) ≤ (i : Int) := by omega
            clear g1 g2
            go_wp2
            go_roundw
            case rel => exact ⟨m + 1, by omega, by go_num, HWA.out⟩
            case measure => simp [intOf]; omega
        · have g1b : ¬ (K1 : Int) < (x.ix : Int) := by omega
          clear g1
          go_wp2
          go_roundw
          case rel => exact ⟨m + 1, by omega, by go_num, HWA.out⟩
          case measure => simp [intOf]; omega
      · have hm1 : ¬ (m : Int) < (N : Int) := by omega
        clear h5 hbr
        go_wp2
        go_ret
        exact ⟨rfl, By.ext HB2.out HBR.out⟩
end Go.Proofs.YtlkepkagbhibhaaGreat.Rg
