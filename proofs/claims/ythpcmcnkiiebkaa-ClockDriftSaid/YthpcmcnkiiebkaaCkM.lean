/- The law ClockActs, walked. -/
import Derived.Test.YthpcmcnkiiebkaaCkJ
namespace Go.Proofs.Ythpcmcnkiiebkaa.Ck
open Go.RowKit Go.Maps By Mp SumP SumW

theorem actBytes : Try.prog.bytesOf tAct = 32 := by kernel_rfl
/-- Clocks, and the reference's, both of the call's own. -/
structure Mine (w : World) (g r : Nat) (c : C9) (S T : Nat → Prop) (wr : World) : Prop where
  two : Two wr g r c S T
  s : ∀ b, S b → w.heap.size ≤ b
  t : ∀ b, T b → w.heap.size ≤ b
  below : Below w.heap.size w wr
theorem Mine.more {w wr w2 : World} {g r : Nat} {c : C9} {S T : Nat → Prop} (h : Mine w g r c S T wr) (hb : Below wr.heap.size wr w2) : Mine w g r c S T w2 := ⟨h.two.below hb, h.s, h.t, By.ext h.below hb⟩
theorem Mine.copy {w wr w2 : World} {g r g2 : Nat} {c : C9} {S T S2 : Nat → Prop} (h : Mine w g r c S T wr) (hp : ClkIs w2 g2 c S2) (hs : ∀ b, S2 b → wr.heap.size ≤ b) (hb : Below wr.heap.size wr w2) : Mine w g2 r c S2 T w2 :=
  ⟨⟨hp, h.two.ref.below hb, fun b h1 h2 => by have := hs b h1; have := h.two.ref.lt b h2; omega⟩, fun b hb2 => Nat.le_trans h.below.size (hs b hb2), h.t, By.ext h.below hb⟩
theorem Mine.astep {w wr w2 : World} {g r : Nat} {c c' : C9} {S T S2 T2 : Nat → Prop} (h : Mine w g r c S T wr) (h2 : Two w2 g r c' S2 T2) (hs : ∀ b, S2 b → S b ∨ wr.heap.size ≤ b) (ht : ∀ b, T2 b → T b ∨ wr.heap.size ≤ b) (hk : Kept (fun b => S b ∨ T b) wr w2) : Mine w g r c' S2 T2 w2 := by
  have hz := h.below.size
  refine ⟨h2, fun b hb => ?_, fun b hb => ?_, h.below.trans (hk.below hz (fun b hb => hb.elim (h.s b) (h.t b)))⟩
  · rcases hs b hb with e | e
    · exact h.s b e
    · omega
  · rcases ht b hb with e | e
    · exact h.t b e
    · omega
set_option maxRecDepth 100000 in
set_option maxHeartbeats 4000000 in
theorem clockActs_bad (n m rho : Int) (A : Option Addr) (c : Nat) (l : List A9) (w : World) (hr : ¬ okNew n m rho) : Calls Try.prog 3 #[.int .i64 n, .int .i64 m, .int .i64 rho, .slice A l.length c] w (True_ w) := by
  have HN := Lib.hid (new_bad n m rho hr w)
  have HR := Lib.hid (rnew_bad n m rho hr w)
  have HA := Lib.hid (answers_any w)
  have q1 := ptrTest
  have q2 := ptrTestN
  clear hr
  go_enter Try.func3, Try.ntmps3
  go_wp2_with fail
  refine HN.out.mono ?_
  rintro e w' ⟨rfl, rfl⟩
  go_wp2_with fail
  refine HR.out.mono ?_
  rintro e w' ⟨rfl, rfl⟩
  go_wp2_with fail
  refine HA.out.mono ?_
  rintro e w2 ⟨rfl, hb2⟩
  have HB2 := Lib.hid hb2
  clear hb2 HA HR HN
  go_wp2
  go_loopw [9, 13] (fun v i wr => v = .pointer none ∧ i = .int .i64 0 ∧ wr = w2) (fun _ _ _ => 0)
  case atStart => exact ⟨rfl, rfl, rfl⟩
  case round =>
    obtain ⟨rfl, rfl, rfl⟩ := hrel
    by_cases hl : 0 < l.length
    · have hli : (0 : Int) < (l.length : Int) := by omega
      go_wp2
      go_ret
      exact ⟨rfl, HB2.out⟩
    · have hli : ¬ (0 : Int) < (l.length : Int) := by omega
      have hd1 : decide ((0 : Int) < (l.length : Int)) = false := decide_eq_false hli
      have hd2 : decide (0 < l.length) = false := decide_eq_false hl
      go_wp2
      go_ret
      exact ⟨rfl, HB2.out⟩
set_option maxRecDepth 100000 in
set_option maxHeartbeats 8000000 in
theorem clockActs_ok (n m : Nat) (rho : Int) (A : Option Addr) (c : Nat) (l : List A9) (w : World) (hl : LiesA w w.heap.size A l) (ho : ActsOk l) (hlm : l.length ≤ 140737488355328) (hr : okNew n m rho) : Calls Try.prog 3 #[.int .i64 (n : Int), .int .i64 (m : Int), .int .i64 rho, .slice A l.length c] w (True_ w) := by
  have HN := Lib.hid (new_good n m rho hr w)
  have HR := Lib.hid (fun w => rnew_good n m rho hr w)
  have HL := Lib.hid hl
  have HO := Lib.hid ho
  have q1 := ptrTest
  have q2 := ptrTestN
  have hlm2 : (l.length : Int) ≤ 140737488355328 := by omega
  clear hl ho hlm hr
  go_enter Try.func3, Try.ntmps3
  go_wp2_with fail
  refine HN.out.mono ?_
  rintro e w1 ⟨g, S, rfl, hc1, hs1, hb1⟩
  have HC1 := Lib.hid (And.intro hc1 (And.intro hs1 hb1))
  clear hc1 hs1 hb1
  go_wp2_with fail
  refine (HR.out w1).mono ?_
  rintro e w2 ⟨r, T, rfl, hr2, ht2, hb2⟩
  have HM2 := Lib.hid (show Mine w g r (begun n m rho) S T w2 from ⟨⟨HC1.out.1.below hb2, hr2, fun b h1 h2 => by have := ht2 b h2; have := HC1.out.1.lt b h1; omega⟩, HC1.out.2.1, fun b hb => Nat.le_trans HC1.out.2.2.size (ht2 b hb), By.ext HC1.out.2.2 hb2⟩)
  have HA := Lib.hid (answers_any w2)
  clear hr2 ht2 hb2 HC1 HN HR
  go_wp2_with fail
  refine HA.out.mono ?_
  rintro e w3 ⟨rfl, hb3⟩
  have HM3 := Lib.hid (HM2.out.more hb3)
  clear hb3 HA HM2
  go_wp2
  go_loopw [9, 13] (fun v i wr => ∃ (k : Nat) (p : C9) (g : Nat) (S T : Nat → Prop), k ≤ l.length ∧ k ≤ 200 ∧ v = .pointer (some ⟨g, 0, none⟩) ∧ i = .int .i64 (k : Int) ∧ Mine w g r p S T wr) (fun _ i _ => l.length - (intOf i).toNat)
  case atStart => exact ⟨0, _, _, _, _, Nat.zero_le _, by omega, rfl, rfl, HM3.out⟩
  case round =>
    clear HM3
    obtain ⟨k, p, g, S, T, hk, hk2, rfl, rfl, hm⟩ := hrel
    have HM := Lib.hid hm
    clear hm
    by_cases hlt : k < l.length
    · by_cases h200 : (k : Int) < 200
      · obtain ⟨x, hx⟩ : ∃ x, l[k]? = some x := ⟨_, List.getElem?_eq_getElem hlt⟩
        have hla := HL.out.below HM.out.below
        obtain ⟨ag, ao, rfl, hag, c0, c1, c2, c3⟩ := hla.at_ hx
        have HX := Lib.hid hx
        clear hx hla
        by_cases h6 : x.kind = 3
        · have hb6 : (x.kind == 3) = true := beq_iff_eq.2 h6
          have HC := Lib.hid (copy_any g p S wr HM.out.two.clk)
          clear h6
          go_wp2_with fail
          refine HC.out.mono ?_
          rintro e w4 ⟨g4, S4, rfl, hp4, hs4, hb4⟩
          have HM4 := Lib.hid (HM.out.copy hp4 hs4 hb4)
          obtain ⟨ag2, ao2, e2, -, d0, d1, d2, d3⟩ := (HL.out.below HM4.out.below).at_ HX.out
          injection e2 with e2
          injection e2 with e2 e3
          subst e2 e3
          clear hp4 hs4 hb4 HC c0 c1 c2 c3 hb6
          have HACT := Lib.hid (act_any g4 r p S4 T w4 HM4.out.two x (HO.out x (List.mem_of_getElem? HX.out)))
          go_wp2_with fail
          refine HACT.out.mono ?_
          rintro e w5 ⟨rfl, S5, T5, ht5, hs5, hr5, hk5⟩
          have HM5 := Lib.hid (HM4.out.astep ht5 hs5 hr5 hk5)
          have HAL := Lib.hid (alike_any g4 r (actC p x) S5 T5 w5 ht5)
          clear ht5 hs5 hr5 hk5 HACT
          go_wp2_with fail
          refine HAL.out.mono ?_
          rintro e w6 ⟨rfl, hb6⟩
          have HM6 := Lib.hid (HM5.out.more hb6)
          clear hb6 HAL
          go_wp2
          go_roundw
          case rel => exact ⟨k + 1, actC p x, g4, S5, T5, by omega, by omega, rfl, by go_num, HM6.out⟩
          case measure => simp [intOf]; omega
        · have hb6 : (x.kind == 3) = false := beq_eq_false_iff_ne.2 h6
          clear h6
          have HACT := Lib.hid (act_any g r p S T wr HM.out.two x (HO.out x (List.mem_of_getElem? HX.out)))
          go_wp2_with fail
          refine HACT.out.mono ?_
          rintro e w5 ⟨rfl, S5, T5, ht5, hs5, hr5, hk5⟩
          have HM5 := Lib.hid (HM.out.astep ht5 hs5 hr5 hk5)
          have HAL := Lib.hid (alike_any g r (actC p x) S5 T5 w5 ht5)
          clear ht5 hs5 hr5 hk5 HACT
          go_wp2_with fail
          refine HAL.out.mono ?_
          rintro e w6 ⟨rfl, hb6⟩
          have HM6 := Lib.hid (HM5.out.more hb6)
          clear hb6 HAL
          go_wp2
          go_roundw
          case rel => exact ⟨k + 1, actC p x, g, S5, T5, by omega, by omega, rfl, by go_num, HM6.out⟩
          case measure => simp [intOf]; omega
      · have hd1 : decide ((k : Int) < 200) = false := decide_eq_false h200
        have hd2 : decide (k < 200) = false := decide_eq_false (by omega)
        go_wp2
        go_ret
        exact ⟨rfl, HM.out.below⟩
    · have hd1 : decide ((k : Int) < (l.length : Int)) = false := decide_eq_false (by omega)
      have hd2 : decide (k < l.length) = false := decide_eq_false hlt
      go_wp2
      go_ret
      exact ⟨rfl, HM.out.below⟩
theorem clockActs_any (n m rho : Int) (A : Option Addr) (c : Nat) (l : List A9) (w : World) (hl : LiesA w w.heap.size A l) (ho : ActsOk l) (hlm : l.length ≤ 140737488355328) : Calls Try.prog 3 #[.int .i64 n, .int .i64 m, .int .i64 rho, .slice A l.length c] w (True_ w) := by
  by_cases h : okNew n m rho
  · have h2 := h
    obtain ⟨h0, h1, h2, h3, h4, h5⟩ := h
    obtain ⟨N, rfl⟩ : ∃ N : Nat, n = N := ⟨n.toNat, by omega⟩
    obtain ⟨M, rfl⟩ : ∃ M : Nat, m = M := ⟨m.toNat, by omega⟩
    exact clockActs_ok N M rho A c l w hl ho hlm (by assumption)
  · exact clockActs_bad n m rho A c l w h
end Go.Proofs.Ythpcmcnkiiebkaa.Ck
