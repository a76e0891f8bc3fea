/- The law PostActs, walked. -/
import Derived.Test.YtenaecpmmbigdaaPoT
namespace Go.Proofs.Ytenaecpmmbigdaa.Po
open Go.RowKit Go.Maps By Mp

theorem ptrTestN (w : World) (a : Option Addr) : (binOp .neq 23 (.pointer a) (.pointer none)).run Try.prog w = .ok (.bool a.isSome) w := by
  cases a with
  | none => kernel_rfl
  | some a => kernel_rfl
theorem ref_new (w : World) (room : Int) (h : 0 ≤ room ∧ room ≤ 4096) : RefIs (w.alloc (.cells #[.int .i64 room, .slice none 0 0, .slice none 0 0] tRP)) w.heap.size ⟨[], [], room⟩ (fun b => b = w.heap.size) :=
  ⟨.slice none 0 0, .slice none 0 0, [], ⟨heap_alloc_new w _, World.ownsRow_nil _ _ _ _, rfl, (fun k x v h _ => by cases h), World.ownsRow_nil _ _ _ _, rfl, (fun b h => by cases h), (fun b h => by cases h), (fun b h => by
    have h : b = w.heap.size := h
    rw [World.size_alloc]; omega), ⟨h, h.1, (fun x h => by cases h), List.nodup_nil, (fun x h => by cases h)⟩⟩⟩
/-- A new post and a new one of the reference's. -/
theorem two_new {w w1 : World} {room : Int} (h : 0 ≤ room ∧ room ≤ 4096) (hp : PostIs w1 w.heap.size ⟨[], [], room⟩ (fun b => b = w.heap.size)) :
    Two (w1.alloc (.cells #[.int .i64 room, .slice none 0 0, .slice none 0 0] tRP)) w.heap.size w1.heap.size ⟨[], [], room⟩ ⟨[], [], room⟩ (fun b => b = w.heap.size) (fun b => b = w1.heap.size) :=
  ⟨hp.below ((Below.refl _ _).alloc (Nat.le_refl _) _), ref_new w1 room h, fun b h1 h2 => by
    have h1 : b = w.heap.size := h1
    have h2 : b = w1.heap.size := h2
    have := hp.lt (b := w.heap.size) rfl
    omega⟩
/-- Post and reference's of the call's own. -/
structure Mine (w : World) (g r : Nat) (p q : P8) (S T : Nat → Prop) (wr : World) : Prop where
  two : Two wr g r p q S T
  s : ∀ b, S b → w.heap.size ≤ b
  t : ∀ b, T b → w.heap.size ≤ b
  below : Below w.heap.size w wr
theorem Mine.astep {w wr w2 : World} {g r : Nat} {p q p' q' : P8} {S T S2 T2 : Nat → Prop} (h : Mine w g r p q S T wr) (h2 : Two w2 g r p' q' S2 T2) (hs : ∀ b, S2 b → S b ∨ wr.heap.size ≤ b) (ht : ∀ b, T2 b → T b ∨ wr.heap.size ≤ b) (hk : Kept (fun b => S b ∨ T b) wr w2) : Mine w g r p' q' S2 T2 w2 := by
  have hz := h.below.size
  refine ⟨h2, fun b hb => ?_, fun b hb => ?_, h.below.trans (hk.below hz (fun b hb => hb.elim (h.s b) (h.t b)))⟩
  · rcases hs b hb with e | e
    · exact h.s b e
    · omega
  · rcases ht b hb with e | e
    · exact h.t b e
    · omega
theorem Mine.more {w wr w2 : World} {g r : Nat} {p q : P8} {S T : Nat → Prop} (h : Mine w g r p q S T wr) (hb : Below wr.heap.size wr w2) : Mine w g r p q S T w2 := ⟨h.two.below hb, h.s, h.t, By.ext h.below hb⟩
theorem Mine.copy {w wr w2 : World} {g r g2 : Nat} {p q : P8} {S T S2 : Nat → Prop} (h : Mine w g r p q S T wr) (hp : PostIs w2 g2 p S2) (hs : ∀ b, S2 b → wr.heap.size ≤ b) (hb : Below wr.heap.size wr w2) : Mine w g2 r p q S2 T w2 :=
  ⟨⟨hp, h.two.ref.below hb, fun b h1 h2 => by have := hs b h1; have := h.two.ref.lt h2; omega⟩, fun b hb2 => Nat.le_trans h.below.size (hs b hb2), h.t, By.ext h.below hb⟩
set_option maxRecDepth 100000 in
set_option maxHeartbeats 4000000 in
theorem postActs_bad (room : Int) (A : Option Addr) (c : Nat) (l : List A8) (w : World) (hr : ¬ (0 ≤ room ∧ room ≤ 4096)) : Calls Try.prog 3 #[.int .i64 room, .slice A l.length c] w (True_ w) := by
  have HN := Lib.hid (new_bad room w hr)
  have q1 := ptrTest
  have q2 := ptrTestN
  go_enter Try.func3, Try.ntmps3
  go_wp2_with fail
  refine HN.out.mono ?_
  rintro e w1 ⟨rfl, hb1⟩
  have HA := Lib.hid (answers_any (w1.alloc (.cells #[.int .i64 room, .slice none 0 0, .slice none 0 0] tRP)))
  have HB1 := Lib.hid (hb1.alloc hb1.size (.cells #[.int .i64 room, .slice none 0 0, .slice none 0 0] tRP))
  clear hb1 HN
  go_wp2_with fail
  refine HA.out.mono ?_
  rintro e w2 ⟨rfl, hb2⟩
  have HB2 := Lib.hid (By.ext HB1.out hb2)
  clear hb2 HA
  by_cases h0 : 0 ≤ room
  · have h1 : ¬ room ≤ 4096 := by omega
    clear hr
    go_wp2
    go_loopw [5, 8] (fun v i wr => v = .pointer none ∧ i = .int .i64 0 ∧ wr = w2) (fun _ _ _ => 0)
    case atStart => exact ⟨rfl, rfl, rfl⟩
    case round =>
      obtain ⟨rfl, rfl, rfl⟩ := hrel
      by_cases hl : 0 < l.length
      · have hli : (0 : Int) < (l.length : Int) := by omega
        go_wp2
        go_ret
        exact ⟨rfl, HB2.out⟩
      · have hli : ¬ (0 : Int) < (l.length : Int) := by omega
        have hd1 : decide ((0 : Int) < (l.length : Int)) = false := decide_eq_false hli
        have hd2 : decide (0 < l.length) = false := decide_eq_false hl
        go_wp2
        go_ret
        exact ⟨rfl, HB2.out⟩
  · clear hr
    go_wp2
    go_loopw [5, 8] (fun v i wr => v = .pointer none ∧ i = .int .i64 0 ∧ wr = w2) (fun _ _ _ => 0)
    case atStart => exact ⟨rfl, rfl, rfl⟩
    case round =>
      obtain ⟨rfl, rfl, rfl⟩ := hrel
      by_cases hl : 0 < l.length
      · have hli : (0 : Int) < (l.length : Int) := by omega
        go_wp2
        go_ret
        exact ⟨rfl, HB2.out⟩
      · have hli : ¬ (0 : Int) < (l.length : Int) := by omega
        have hd1 : decide ((0 : Int) < (l.length : Int)) = false := decide_eq_false hli
        have hd2 : decide (0 < l.length) = false := decide_eq_false hl
        go_wp2
        go_ret
        exact ⟨rfl, HB2.out⟩
set_option maxRecDepth 100000 in
set_option maxHeartbeats 8000000 in
theorem postActs_ok (room : Int) (A : Option Addr) (c : Nat) (l : List A8) (w : World) (hl : LiesA w w.heap.size A l) (ho : ActsOk l) (hlm : l.length ≤ 1048576) (h0 : 0 ≤ room) (h1 : room ≤ 4096) : Calls Try.prog 3 #[.int .i64 room, .slice A l.length c] w (True_ w) := by
  have HN := Lib.hid (new_ok room w h0 h1)
  have HRM := Lib.hid (And.intro h0 h1)
  have HL := Lib.hid hl
  have HO := Lib.hid ho
  have q1 := ptrTest
  have q2 := ptrTestN
  have hlm2 : (l.length : Int) ≤ 1048576 := by omega
  clear hl ho hlm
  go_enter Try.func3, Try.ntmps3
  go_wp2_with fail
  refine HN.out.mono ?_
  rintro e w1 ⟨rfl, hp1, hb1⟩
  have HA := Lib.hid (answers_any (w1.alloc (.cells #[.int .i64 room, .slice none 0 0, .slice none 0 0] tRP)))
  have HM1 := Lib.hid (show Mine w w.heap.size w1.heap.size _ _ _ _ _ from ⟨two_new HRM.out hp1, fun b h => Nat.le_of_eq (show w.heap.size = b from Eq.symm h), fun b h => by have h : b = w1.heap.size := h; rw [h]; exact hb1.size, hb1.alloc hb1.size _⟩)
  clear hb1 hp1 HN
  go_wp2_with fail
  refine HA.out.mono ?_
  rintro e w2 ⟨rfl, hb2⟩
  have HM2 := Lib.hid (HM1.out.more hb2)
  clear hb2 HA HM1
  obtain ⟨r, hr⟩ : ∃ r, r = w1.heap.size := ⟨_, rfl⟩
  rw [← hr] at HM2 ⊢
  clear hr
  go_wp2
  go_loopw [5, 8] (fun v i wr => ∃ (k : Nat) (p : P8) (g : Nat) (S T : Nat → Prop), k ≤ l.length ∧ v = .pointer (some ⟨g, 0, none⟩) ∧ i = .int .i64 (k : Int) ∧ Mine w g r p p S T wr) (fun _ i _ => l.length - (intOf i).toNat)
  case atStart => exact ⟨0, _, _, _, _, Nat.zero_le _, rfl, rfl, HM2.out⟩
  case round =>
    obtain ⟨k, p, g, S, T, hk, rfl, rfl, hm⟩ := hrel
    have HM := Lib.hid hm
    clear hm
    by_cases hlt : k < l.length
    · by_cases h200 : (k : Int) < 200
      · obtain ⟨x, hx⟩ : ∃ x, l[k]? = some x := ⟨_, List.getElem?_eq_getElem hlt⟩
        have hla := HL.out.below HM.out.below
        obtain ⟨ag, ao, Ax, cx, rfl, hag, c0, c1, c2, c3, hlx⟩ := hla.at_ hx
        have HX := Lib.hid hx
        have HLX := Lib.hid hlx
        have HLA := Lib.hid hla
        clear hx hlx hla
        by_cases h6 : x.kind = 6
        · have hb6 : (x.kind == 6) = true := beq_iff_eq.2 h6
          have HC := Lib.hid (copy_any g p S wr HM.out.two.post)
          have HK6 := Lib.hid h6
          clear h6
          go_wp2_with fail
          refine HC.out.mono ?_
          rintro e w4 ⟨g4, S4, rfl, hp4, hs4, hb4⟩
          have HM4 := Lib.hid (HM.out.copy hp4 hs4 hb4)
          obtain ⟨ag2, ao2, Ax2, cx2, e2, -, d0, d1, d2, d3, hlx⟩ := (HL.out.below HM4.out.below).at_ HX.out
          injection e2 with e2
          injection e2 with e2 e3
          subst e2 e3
          have HLX := Lib.hid hlx
          clear hp4 hs4 hb4 hlx HC c0 c1 c2 c3 hb6
          have HACT := Lib.hid (act_any g4 r p p S4 T w.heap.size x Ax2 x.d.length cx2 w4 HM4.out.two rfl (HO.out x (List.mem_of_getElem? HX.out)).data HLX.out HM4.out.below.size HM4.out.s HM4.out.t)
          go_wp2_with fail
          refine HACT.out.mono ?_
          rintro e w5 hb
          obtain ⟨rfl, S5, T5, ht5, hs5, hr5, hk5⟩ := hb.yes (by first | rfl | trivial)
          have HM5 := Lib.hid (HM4.out.astep ht5 hs5 hr5 hk5)
          have HAL := Lib.hid (alike_any g4 r (actP p x) S5 T5 w5 ht5)
          clear ht5 hs5 hr5 hk5 hb HACT
          go_wp2_with fail
          refine HAL.out.mono ?_
          rintro e w6 ⟨rfl, S6, T6, ht6, hs6, hr6, hk6⟩
          have HM6 := Lib.hid (HM5.out.astep ht6 hs6 hr6 hk6)
          clear ht6 hs6 hr6 hk6 HAL
          go_wp2
          go_roundw
          case rel => exact ⟨k + 1, actP p x, g4, S6, T6, by omega, rfl, by go_num, HM6.out⟩
          case measure => simp [intOf]; omega
        · have hb6 : (x.kind == 6) = false := beq_eq_false_iff_ne.2 h6
          clear h6
          have HACT := Lib.hid (act_any g r p p S T w.heap.size x Ax x.d.length cx wr HM.out.two rfl (HO.out x (List.mem_of_getElem? HX.out)).data HLX.out HM.out.below.size HM.out.s HM.out.t)
          go_wp2_with fail
          refine HACT.out.mono ?_
          rintro e w5 hb
          obtain ⟨rfl, S5, T5, ht5, hs5, hr5, hk5⟩ := hb.yes (by first | rfl | trivial)
          have HM5 := Lib.hid (HM.out.astep ht5 hs5 hr5 hk5)
          have HAL := Lib.hid (alike_any g r (actP p x) S5 T5 w5 ht5)
          clear ht5 hs5 hr5 hk5 hb HACT
          go_wp2_with fail
          refine HAL.out.mono ?_
          rintro e w6 ⟨rfl, S6, T6, ht6, hs6, hr6, hk6⟩
          have HM6 := Lib.hid (HM5.out.astep ht6 hs6 hr6 hk6)
          clear ht6 hs6 hr6 hk6 HAL
          go_wp2
          go_roundw
          case rel => exact ⟨k + 1, actP p x, g, S6, T6, by omega, rfl, by go_num, HM6.out⟩
          case measure => simp [intOf]; omega
      · have hd1 : decide ((k : Int) < 200) = false := decide_eq_false h200
        have hd2 : decide (k < 200) = false := decide_eq_false (by omega)
        go_wp2
        go_ret
        exact ⟨rfl, HM.out.below⟩
    · have hd1 : decide ((k : Int) < (l.length : Int)) = false := decide_eq_false (by omega)
      have hd2 : decide (k < l.length) = false := decide_eq_false hlt
      go_wp2
      go_ret
      exact ⟨rfl, HM.out.below⟩
theorem postActs_any (room : Int) (A : Option Addr) (c : Nat) (l : List A8) (w : World) (hl : LiesA w w.heap.size A l) (ho : ActsOk l) (hlm : l.length ≤ 1048576) : Calls Try.prog 3 #[.int .i64 room, .slice A l.length c] w (True_ w) := by
  by_cases h : 0 ≤ room ∧ room ≤ 4096
  · exact postActs_ok room A c l w hl ho hlm h.1 h.2
  · exact postActs_bad room A c l w h
end Go.Proofs.Ytenaecpmmbigdaa.Po
