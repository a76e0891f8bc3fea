/- The law PostApart, walked. -/
import Derived.Test.YtenaecpmmbigdaaPoX
namespace Go.Proofs.Ytenaecpmmbigdaa.Po
open Go.RowKit Go.Maps By Mp

/-- A block of bytes that may be written. -/
def Raw (wr : World) (b n : Nat) : Prop := ∃ cs m, wr.heap[b]? = some (.cells cs 5 (m, m + 1)) ∧ cs.size = m ∧ n ≤ m
theorem Raw.cell {wr : World} {b n j : Nat} (h : Raw wr b n) (hj : j < n) : ∃ u, wr.cell? ⟨b, j, none⟩ = some u := by
  obtain ⟨cs, m, h1, h2, h3⟩ := h
  exact ⟨_, (cell_of_row wr b j _ _ _ h1).trans (Array.getElem?_eq_getElem (by omega))⟩
theorem Raw.free {wr : World} {b n j : Nat} (h : Raw wr b n) (hj : j < n) : wr.frozen? ⟨b, j, none⟩ = false := by
  obtain ⟨cs, m, h1, h2, h3⟩ := h
  unfold World.frozen?
  simp only [h1]
  rw [decide_eq_false (by omega)]
  rfl
theorem Raw.set {wr : World} {b n j : Nat} (h : Raw wr b n) (v : Value) : Raw (wr.setCell ⟨b, j, none⟩ v) b n := by
  obtain ⟨cs, m, h1, h2, h3⟩ := h
  refine ⟨cs.setIfInBounds j v, m, ?_, by simpa using h2, h3⟩
  simp [World.setCell, Array.getElem?_modify, h1]
theorem Raw.keep {wr w2 : World} {b n : Nat} (h : Raw wr b n) (hb : w2.heap[b]? = wr.heap[b]?) : Raw w2 b n := by
  obtain ⟨cs, m, h1, h2⟩ := h
  exact ⟨cs, m, hb.trans h1, h2⟩
def LookFar (x : L8) (w : World) (e : Ending) (w' : World) : Prop := ∃ b c, e = .returned (.tuple #[.int .i64 x.a, .int .i64 x.b, .slice (some ⟨b, 0, none⟩) x.d.length c, .int .i64 0]) ∧ w.heap.size ≤ b ∧ b < w'.heap.size ∧ Lies w' w'.heap.size (some ⟨b, 0, none⟩) x.d ∧ Raw w' b x.d.length ∧ Below w.heap.size w w'
theorem raw_text (w : World) (l : Bs) : Raw (Lib.bytesWorld w 5 (str l)) w.heap.size l.length := by
  refine ⟨_, _, Lib.bytesWorld_at_new w 5 (str l), rfl, ?_⟩
  rcases Nat.lt_or_ge (Lib.bytesCells w 5 (str l)).size l.length with h | h
  · have h1 := Lib.bytesWorld_cell w 5 (str l) _ (by rw [str_size]; exact h)
    rw [cell_of_row _ _ _ _ _ _ (Lib.bytesWorld_at_new w 5 (str l))] at h1
    simp at h1
  · exact h
set_option maxHeartbeats 1600000 in
theorem look_far (g : Nat) (p : P8) (S : Nat → Prop) (k : Nat) (x : L8) (w : World) (h : PostIs w g p S) (hx : p.l[k]? = some x) : Calls Try.prog 19 #[.pointer (some ⟨g, 0, none⟩), .int .i64 (k : Int)] w (LookFar x w) := by
  have HAT := Lib.hid (at_some g p S k x w h hx)
  clear h hx
  go_enter Try.func19, Try.ntmps19
  go_wp2_with fail
  refine HAT.out.mono ?_
  rintro e w1 ⟨rfl, hb1⟩
  have hcv := conv_any
  have hsz : (str x.d).size = x.d.length := str_size x.d
  obtain ⟨w2, hw2⟩ : ∃ w2, w2 = w1.alloc (.cells #[.int .i64 x.a, .int .i64 x.b, .string (str x.d)] tLet) := ⟨_, rfl⟩
  have hr2 : w2.heap[w1.heap.size]? = some (.cells #[.int .i64 x.a, .int .i64 x.b, .string (str x.d)] tLet (0, 0)) := by rw [hw2]; exact heap_alloc_new w1 _
  have hb2 : Below w.heap.size w w2 := by rw [hw2]; exact hb1.alloc hb1.size _
  obtain ⟨c0, c1, c2⟩ := lcells hr2
  have hb3 := below_text w2.drew x.d
  obtain ⟨d0, d1, d2⟩ := lcells ((hb3.block _ (row_lt hr2)).trans hr2)
  have HFIN := Lib.hid (show LookFar x w (.returned (.tuple #[.int .i64 x.a, .int .i64 x.b, .slice (some ⟨w2.heap.size, 0, none⟩) x.d.length (grownCap w2.drew x.d.length 0 5), .int .i64 0])) (Lib.bytesWorld w2.drew 5 (str x.d)) from
    ⟨_, _, rfl, hb2.size, by rw [Lib.bytesWorld_size]; exact Nat.lt_succ_self _, (lies_text w2.drew x.d).more (by rw [Lib.bytesWorld_size]; exact Nat.le_refl _), raw_text w2.drew x.d, hb2.drew.trans (hb3.mono hb2.size)⟩)
  have HW2 := Lib.hid hw2
  clear hb1 HAT hw2 hr2 hb2 hb3
  go_upto_region 4 with fail
  rw [← HW2.out]
  go_region
  all_goals
    go_wp2
    refine bodyPost_ret (results_tmp4 rfl _ _ _) rfl ?_
    exact HFIN.out
def Worn (base : Nat) (v : Value) (n : Nat) (w wr : World) : Prop := Kept (fun b => v.ownBlock = some b) w wr ∧ ∃ lq : Bs, lq.length = n ∧ Own base wr v lq
theorem Mine.other {w wr w2 : World} {g r Nc : Nat} {p q : P8} {S T M : Nat → Prop} (h : Mine w g r p q S T wr) (hk : Kept M wr w2) (hM : ∀ b, M b → Nc ≤ b) (hST : ∀ b, S b ∨ T b → b < Nc) (hN : w.heap.size ≤ Nc) : Mine w g r p q S T w2 :=
  ⟨⟨h.two.post.keep (fun b hb => hk.block b (h.two.post.lt hb) (fun e => by have := hM b e; have := hST b (.inl hb); omega)) hk.size, h.two.ref.keep (fun b hb => hk.block b (h.two.ref.lt hb) (fun e => by have := hM b e; have := hST b (.inr hb); omega)) hk.size, h.two.sep⟩, h.s, h.t, h.below.trans (hk.below h.below.size (fun b hb => Nat.le_trans hN (hM b hb)))⟩
theorem send_ok {p P1 : P8} {a b : Int} {d : Bs} (h : sendR p a b d = (P1, 0)) : P1 = { p with l := p.l ++ [⟨a, b, d⟩] } := by
  unfold sendR at h
  split at h
  · injection h with h2 h3; cases h3
  split at h
  · injection h with h2 h3; cases h3
  split at h
  · injection h with h2 h3; cases h3
  split at h
  · injection h with h2 h3; cases h3
  · injection h with h2 h3; exact h2.symm
theorem heal_12 (p : P8) : healR p 1 2 = (healP p 1 2, 0) := if_pos (by decide)
/-- The post of the call's own, beside the reference's. -/
theorem Mine.mn {w wr : World} {g r : Nat} {p q : P8} {S T : Nat → Prop} (h : Mine w g r p q S T wr) : Mn w g p S wr := ⟨h.two.post, h.s, h.below⟩
set_option maxRecDepth 100000 in
set_option maxHeartbeats 16000000 in
theorem postApart_any (A1 : Option Addr) (c1 : Nat) (l1 : List A8) (A2 : Option Addr) (c2 : Nat) (l2 : List A8) (A3 : Option Addr) (n c3 : Nat) (d : Bs) (w : World) (hl1 : LiesA w w.heap.size A1 l1) (ho1 : ActsOk l1) (hl2 : LiesA w w.heap.size A2 l2) (ho2 : ActsOk l2) (hn : n = d.length) (hd : d.length ≤ 1048576) (hA : Lies w w.heap.size A3 d) :
    Calls Try.prog 6 #[.slice A1 l1.length c1, .slice A2 l2.length c2, .slice A3 n c3] w (True_ w) := by
  have HN := Lib.hid (new_ok 50 w (by decide) (by decide))
  have q1 := ptrTest
  have q2 := ptrTestN
  have HAN := Lib.hid answers_any
  have HL1 := Lib.hid hl1
  have HO1 := Lib.hid ho1
  have HL2 := Lib.hid hl2
  have HO2 := Lib.hid ho2
  have HND := Lib.hid hn
  have HDD := Lib.hid hd
  have HLD := Lib.hid hA
  clear hl1 ho1 hl2 ho2 hn hd hA
  go_enter Try.func6, Try.ntmps6
  go_wp2_with fail
  refine HN.out.mono ?_
  rintro e w1 ⟨rfl, hp1, hb1⟩
  have hm1 : Mine w w.heap.size w1.heap.size ⟨[], [], 50⟩ ⟨[], [], 50⟩ (fun b => b = w.heap.size) (fun b => b = w1.heap.size) (w1.alloc (.cells #[.int .i64 50, .slice none 0 0, .slice none 0 0] tRP)) := ⟨two_new (by decide) hp1, fun b h => Nat.le_of_eq (show w.heap.size = b from Eq.symm h), fun b h => by have h : b = w1.heap.size := h; rw [h]; exact hb1.size, hb1.alloc hb1.size _⟩
  obtain ⟨w2, hw2⟩ : ∃ w2, w2 = w1.alloc (.cells #[.int .i64 50, .slice none 0 0, .slice none 0 0] tRP) := ⟨_, rfl⟩
  obtain ⟨g, hg⟩ : ∃ g, g = w.heap.size := ⟨_, rfl⟩
  obtain ⟨r, hr⟩ : ∃ r, r = w1.heap.size := ⟨_, rfl⟩
  rw [← hw2, ← hr] at hm1
  have hm2 : Mine w g r ⟨[], [], 50⟩ ⟨[], [], 50⟩ (fun b => b = w.heap.size) (fun b => b = r) w2 := by rw [hg]; exact hm1
  have HM2 := Lib.hid hm2
  have HW2 := Lib.hid hw2
  have HR := Lib.hid hr
  rw [← hg]
  clear hp1 hb1 hm1 hm2 hw2 hr hg HN
  go_upto_block 0 with fail
  rw [← HW2.out, ← HR.out]
  clear HW2 HR
  go_cut [10] (fun _ wx => ∃ P S T, Mine w g r P P S T wx)
  case first =>
    go_upto_region 3 with fail
    go_loopw [10] (fun i wr => ∃ (k : Nat) (P : P8) (S T : Nat → Prop), k ≤ l1.length ∧ i = .int .i64 (k : Int) ∧ Mine w g r P P S T wr) (fun i _ => l1.length - (intOf i).toNat)
    case atStart => exact ⟨0, _, _, _, Nat.zero_le _, rfl, HM2.out⟩
    case round =>
      obtain ⟨k, P, S, T, hk, rfl, hm⟩ := hrel
      have HM := Lib.hid hm
      clear hm
      by_cases hlt : k < l1.length
      · by_cases h100 : (k : Int) < 100
        · have hki : (k : Int) < (l1.length : Int) := by omega
          obtain ⟨x, hx⟩ : ∃ x, l1[k]? = some x := ⟨_, List.getElem?_eq_getElem hlt⟩
          obtain ⟨ag, ao, Ax, cx, hA, hag, d0, d1, d2, d3, hlx⟩ := (HL1.out.below HM.out.below).at_ hx
          subst hA
          have HACT := Lib.hid (act_any g r P P S T w.heap.size x Ax x.d.length cx wr HM.out.two rfl (HO1.out x (List.mem_of_getElem? hx)).data hlx HM.out.below.size HM.out.s HM.out.t)
          clear hlx hx hag
          go_wp2_with fail
          refine HACT.out.mono ?_
          rintro e w5 hb
          obtain ⟨rfl, S5, T5, ht5, hs5, hr5, hk5⟩ := hb.yes (by first | rfl | trivial)
          have HM5 := Lib.hid (HM.out.astep ht5 hs5 hr5 hk5)
          clear ht5 hs5 hr5 hk5 hb HACT
          go_wp2
          go_roundw
          case rel => exact ⟨k + 1, actP P x, S5, T5, by omega, by go_num, HM5.out⟩
          case measure => simp [intOf]; omega
        · have hd1 : decide ((k : Int) < 100) = false := decide_eq_false h100
          have hd2 : decide (k < 100) = false := decide_eq_false (by omega)
          go_wp2
          go_meet
          exact ⟨P, S, T, HM.out⟩
      · have hd1 : decide ((k : Int) < (l1.length : Int)) = false := decide_eq_false (by omega)
        have hd2 : decide (k < l1.length) = false := decide_eq_false hlt
        go_wp2
        go_meet
        exact ⟨P, S, T, HM.out⟩
  obtain ⟨P, S, T, hm⟩ := hcut
  obtain ⟨w3, rfl⟩ : ∃ w3, w3 = wc := ⟨_, rfl⟩
  have HM3 := Lib.hid hm
  have HCP := Lib.hid (copy_any g P S w3 hm.two.post)
  clear hm HM2
  go_wp2_with fail
  refine HCP.out.mono ?_
  rintro e w4 ⟨gc, Sc, rfl, hpc, hsc, hbc⟩
  obtain ⟨w5, hw5⟩ : ∃ w5, w5 = w4.alloc (.cells #[.int .i64 50, .slice none 0 0, .slice none 0 0] tRP) := ⟨_, rfl⟩
  have hb45 : Below w4.heap.size w4 w5 := by rw [hw5]; exact (Below.refl _ _).alloc (Nat.le_refl _) _
  obtain ⟨rx, hrx⟩ : ∃ rx, rx = w4.heap.size := ⟨_, rfl⟩
  have hrf : RefIs w5 rx ⟨[], [], 50⟩ (fun b => b = rx) := by rw [hw5, hrx]; exact ref_new w4 50 (by decide)
  have HM5 := Lib.hid ((HM3.out.more hbc).more hb45)
  have HNC := Lib.hid (show (∀ b, S b ∨ T b → b < w3.heap.size) ∧ w.heap.size ≤ w3.heap.size from ⟨fun b hb => hb.elim (fun e => HM3.out.two.post.lt e) (fun e => HM3.out.two.ref.lt e), HM3.out.below.size⟩)
  have HTW := Lib.hid (show Two w5 gc rx P ⟨[], [], 50⟩ Sc (fun b => b = rx) from ⟨hpc.below hb45, hrf, fun b h1 h2 => by
    have h2 : b = rx := h2
    have := hpc.lt h1
    omega⟩)
  have HSC := Lib.hid hsc
  have HTC := Lib.hid (show ∀ b, b = rx → w3.heap.size ≤ b from fun b hb => by rw [hb, hrx]; exact hbc.size)
  have HW5 := Lib.hid hw5
  have HRX := Lib.hid hrx
  clear hpc hsc hbc hw5 hb45 hrf hrx HCP
  go_upto_block 2 with fail
  rw [← HW5.out, ← HRX.out]
  clear HW5 HRX
  go_cut [13] (fun _ wx => Mine w g r P P S T wx)
  case first =>
    go_upto_region 9 with fail
    go_loopw [13] (fun i wr => ∃ (k : Nat) (C X : P8) (Sc Tx : Nat → Prop), k ≤ l2.length ∧ i = .int .i64 (k : Int) ∧ Two wr gc rx C X Sc Tx ∧ (∀ b, Sc b → w3.heap.size ≤ b) ∧ (∀ b, Tx b → w3.heap.size ≤ b) ∧ Mine w g r P P S T wr) (fun i _ => l2.length - (intOf i).toNat)
    case atStart => exact ⟨0, _, _, _, _, Nat.zero_le _, rfl, HTW.out, HSC.out, HTC.out, HM5.out⟩
    case round =>
      obtain ⟨k, C, X, S4, T4, hk, rfl, htw, hs4, ht4, hm⟩ := hrel
      have HM := Lib.hid hm
      have HTW4 := Lib.hid htw
      have HS4 := Lib.hid hs4
      have HT4 := Lib.hid ht4
      clear hm htw hs4 ht4
      by_cases hlt : k < l2.length
      · by_cases h100 : (k : Int) < 100
        · have hki : (k : Int) < (l2.length : Int) := by omega
          obtain ⟨x, hx⟩ : ∃ x, l2[k]? = some x := ⟨_, List.getElem?_eq_getElem hlt⟩
          obtain ⟨ag, ao, Ax, cx, hA, hag, d0, d1, d2, d3, hlx⟩ := (HL2.out.below HM.out.below).at_ hx
          subst hA
          have HACT := Lib.hid (act_any gc rx C X S4 T4 w.heap.size x Ax x.d.length cx wr HTW4.out rfl (HO2.out x (List.mem_of_getElem? hx)).data hlx HM.out.below.size (fun b hb => Nat.le_trans HNC.out.2 (HS4.out b hb)) (fun b hb => Nat.le_trans HNC.out.2 (HT4.out b hb)))
          clear hlx hx hag
          go_wp2_with fail
          refine HACT.out.mono ?_
          rintro e w6 ⟨bb, rfl, -, S6, T6, ht6, hs6, hr6, hk6⟩
          have HM6 := Lib.hid (HM.out.other hk6 (fun b hb => hb.elim (HS4.out b) (HT4.out b)) HNC.out.1 HNC.out.2)
          have HTW6 := Lib.hid ht6
          have hz3 : w3.heap.size ≤ wr.heap.size := by
            have := HS4.out gc (by obtain ⟨v, mb, h⟩ := HTW4.out.post; exact h.sg)
            have := HTW4.out.post.lt (b := gc) (by obtain ⟨v, mb, h⟩ := HTW4.out.post; exact h.sg)
            omega
          have HS6 := Lib.hid (show ∀ b, S6 b → w3.heap.size ≤ b from fun b hb => (hs6 b hb).elim (HS4.out b) (fun e => Nat.le_trans hz3 e))
          have HT6 := Lib.hid (show ∀ b, T6 b → w3.heap.size ≤ b from fun b hb => (hr6 b hb).elim (HT4.out b) (fun e => Nat.le_trans hz3 e))
          clear ht6 hs6 hr6 hk6 HACT hz3
          go_wp2
          go_roundw
          case rel => exact ⟨k + 1, _, _, S6, T6, by omega, by go_num, HTW6.out, HS6.out, HT6.out, HM6.out⟩
          case measure => simp [intOf]; omega
        · have hd1 : decide ((k : Int) < 100) = false := decide_eq_false h100
          have hd2 : decide (k < 100) = false := decide_eq_false (by omega)
          go_wp2
          go_meet
          exact HM.out
      · have hd1 : decide ((k : Int) < (l2.length : Int)) = false := decide_eq_false (by omega)
        have hd2 : decide (k < l2.length) = false := decide_eq_false hlt
        go_wp2
        go_meet
        exact HM.out
  have hm := hcut
  obtain ⟨w6, rfl⟩ : ∃ w6, w6 = wc := ⟨_, rfl⟩
  have HM6 := Lib.hid hm
  clear hm HM3 HM5 HTW HSC HTC HNC hcut
  go_wp2_with fail
  refine (HAN.out _).mono ?_
  rintro e w7 ⟨rfl, hb⟩
  have HM7 := Lib.hid (HM6.out.more hb)
  have HAL := Lib.hid (alike_any g r P S T w7 (HM6.out.more hb).two)
  clear hb HM6
  go_wp2_with fail
  refine HAL.out.mono ?_
  rintro e w8 ⟨rfl, S8, T8, ht8, hs8, hr8, hk8⟩
  have HM8 := Lib.hid (HM7.out.astep ht8 hs8 hr8 hk8).mn
  have HM7S := Lib.hid (show w.heap.size ≤ w8.heap.size from (HM7.out.astep ht8 hs8 hr8 hk8).below.size)
  clear ht8 hs8 hr8 hk8 HAL HM7
  have hba : Below w8.heap.size w8 (w8.alloc (.cells #[] 5)) := (Below.refl _ _).alloc (Nat.le_refl _) _
  have HBA := Lib.hid hba
  have HLA := Lib.hid (show Lies (w8.alloc (.cells #[] 5)) w.heap.size A3 d from HLD.out.below (HM8.out.below.trans (hba.mono HM8.out.below.size)))
  clear hba
  go_upto_region 16 with (at_builtin; refine wpList_app rfl (.tmp 100) (.tmp 101) rfl rfl (Own.made w8 w8.heap.size #[] 0 (Nat.le_refl _) (by decide) rfl) rfl HND.out HLA.out (by have := HDD.out; show 0 + d.length ≤ _; omega) HBA.out.size ?_; intro v9 w9 ho9 hb9 hg9)
  rw [List.nil_append] at ho9
  obtain ⟨A9, c9, hv9, -⟩ := ho9.form
  subst hv9
  have hb89 : Below w8.heap.size w8 w9 := HBA.out.trans hb9
  have HM9 := Lib.hid (HM8.out.more hb89)
  have HO9 := Lib.hid ho9
  have HF9 := Lib.hid (show ∀ b, (Value.slice A9 d.length c9).ownBlock = some b → ¬ S8 b from fun b hb e => by have := (ownsRow_lt ho9 hb).1; have := HM8.out.post.lt e; omega)
  have HC := Lib.hid (heal_any g P S8 1 2 w9 HM9.out.post)
  rw [heal_12] at HC
  clear ho9 hb9 hg9 hb89 HM8 HBA HLA
  go_wp2_with fail
  refine HC.out.mono ?_
  rintro e w10 hst
  obtain ⟨S10, rfl, hm, hs, hk⟩ := HM9.out.step2 hst
  have HM10 := Lib.hid hm
  have HO10 := Lib.hid (show Own w8.heap.size w10 (.slice A9 d.length c9) d from ownsRow_keep HO9.out (fun b hb => hk.block b (ownsRow_lt HO9.out hb).2 (HF9.out b hb)))
  have HF10 := Lib.hid (show ∀ b, (Value.slice A9 d.length c9).ownBlock = some b → ¬ S10 b from fun b hb e => by
    rcases hs b e with e | e
    · exact HF9.out b hb e
    · have := (ownsRow_lt HO9.out hb).2; omega)
  obtain ⟨P2, E2, hP2⟩ : ∃ P2 E2, sendR (healP P 1 2) 1 2 d = (P2, E2) := ⟨_, _, rfl⟩
  have hl10 : Lies w10 w10.heap.size A9 d := by
    obtain ⟨A', c', hv, -, -, -, hl, -⟩ := HO10.out.form
    injection hv with z1 z2 z3
    rw [z1]; exact hl
  have HC2 := Lib.hid (send_any g (healP P 1 2) S10 1 2 A9 d.length c9 d w10 hm.post rfl hl10)
  rw [hP2] at HC2
  have HP2 := Lib.hid hP2
  clear hm hs hk hst HC hl10 hP2 HM9 HO9 HF9
  go_wp2_with fail
  refine HC2.out.mono ?_
  rintro e w11 hst
  obtain ⟨S11, rfl, hm, hs, hk⟩ := HM10.out.step2 hst
  have HM11 := Lib.hid hm
  have HO11 := Lib.hid (show Own w8.heap.size w11 (.slice A9 d.length c9) d from ownsRow_keep HO10.out (fun b hb => hk.block b (ownsRow_lt HO10.out hb).2 (HF10.out b hb)))
  have HF11 := Lib.hid (show ∀ b, (Value.slice A9 d.length c9).ownBlock = some b → ¬ S11 b from fun b hb e => by
    rcases hs b e with e | e
    · exact HF10.out b hb e
    · have := (ownsRow_lt HO10.out hb).2; omega)
  have HGE := Lib.hid (show ∀ b, (Value.slice A9 d.length c9).ownBlock = some b → w.heap.size ≤ b from fun b hb => by
    have := (ownsRow_lt HO10.out hb).1
    have := HM7S.out
    omega)
  clear hm hs hk hst HC2 HM10 HO10 HF10
  by_cases hE : E2 = 0
  · subst hE
    have hpe := send_ok HP2.out
    obtain ⟨K, hK⟩ : ∃ K, K = (healP P 1 2).l.length := ⟨_, rfl⟩
    obtain ⟨L, hL⟩ : ∃ L, L = K + 1 := ⟨_, rfl⟩
    have HPL := Lib.hid (show P2.l.length = L by rw [hpe, hL, hK]; simp)
    have HLK := Lib.hid hL
    have HPA := Lib.hid (show P2.l[K]? = some ⟨1, 2, d⟩ by rw [hpe, hK]; simp)
    have hKb : (K : Int) < 4096 := by
      obtain ⟨v, mb, h⟩ := HM11.out.post
      have := h.ok.few; have := h.ok.room.2; have := HPL.out; have := HLK.out; omega
    have hLb : (L : Int) ≤ 4096 := by
      obtain ⟨v, mb, h⟩ := HM11.out.post
      have := h.ok.few; have := h.ok.room.2; have := HPL.out; omega
    have hLp : (0 : Int) < (L : Int) := by omega
    clear hpe hK hL
    have hdl : (d.length : Int) ≤ 1048576 := by have := HDD.out; omega
    go_upto_region 17 with fail
    go_wp2
    go_loopw [15] (fun i wr => ∃ s : Nat, s ≤ d.length ∧ i = .int .i64 (s : Int) ∧ Worn w8.heap.size (.slice A9 d.length c9) d.length w11 wr) (fun i _ => d.length - (intOf i).toNat)
    case atStart => exact ⟨0, Nat.zero_le _, rfl, Kept.refl _ _, d, rfl, HO11.out⟩
    case round =>
      obtain ⟨s, hs, rfl, hkw, lq, hlq, hoq⟩ := hrel
      by_cases hlt : s < d.length
      · obtain ⟨B, hPe, hP1, hP2, -⟩ := own_head hoq (show 0 < d.length by omega)
        subst hPe
        have HLQ := Lib.hid hlq
        have hcl := own_cell hoq (j := s) (by rw [HLQ.out]; omega)
        have hfz := own_free hoq hlq.symm s
        have HST := Lib.hid (own_set hoq hlq.symm s 99).1
        have HK := Lib.hid (hkw.setCell (p := ⟨B, s, none⟩) (fun _ => rfl) (bv 99))
        clear hkw hoq hP1 hP2 hlq
        go_wp2
        go_roundw
        case rel => exact ⟨s + 1, by omega, by go_num, HK.out, _, by rw [List.length_set]; exact HLQ.out, HST.out⟩
        case measure => simp [intOf]; omega
      · have hd1 : decide ((s : Int) < (d.length : Int)) = false := decide_eq_false (by omega)
        have hd2 : decide (s < d.length) = false := decide_eq_false hlt
        have HM12 := Lib.hid (show Mn w g P2 S11 wr from ⟨HM11.out.post.keep (fun b hb => hkw.block b (HM11.out.post.lt hb) (fun e => HF11.out b e hb)) hkw.size, HM11.out.s, HM11.out.below.trans (hkw.below HM11.out.below.size (fun b hb => HGE.out b hb))⟩)
        have HLN := Lib.hid (fun w' h => len_any g P2 S11 w' h)
        rw [HPL.out] at HLN
        have HIX := Lib.hid (show (K : Int) = (L : Int) - 1 by have := HLK.out; omega)
        clear hkw hoq hlq
        go_upto_region 21 with fail
        clear hlt hd1 hd2
        go_wp2_with fail
        refine (HLN.out _ HM12.out.post).mono ?_
        rintro e w13 ⟨rfl, hb⟩
        have HM13 := Lib.hid (HM12.out.more hb)
        clear hb
        have HLO := Lib.hid (look_far g P2 S11 K ⟨1, 2, d⟩ w13 HM13.out.post HPA.out)
        rw [HIX.out] at HLO
        go_wp2_with fail
        refine HLO.out.mono ?_
        rintro e w14 ⟨b14, c14, rfl, hge, hlt14, hl14, hraw, hb14⟩
        have HM14 := Lib.hid (HM13.out.more hb14)
        have HGE14 := Lib.hid hge
        have HLT14 := Lib.hid hlt14
        have HRAW := Lib.hid hraw
        have HS14 := Lib.hid (show ¬ S11 b14 from fun e => by have := HM13.out.post.lt e; omega)
        have t1 : (convert 33 9 (.slice (some ⟨b14, 0, none⟩) d.length c14)).run Try.prog w14 = .ok (.string (str d)) w14 := run_text w14 c14 rfl hl14
        have t2 : (convert 33 9 (.slice A3 n c3)).run Try.prog w14 = .ok (.string (str d)) w14 := run_text w14 c3 HND.out (HLD.out.below HM14.out.below)
        have hq3 : ((str d).toList == (str d).toList) = true := by simp
        clear hge hlt14 hl14 hraw hb14 HLO
        go_upto_region 23 with fail
        clear t1 t2
        go_wp2
        go_loopw [21] (fun i wr => ∃ s : Nat, s ≤ d.length ∧ i = .int .i64 (s : Int) ∧ Kept (fun b => b = b14) w14 wr ∧ Raw wr b14 d.length) (fun i _ => d.length - (intOf i).toNat)
        case atStart => exact ⟨0, Nat.zero_le _, rfl, Kept.refl _ _, HRAW.out⟩
        case round =>
          obtain ⟨s, hs, rfl, hkw, hraw⟩ := hrel
          by_cases hlt : s < d.length
          · obtain ⟨u, hcl⟩ := hraw.cell hlt
            have hfz := hraw.free hlt
            have HST := Lib.hid (hraw.set (j := s) (.int .u8 98))
            have HK := Lib.hid (hkw.setCell (p := ⟨b14, s, none⟩) (fun _ => rfl) (.int .u8 98))
            clear hkw hraw
            go_wp2
            go_roundw
            case rel => exact ⟨s + 1, by omega, by go_num, HK.out, HST.out⟩
            case measure => simp [intOf]; omega
          · have hd1 : decide ((s : Int) < (d.length : Int)) = false := decide_eq_false (by omega)
            have hd2 : decide (s < d.length) = false := decide_eq_false hlt
            have HM15 := Lib.hid (show Mn w g P2 S11 wr from ⟨HM14.out.post.keep (fun b hb => hkw.block b (HM14.out.post.lt hb) (fun e => HS14.out (by rw [← show b = b14 from e]; exact hb))) hkw.size, HM14.out.s, HM14.out.below.trans (hkw.below HM14.out.below.size (fun b hb => by rw [show b = b14 from hb]; exact Nat.le_trans HM13.out.below.size HGE14.out))⟩)
            clear hkw hraw
            go_upto_region 27 with fail
            clear hlt hd1 hd2
            go_wp2_with fail
            refine (HLN.out _ HM15.out.post).mono ?_
            rintro e w16 ⟨rfl, hb⟩
            have HM16 := Lib.hid (HM15.out.more hb)
            clear hb
            have HLO := Lib.hid (look_far g P2 S11 K ⟨1, 2, d⟩ w16 HM16.out.post HPA.out)
            rw [HIX.out] at HLO
            go_wp2_with fail
            refine HLO.out.mono ?_
            rintro e w17 ⟨b17, c17, rfl, hge, hlt17, hl17, hraw, hb17⟩
            have HM17 := Lib.hid (HM16.out.more hb17)
            have t1 : (convert 33 9 (.slice (some ⟨b17, 0, none⟩) d.length c17)).run Try.prog w17 = .ok (.string (str d)) w17 := run_text w17 c17 rfl hl17
            have t2 : (convert 33 9 (.slice A3 n c3)).run Try.prog w17 = .ok (.string (str d)) w17 := run_text w17 c3 HND.out (HLD.out.below HM17.out.below)
            clear hge hlt17 hl17 hraw hb17 HLO
            go_upto_region 30 with fail
            clear t1 t2
            have HX0 := Lib.hid HM17.out.below
            go_wp2_with fail
            refine (take_nil 0 _).mono ?_
            rintro e x1 ⟨Ay, cy, rfl, -, -, hb⟩
            have HX1 := Lib.hid (By.ext HX0.out hb)
            clear hb HX0
            go_wp2_with fail
            refine (look_nil 0 _).mono ?_
            rintro e x2 ⟨Az, cz, rfl, -, -, hb⟩
            have HX2 := Lib.hid (By.ext HX1.out hb)
            clear hb HX1
            go_wp2_with fail
            refine (send_nil 1 2 none 0 0 _).mono ?_
            rintro e x3 ⟨rfl, hb⟩
            have HX3 := Lib.hid (By.ext HX2.out hb)
            clear hb HX2
            go_wp2_with fail
            refine (twin_nil 0 _).mono ?_
            rintro e x4 ⟨rfl, hb⟩
            have HX4 := Lib.hid (By.ext HX3.out hb)
            clear hb HX3
            go_wp2_with fail
            refine (cut_nil 1 2 _).mono ?_
            rintro e x5 ⟨rfl, hb⟩
            have HX5 := Lib.hid (By.ext HX4.out hb)
            clear hb HX4
            go_wp2_with fail
            refine (heal_nil 1 2 _).mono ?_
            rintro e x6 ⟨rfl, hb⟩
            have HX6 := Lib.hid (By.ext HX5.out hb)
            clear hb HX5
            go_wp2_with fail
            refine (len_nil _).mono ?_
            rintro e x7 ⟨rfl, hb⟩
            have HX7 := Lib.hid (By.ext HX6.out hb)
            clear hb HX6
            go_wp2_with fail
            refine (copy_nil _).mono ?_
            rintro e x8 ⟨rfl, hb⟩
            have HX8 := Lib.hid (By.ext HX7.out hb)
            clear hb HX7
            go_wp2
            go_ret
            exact ⟨rfl, HX8.out⟩
  · have hb0 : (E2 == 0) = false := beq_eq_false_iff_ne.2 hE
    clear hE
    have HX0 := Lib.hid HM11.out.below
    go_wp2_with fail
    refine (take_nil 0 _).mono ?_
    rintro e x1 ⟨Ay, cy, rfl, -, -, hb⟩
    have HX1 := Lib.hid (By.ext HX0.out hb)
    clear hb HX0
    go_wp2_with fail
    refine (look_nil 0 _).mono ?_
    rintro e x2 ⟨Az, cz, rfl, -, -, hb⟩
    have HX2 := Lib.hid (By.ext HX1.out hb)
    clear hb HX1
    go_wp2_with fail
    refine (send_nil 1 2 none 0 0 _).mono ?_
    rintro e x3 ⟨rfl, hb⟩
    have HX3 := Lib.hid (By.ext HX2.out hb)
    clear hb HX2
    go_wp2_with fail
    refine (twin_nil 0 _).mono ?_
    rintro e x4 ⟨rfl, hb⟩
    have HX4 := Lib.hid (By.ext HX3.out hb)
    clear hb HX3
    go_wp2_with fail
    refine (cut_nil 1 2 _).mono ?_
    rintro e x5 ⟨rfl, hb⟩
    have HX5 := Lib.hid (By.ext HX4.out hb)
    clear hb HX4
    go_wp2_with fail
    refine (heal_nil 1 2 _).mono ?_
    rintro e x6 ⟨rfl, hb⟩
    have HX6 := Lib.hid (By.ext HX5.out hb)
    clear hb HX5
    go_wp2_with fail
    refine (len_nil _).mono ?_
    rintro e x7 ⟨rfl, hb⟩
    have HX7 := Lib.hid (By.ext HX6.out hb)
    clear hb HX6
    go_wp2_with fail
    refine (copy_nil _).mono ?_
    rintro e x8 ⟨rfl, hb⟩
    have HX8 := Lib.hid (By.ext HX7.out hb)
    clear hb HX7
    go_wp2
    go_ret
    exact ⟨rfl, HX8.out⟩
end Go.Proofs.Ytenaecpmmbigdaa.Po
