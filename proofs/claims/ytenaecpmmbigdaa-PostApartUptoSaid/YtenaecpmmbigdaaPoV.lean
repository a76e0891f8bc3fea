/- The law PostCuts, walked. -/
import Derived.Test.YtenaecpmmbigdaaPoU
namespace Go.Proofs.Ytenaecpmmbigdaa.Po
open Go.RowKit Go.Maps By Mp

/-- A post of the call's own. -/
structure Mn (w : World) (g : Nat) (p : P8) (S : Nat → Prop) (wr : World) : Prop where
  post : PostIs wr g p S
  s : ∀ b, S b → w.heap.size ≤ b
  below : Below w.heap.size w wr
theorem Mn.step {w wr w2 : World} {g : Nat} {p p' : P8} {S : Nat → Prop} {val : Value} {e : Ending} (h : Mn w g p S wr) (h2 : PStep val g p' S wr e w2) : ∃ S2, e = .returned val ∧ Mn w g p' S2 w2 := by
  obtain ⟨rfl, S2, hp, hs, hk⟩ := h2
  have hz := h.below.size
  refine ⟨S2, rfl, hp, fun b hb => ?_, h.below.trans (hk.below hz h.s)⟩
  rcases hs b hb with e | e
  · exact h.s b e
  · omega
theorem Mn.more {w wr w2 : World} {g : Nat} {p : P8} {S : Nat → Prop} (h : Mn w g p S wr) (hb : Below wr.heap.size wr w2) : Mn w g p S w2 := ⟨h.post.below hb, h.s, By.ext h.below hb⟩
theorem mn_new {w w1 : World} {room : Int} {e : Ending} (h : NewPost room w e w1) : e = .returned (.tuple #[.pointer (some ⟨w.heap.size, 0, none⟩), .int .i64 0]) ∧ Mn w w.heap.size ⟨[], [], room⟩ (fun b => b = w.heap.size) w1 :=
  ⟨h.1, h.2.1, fun b h => Nat.le_of_eq (show w.heap.size = b from Eq.symm h), h.2.2⟩
set_option maxRecDepth 100000 in
set_option maxHeartbeats 8000000 in
theorem postCuts_any (a b c d : Int) (w : World) : Calls Try.prog 5 #[.int .i64 a, .int .i64 b, .int .i64 c, .int .i64 d] w (True_ w) := by
  have HN := Lib.hid (new_ok 10 w (by decide) (by decide))
  have q1 := ptrTest
  have HAN := Lib.hid answers_any
  go_enter Try.func5, Try.ntmps5
  go_wp2_with fail
  refine HN.out.mono ?_
  rintro e w1 hnew
  obtain ⟨rfl, hm⟩ := mn_new hnew
  obtain ⟨g, hg⟩ : ∃ g, g = w.heap.size := ⟨_, rfl⟩
  have hm : Mn w g ⟨[], [], 10⟩ (fun b => b = g) w1 := by rw [hg]; exact hm
  rw [← hg]
  have HM1 := Lib.hid hm
  clear hg hm hnew HN
  go_wp2_with fail
  refine (HAN.out _).mono ?_
  rintro e w2 ⟨rfl, hb⟩
  have HM2 := Lib.hid (HM1.out.more hb)
  clear hb HM1
  go_wp2_with fail
  refine (rEnd_any a _).mono ?_
  rintro e w3 ⟨rfl, hb⟩
  have HM3a := Lib.hid (HM2.out.more hb)
  clear hb HM2
  by_cases ea : End8 a
  case neg =>
    rw [decide_eq_false ea]
    go_wp2_with fail
    refine (HAN.out _).mono ?_
    rintro e w4 ⟨rfl, hb⟩
    have HMF := Lib.hid (HM3a.out.more hb)
    clear hb
    go_wp2
    go_ret
    exact ⟨rfl, HMF.out.below⟩
  rw [decide_eq_true ea]
  go_wp2_with fail
  refine (rEnd_any b _).mono ?_
  rintro e w5 ⟨rfl, hb⟩
  have HM5b := Lib.hid (HM3a.out.more hb)
  clear hb HM3a
  by_cases eb : End8 b
  case neg =>
    rw [decide_eq_false eb]
    go_wp2_with fail
    refine (HAN.out _).mono ?_
    rintro e w6 ⟨rfl, hb⟩
    have HMF := Lib.hid (HM5b.out.more hb)
    clear hb
    go_wp2
    go_ret
    exact ⟨rfl, HMF.out.below⟩
  rw [decide_eq_true eb]
  go_wp2_with fail
  refine (rEnd_any c _).mono ?_
  rintro e w7 ⟨rfl, hb⟩
  have HM7c := Lib.hid (HM5b.out.more hb)
  clear hb HM5b
  by_cases ec : End8 c
  case neg =>
    rw [decide_eq_false ec]
    go_wp2_with fail
    refine (HAN.out _).mono ?_
    rintro e w8 ⟨rfl, hb⟩
    have HMF := Lib.hid (HM7c.out.more hb)
    clear hb
    go_wp2
    go_ret
    exact ⟨rfl, HMF.out.below⟩
  rw [decide_eq_true ec]
  go_wp2_with fail
  refine (rEnd_any d _).mono ?_
  rintro e w9 ⟨rfl, hb⟩
  have HM9d := Lib.hid (HM7c.out.more hb)
  clear hb HM7c
  by_cases ed : End8 d
  case neg =>
    rw [decide_eq_false ed]
    go_wp2_with fail
    refine (HAN.out _).mono ?_
    rintro e w10 ⟨rfl, hb⟩
    have HMF := Lib.hid (HM9d.out.more hb)
    clear hb
    go_wp2
    go_ret
    exact ⟨rfl, HMF.out.below⟩
  rw [decide_eq_true ed]
  by_cases eab : a = b
  case pos =>
    have hq : (a == b) = true := beq_iff_eq.2 eab
    clear eab
    go_wp2_with fail
    refine (HAN.out _).mono ?_
    rintro e w11 ⟨rfl, hb⟩
    have HMF := Lib.hid (HM9d.out.more hb)
    clear hb
    go_wp2
    go_ret
    exact ⟨rfl, HMF.out.below⟩
  have hqab : (a == b) = false := beq_eq_false_iff_ne.2 eab
  by_cases ecd : c = d
  case pos =>
    have hq : (c == d) = true := beq_iff_eq.2 ecd
    clear ecd
    go_wp2_with fail
    refine (HAN.out _).mono ?_
    rintro e w12 ⟨rfl, hb⟩
    have HMF := Lib.hid (HM9d.out.more hb)
    clear hb
    go_wp2
    go_ret
    exact ⟨rfl, HMF.out.below⟩
  have hqcd : (c == d) = false := beq_eq_false_iff_ne.2 ecd
  have HS1 := Lib.hid (show Sound8 a b from ⟨ea, eb, eab⟩)
  have HS2 := Lib.hid (show Sound8 c d from ⟨ec, ed, ecd⟩)
  clear ea eb ec ed eab ecd
  by_cases eac : a = c
  case neg =>
    have hac : (a == c) = false := beq_eq_false_iff_ne.2 eac
    have HEQ := Lib.hid (show ¬ (c = a ∧ d = b) from fun e => eac e.1.symm)
    clear eac
    have s1 : sendR ⟨[], [], 10⟩ a b [] = (⟨[⟨a, b, []⟩], [], 10⟩, 0) := by simp [sendR, HS1.out]
    have s2 : cutR ⟨[⟨a, b, []⟩], [], 10⟩ a b = (⟨[⟨a, b, []⟩], [(a, b)], 10⟩, 0) := by simp [cutR, cutP, HS1.out]
    have s3 : sendR ⟨[⟨a, b, []⟩], [(a, b)], 10⟩ a b [] = (⟨[⟨a, b, []⟩], [(a, b)], 10⟩, 11) := by simp [sendR, HS1.out]
    have s4 : sendR ⟨[⟨a, b, []⟩], [(a, b)], 10⟩ c d [] = (⟨[⟨a, b, []⟩, ⟨c, d, []⟩], [(a, b)], 10⟩, 0) := by simp [sendR, HS2.out, HEQ.out]
    have s5 : healR ⟨[⟨a, b, []⟩, ⟨c, d, []⟩], [(a, b)], 10⟩ a b = (⟨[⟨a, b, []⟩, ⟨c, d, []⟩], [], 10⟩, 0) := by simp [healR, healP, HS1.out]
    have s6 : sendR ⟨[⟨a, b, []⟩, ⟨c, d, []⟩], [], 10⟩ a b [] = (⟨[⟨a, b, []⟩, ⟨c, d, []⟩, ⟨a, b, []⟩], [], 10⟩, 0) := by simp [sendR, HS1.out]
    have HQ1 := Lib.hid s1
    have HQ2 := Lib.hid s2
    have HQ3 := Lib.hid s3
    have HQ4 := Lib.hid s4
    have HQ5 := Lib.hid s5
    have HQ6 := Lib.hid s6
    clear s1 s2 s3 s4 s5 s6
    have HC := Lib.hid (send_any g ⟨[], [], 10⟩ _ a b none 0 0 [] _ HM9d.out.post rfl (Lies.empty _ _ _))
    rw [HQ1.out] at HC
    go_wp2_with fail
    refine HC.out.mono ?_
    rintro e w13 hst
    obtain ⟨S13, rfl, hm⟩ := HM9d.out.step hst
    have HX13 := Lib.hid hm
    clear hm hst HC
    have HC := Lib.hid (cut_any g ⟨[⟨a, b, []⟩], [], 10⟩ _ a b _ HX13.out.post)
    rw [HQ2.out] at HC
    go_wp2_with fail
    refine HC.out.mono ?_
    rintro e w14 hst
    obtain ⟨S14, rfl, hm⟩ := HX13.out.step hst
    have HX14 := Lib.hid hm
    clear hm hst HC
    have HC := Lib.hid (send_any g ⟨[⟨a, b, []⟩], [(a, b)], 10⟩ _ a b none 0 0 [] _ HX14.out.post rfl (Lies.empty _ _ _))
    rw [HQ3.out] at HC
    go_wp2_with fail
    refine HC.out.mono ?_
    rintro e w15 hst
    obtain ⟨S15, rfl, hm⟩ := HX14.out.step hst
    have HX15 := Lib.hid hm
    clear hm hst HC
    have HC := Lib.hid (send_any g ⟨[⟨a, b, []⟩], [(a, b)], 10⟩ _ c d none 0 0 [] _ HX15.out.post rfl (Lies.empty _ _ _))
    rw [HQ4.out] at HC
    go_wp2_with fail
    refine HC.out.mono ?_
    rintro e w16 hst
    obtain ⟨S16, rfl, hm⟩ := HX15.out.step hst
    have HX16 := Lib.hid hm
    clear hm hst HC
    have HC := Lib.hid (heal_any g ⟨[⟨a, b, []⟩, ⟨c, d, []⟩], [(a, b)], 10⟩ _ a b _ HX16.out.post)
    rw [HQ5.out] at HC
    go_wp2_with fail
    refine HC.out.mono ?_
    rintro e w17 hst
    obtain ⟨S17, rfl, hm⟩ := HX16.out.step hst
    have HX17 := Lib.hid hm
    clear hm hst HC
    have HC := Lib.hid (len_any g _ _ _ HX17.out.post)
    go_wp2_with fail
    refine HC.out.mono ?_
    rintro e w18 ⟨rfl, hb⟩
    have HX18 := Lib.hid (HX17.out.more hb)
    clear hb HC
    have HC := Lib.hid (send_any g ⟨[⟨a, b, []⟩, ⟨c, d, []⟩], [], 10⟩ _ a b none 0 0 [] _ HX18.out.post rfl (Lies.empty _ _ _))
    rw [HQ6.out] at HC
    go_wp2_with fail
    refine HC.out.mono ?_
    rintro e w19 hst
    obtain ⟨S19, rfl, hm⟩ := HX18.out.step hst
    have HX19 := Lib.hid hm
    clear hm hst HC
    have HC := Lib.hid (len_any g _ _ _ HX19.out.post)
    go_wp2_with fail
    refine HC.out.mono ?_
    rintro e w20 ⟨rfl, hb⟩
    have HX20 := Lib.hid (HX19.out.more hb)
    clear hb HC
    go_wp2
    go_ret
    exact ⟨rfl, HX20.out.below⟩
  have hac : (a == c) = true := beq_iff_eq.2 eac
  by_cases ebd : b = d
  case neg =>
    have hbd : (b == d) = false := beq_eq_false_iff_ne.2 ebd
    have HEQ := Lib.hid (show ¬ (c = a ∧ d = b) from fun e => ebd e.2.symm)
    clear ebd eac
    have s1 : sendR ⟨[], [], 10⟩ a b [] = (⟨[⟨a, b, []⟩], [], 10⟩, 0) := by simp [sendR, HS1.out]
    have s2 : cutR ⟨[⟨a, b, []⟩], [], 10⟩ a b = (⟨[⟨a, b, []⟩], [(a, b)], 10⟩, 0) := by simp [cutR, cutP, HS1.out]
    have s3 : sendR ⟨[⟨a, b, []⟩], [(a, b)], 10⟩ a b [] = (⟨[⟨a, b, []⟩], [(a, b)], 10⟩, 11) := by simp [sendR, HS1.out]
    have s4 : sendR ⟨[⟨a, b, []⟩], [(a, b)], 10⟩ c d [] = (⟨[⟨a, b, []⟩, ⟨c, d, []⟩], [(a, b)], 10⟩, 0) := by simp [sendR, HS2.out, HEQ.out]
    have s5 : healR ⟨[⟨a, b, []⟩, ⟨c, d, []⟩], [(a, b)], 10⟩ a b = (⟨[⟨a, b, []⟩, ⟨c, d, []⟩], [], 10⟩, 0) := by simp [healR, healP, HS1.out]
    have s6 : sendR ⟨[⟨a, b, []⟩, ⟨c, d, []⟩], [], 10⟩ a b [] = (⟨[⟨a, b, []⟩, ⟨c, d, []⟩, ⟨a, b, []⟩], [], 10⟩, 0) := by simp [sendR, HS1.out]
    have HQ1 := Lib.hid s1
    have HQ2 := Lib.hid s2
    have HQ3 := Lib.hid s3
    have HQ4 := Lib.hid s4
    have HQ5 := Lib.hid s5
    have HQ6 := Lib.hid s6
    clear s1 s2 s3 s4 s5 s6
    have HC := Lib.hid (send_any g ⟨[], [], 10⟩ _ a b none 0 0 [] _ HM9d.out.post rfl (Lies.empty _ _ _))
    rw [HQ1.out] at HC
    go_wp2_with fail
    refine HC.out.mono ?_
    rintro e w21 hst
    obtain ⟨S21, rfl, hm⟩ := HM9d.out.step hst
    have HX21 := Lib.hid hm
    clear hm hst HC
    have HC := Lib.hid (cut_any g ⟨[⟨a, b, []⟩], [], 10⟩ _ a b _ HX21.out.post)
    rw [HQ2.out] at HC
    go_wp2_with fail
    refine HC.out.mono ?_
    rintro e w22 hst
    obtain ⟨S22, rfl, hm⟩ := HX21.out.step hst
    have HX22 := Lib.hid hm
    clear hm hst HC
    have HC := Lib.hid (send_any g ⟨[⟨a, b, []⟩], [(a, b)], 10⟩ _ a b none 0 0 [] _ HX22.out.post rfl (Lies.empty _ _ _))
    rw [HQ3.out] at HC
    go_wp2_with fail
    refine HC.out.mono ?_
    rintro e w23 hst
    obtain ⟨S23, rfl, hm⟩ := HX22.out.step hst
    have HX23 := Lib.hid hm
    clear hm hst HC
    have HC := Lib.hid (send_any g ⟨[⟨a, b, []⟩], [(a, b)], 10⟩ _ c d none 0 0 [] _ HX23.out.post rfl (Lies.empty _ _ _))
    rw [HQ4.out] at HC
    go_wp2_with fail
    refine HC.out.mono ?_
    rintro e w24 hst
    obtain ⟨S24, rfl, hm⟩ := HX23.out.step hst
    have HX24 := Lib.hid hm
    clear hm hst HC
    have HC := Lib.hid (heal_any g ⟨[⟨a, b, []⟩, ⟨c, d, []⟩], [(a, b)], 10⟩ _ a b _ HX24.out.post)
    rw [HQ5.out] at HC
    go_wp2_with fail
    refine HC.out.mono ?_
    rintro e w25 hst
    obtain ⟨S25, rfl, hm⟩ := HX24.out.step hst
    have HX25 := Lib.hid hm
    clear hm hst HC
    have HC := Lib.hid (len_any g _ _ _ HX25.out.post)
    go_wp2_with fail
    refine HC.out.mono ?_
    rintro e w26 ⟨rfl, hb⟩
    have HX26 := Lib.hid (HX25.out.more hb)
    clear hb HC
    have HC := Lib.hid (send_any g ⟨[⟨a, b, []⟩, ⟨c, d, []⟩], [], 10⟩ _ a b none 0 0 [] _ HX26.out.post rfl (Lies.empty _ _ _))
    rw [HQ6.out] at HC
    go_wp2_with fail
    refine HC.out.mono ?_
    rintro e w27 hst
    obtain ⟨S27, rfl, hm⟩ := HX26.out.step hst
    have HX27 := Lib.hid hm
    clear hm hst HC
    have HC := Lib.hid (len_any g _ _ _ HX27.out.post)
    go_wp2_with fail
    refine HC.out.mono ?_
    rintro e w28 ⟨rfl, hb⟩
    have HX28 := Lib.hid (HX27.out.more hb)
    clear hb HC
    go_wp2
    go_ret
    exact ⟨rfl, HX28.out.below⟩
  have hbd : (b == d) = true := beq_iff_eq.2 ebd
  have HEQ := Lib.hid (And.intro eac ebd)
  clear ebd eac
  have s1 : sendR ⟨[], [], 10⟩ a b [] = (⟨[⟨a, b, []⟩], [], 10⟩, 0) := by simp [sendR, HS1.out]
  have s2 : cutR ⟨[⟨a, b, []⟩], [], 10⟩ a b = (⟨[⟨a, b, []⟩], [(a, b)], 10⟩, 0) := by simp [cutR, cutP, HS1.out]
  have s3 : sendR ⟨[⟨a, b, []⟩], [(a, b)], 10⟩ a b [] = (⟨[⟨a, b, []⟩], [(a, b)], 10⟩, 11) := by simp [sendR, HS1.out]
  have s4 : sendR ⟨[⟨a, b, []⟩], [(a, b)], 10⟩ c d [] = (⟨[⟨a, b, []⟩], [(a, b)], 10⟩, 11) := by rw [← HEQ.out.1, ← HEQ.out.2]; exact s3
  have s5 : healR ⟨[⟨a, b, []⟩], [(a, b)], 10⟩ a b = (⟨[⟨a, b, []⟩], [], 10⟩, 0) := by simp [healR, healP, HS1.out]
  have s6 : sendR ⟨[⟨a, b, []⟩], [], 10⟩ a b [] = (⟨[⟨a, b, []⟩, ⟨a, b, []⟩], [], 10⟩, 0) := by simp [sendR, HS1.out]
  have HQ1 := Lib.hid s1
  have HQ2 := Lib.hid s2
  have HQ3 := Lib.hid s3
  have HQ4 := Lib.hid s4
  have HQ5 := Lib.hid s5
  have HQ6 := Lib.hid s6
  clear s1 s2 s3 s4 s5 s6
  have HC := Lib.hid (send_any g ⟨[], [], 10⟩ _ a b none 0 0 [] _ HM9d.out.post rfl (Lies.empty _ _ _))
  rw [HQ1.out] at HC
  go_wp2_with fail
  refine HC.out.mono ?_
  rintro e w29 hst
  obtain ⟨S29, rfl, hm⟩ := HM9d.out.step hst
  have HX29 := Lib.hid hm
  clear hm hst HC
  have HC := Lib.hid (cut_any g ⟨[⟨a, b, []⟩], [], 10⟩ _ a b _ HX29.out.post)
  rw [HQ2.out] at HC
  go_wp2_with fail
  refine HC.out.mono ?_
  rintro e w30 hst
  obtain ⟨S30, rfl, hm⟩ := HX29.out.step hst
  have HX30 := Lib.hid hm
  clear hm hst HC
  have HC := Lib.hid (send_any g ⟨[⟨a, b, []⟩], [(a, b)], 10⟩ _ a b none 0 0 [] _ HX30.out.post rfl (Lies.empty _ _ _))
  rw [HQ3.out] at HC
  go_wp2_with fail
  refine HC.out.mono ?_
  rintro e w31 hst
  obtain ⟨S31, rfl, hm⟩ := HX30.out.step hst
  have HX31 := Lib.hid hm
  clear hm hst HC
  have HC := Lib.hid (send_any g ⟨[⟨a, b, []⟩], [(a, b)], 10⟩ _ c d none 0 0 [] _ HX31.out.post rfl (Lies.empty _ _ _))
  rw [HQ4.out] at HC
  go_wp2_with fail
  refine HC.out.mono ?_
  rintro e w32 hst
  obtain ⟨S32, rfl, hm⟩ := HX31.out.step hst
  have HX32 := Lib.hid hm
  clear hm hst HC
  have HC := Lib.hid (heal_any g ⟨[⟨a, b, []⟩], [(a, b)], 10⟩ _ a b _ HX32.out.post)
  rw [HQ5.out] at HC
  go_wp2_with fail
  refine HC.out.mono ?_
  rintro e w33 hst
  obtain ⟨S33, rfl, hm⟩ := HX32.out.step hst
  have HX33 := Lib.hid hm
  clear hm hst HC
  have HC := Lib.hid (len_any g _ _ _ HX33.out.post)
  go_wp2_with fail
  refine HC.out.mono ?_
  rintro e w34 ⟨rfl, hb⟩
  have HX34 := Lib.hid (HX33.out.more hb)
  clear hb HC
  have HC := Lib.hid (send_any g ⟨[⟨a, b, []⟩], [], 10⟩ _ a b none 0 0 [] _ HX34.out.post rfl (Lies.empty _ _ _))
  rw [HQ6.out] at HC
  go_wp2_with fail
  refine HC.out.mono ?_
  rintro e w35 hst
  obtain ⟨S35, rfl, hm⟩ := HX34.out.step hst
  have HX35 := Lib.hid hm
  clear hm hst HC
  have HC := Lib.hid (len_any g _ _ _ HX35.out.post)
  go_wp2_with fail
  refine HC.out.mono ?_
  rintro e w36 ⟨rfl, hb⟩
  have HX36 := Lib.hid (HX35.out.more hb)
  clear hb HC
  go_wp2
  go_ret
  exact ⟨rfl, HX36.out.below⟩
end Go.Proofs.Ytenaecpmmbigdaa.Po
