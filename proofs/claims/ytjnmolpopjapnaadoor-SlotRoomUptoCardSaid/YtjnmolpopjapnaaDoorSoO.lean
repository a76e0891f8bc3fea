/- The walk of SlotTwo. -/
import Derived.Test.YtjnmolpopjapnaaDoorSoN
namespace Go.Proofs.YtjnmolpopjapnaaDoor.So
open Go.RowKit Go.Maps By Mp Dk

/-- Appending bytes in an operation that a guard lets go. -/
theorem wpList_appW {ops : Array Oper} {rest : List Oper} {o : Oper} {a : Act} {Q : Exit → Act → World → Prop} {w : World} (hwt : Region.wanted o (yielded ops a.tmps) = true) (s x : Operand)
    (ho : o.op = .call { callee := .builtin .append, args := #[s, x], argTypes := #[36, 36] })
    {base : Nat} {v : Value} {l : List UInt8} (hs : a.eval s = v) (hown : Own base w v l) {B : Nat} {A : Option Addr} {m c : Nat} {l2 : List UInt8} (hx : a.eval x = .slice A m c) (hm : m = l2.length) (hr : Lies w B A l2)
    (hsz : l.length + l2.length ≤ 140737488355328) (hbase : base ≤ w.heap.size)
    (h : ∀ v' w', Own base w' v' (l ++ l2) → Below base w w' → w.grownBy w' v.ownBlock → wpList Tryd.prog ops Q rest (a.put o.dst v') w') : wpList Tryd.prog ops Q (o :: rest) a w :=
  wpList_step fun K hK => by
    rw [if_pos hwt]
    obtain ⟨v', w', hrun, h2, h3, h4⟩ := run_app hown hm hr hsz hbase o.type
    exact wp_app_run s x _ ho hs hx hrun (hK _ _ (h v' w' h2 h3 h4))
theorem saved_size {nm : Bs} {t : Nat} {D : Bs} {F G : Fs} (ht : t < 3) (hF : Up F) (h : Saved nm t D F G) : fsize G ≤ fsize F + D.length + 8 ∧ G.length ≤ F.length + 1 := by
  have hl : Less (Mine nm) F (fdel (pth nm t) G) := by
    refine ⟨h.1.del _, fun n => ?_⟩
    rw [fget_del]
    by_cases e : n = pth nm t
    · rw [if_pos e]
      refine ⟨fun hn => ?_, .inr rfl⟩
      exact absurd ⟨t, ht, e⟩ hn
    · rw [if_neg e]
      refine ⟨fun hn => h.2.2.2 n hn, ?_⟩
      by_cases hn : Mine nm n
      · obtain ⟨u, hu, e2⟩ := hn
        refine .inr ?_
        rw [e2]
        exact h.2.2.1 u hu (fun e3 => e (by rw [e2, e3]))
      · exact .inl (h.2.2.2 n hn)
  have h1 := len_less hF hl
  have h2 := size_del (pth nm t) h.1
  have h3 : flen G (pth nm t) = D.length + 8 := by unfold flen; rw [h.2.1]; exact CoP.frame_length D
  rw [h3, h.2.1] at h2
  simp at h2
  omega
theorem mine_apart {nm nm' : Bs} (hne : nm ≠ nm') {n : Bs} (hn : Mine nm n) : ¬ Mine nm' n := by
  rintro ⟨u, hu, e⟩
  obtain ⟨t, ht, e2⟩ := hn
  rw [e2] at e
  unfold pth at e
  have hl : nm.length = nm'.length := by
    have := congrArg List.length e
    simp at this
    exact this
  exact hne (List.append_inj_left e hl)
theorem files_apart {nm nm' : Bs} (hne : nm ≠ nm') {F G : Fs} (hs : ∀ n, ¬ Mine nm n → fget G n = fget F n) : fileOf G nm' 0 = fileOf F nm' 0 ∧ fileOf G nm' 1 = fileOf F nm' 1 ∧ fileOf G nm' 2 = fileOf F nm' 2 := by
  have hk : ∀ t, t < 3 → fileOf G nm' t = fileOf F nm' t := fun t ht => fileOf_same (hs _ (mine_apart (fun e => hne e.symm) ⟨t, ht, rfl⟩))
  exact ⟨hk 0 (by decide), hk 1 (by decide), hk 2 (by decide)⟩
theorem val_same {f f' : Nat → Fl} (h : f' 0 = f 0 ∧ f' 1 = f 1 ∧ f' 2 = f 2) : valOf f' = valOf f ∧ (NotAll f → NotAll f') ∧ latest f' = latest f := by
  have hl : latest f' = latest f := by unfold latest; rw [h.1, h.2.1, h.2.2]
  refine ⟨?_, ?_, hl⟩
  · unfold valOf
    rw [hl]
    cases e : latest f with
    | none => rfl
    | some t =>
      show (f' t).getD none = (f t).getD none
      rcases lt3 (latest_lt e) with rfl | rfl | rfl
      · rw [h.1]
      · rw [h.2.1]
      · rw [h.2.2]
  · unfold NotAll
    rw [h.1, h.2.1, h.2.2]
    exact fun h => h
theorem falS_lev (F : Fs) (room : Int) (m : Nat) (t : Int) : falS (lev F room 0) m t = lev F room 0 := rfl
set_option maxRecDepth 100000 in
set_option maxHeartbeats 16000000 in
theorem slotTwo_any (A : Option Addr) (n c : Nat) (D : Bs) (A' : Option Addr) (n' c' : Nat) (D' : Bs) (m t : Int) (w : World) (hn : n = D.length) (hm : n ≤ 1048576) (hA : Lies w w.heap.size A D) (hn' : n' = D'.length) (hm' : n' ≤ 1048576) (hA' : Lies w w.heap.size A' D') (hmm : 0 ≤ m ∧ m ≤ 18446744073709551615) : Calls Tryd.prog 6 #[.slice A n c, .slice A' n' c', .int .u64 m, .int .i64 t] w (True_ w) := by
  have HN := Lib.hid (new_any 4000000 w rfl)
  have HA := Lib.hid hA
  have HL := Lib.hid hn
  have HM := Lib.hid hm
  have HA2 := Lib.hid hA'
  have HL2 := Lib.hid hn'
  have HM2 := Lib.hid hm'
  have HMM := Lib.hid hmm
  have q1 := slotTest
  have hn0 : (0 : Int) ≤ (n : Int) := by omega
  have hn1 : (n : Int) ≤ 1048576 := by omega
  have hn0' : (0 : Int) ≤ (n' : Int) := by omega
  have hn1' : (n' : Int) ≤ 1048576 := by omega
  clear hA hn hm hA' hn' hm' hmm
  go_enter Tryd.func6, Tryd.ntmps6
  go_wp2_with fail
  refine HN.out.mono ?_
  rintro e w1 ⟨d, S, rfl, hd1, hS1, hb1⟩
  have HB1 := Lib.hid hb1
  have HS1 := Lib.hid hS1
  have HD1 := Lib.hid hd1
  have HOP := Lib.hid (sopen_any d (newDS 4000000) S [97, 98] w1 hd1 rfl rfl)
  clear HN hd1 hS1 hb1
  go_wp2_with fail
  refine HOP.out.mono ?_
  rintro e w2 ⟨g, rfl, hs2, hg2, hb2⟩
  have HY2 := Lib.hid (sys_new HD1.out hs2 hg2 hb2)
  have HB2 := Lib.hid (By.ext HB1.out hb2)
  have HG2 := Lib.hid (show w.heap.size ≤ g by have := HB1.out.size; omega)
  have HOP2 := Lib.hid (sopen_any d (newDS 4000000) S [97] w2 HY2.out.disk rfl rfl)
  clear HOP hs2 hg2 hb2
  go_wp2_with fail
  refine HOP2.out.mono ?_
  rintro e w3 ⟨g', rfl, hs3, hg3, hb3⟩
  have HZ3 := Lib.hid (sys_new HY2.out.disk hs3 hg3 hb3)
  have HY3 := Lib.hid (HY2.out.below hb3)
  have HB3 := Lib.hid (By.ext HB2.out hb3)
  have HG3 := Lib.hid (show w.heap.size ≤ g' ∧ g ≠ g' by have := HB2.out.size; have := HY2.out.slot.lt; omega)
  have HAN := Lib.hid (fun w' => answers_any w')
  clear HOP2 hs3 hg3 hb3
  by_cases h6 : 65520 < n ∨ 65520 < n'
  · have HFIN := Lib.hid (fun w' (hb : Below w.heap.size w w') => (show True_ w (.returned (.bool true)) w' from ⟨rfl, hb⟩))
    by_cases h61 : 65520 < n
    · have h6i : (65520 : Int) < (n : Int) := by omega
      clear h6 h61
      go_wp2_with fail
      refine (HAN.out _).mono ?_
      rintro e w4 ⟨rfl, hb4⟩
      have HB4 := Lib.hid (By.ext HB3.out hb4)
      clear hb4
      go_wp2_with fail
      refine (HAN.out _).mono ?_
      rintro e w5 ⟨rfl, hb5⟩
      have HB5 := Lib.hid (By.ext HB4.out hb5)
      clear hb5
      go_wp2
      go_ret
      exact HFIN.out _ HB5.out
    · have h6i : ¬ ((65520 : Int) < (n : Int)) := by omega
      have h6j : (65520 : Int) < (n' : Int) := by omega
      clear h6 h61
      go_wp2_with fail
      refine (HAN.out _).mono ?_
      rintro e w4 ⟨rfl, hb4⟩
      have HB4 := Lib.hid (By.ext HB3.out hb4)
      clear hb4
      go_wp2_with fail
      refine (HAN.out _).mono ?_
      rintro e w5 ⟨rfl, hb5⟩
      have HB5 := Lib.hid (By.ext HB4.out hb5)
      clear hb5
      go_wp2
      go_ret
      exact HFIN.out _ HB5.out
  · have H6 := Lib.hid h6
    have h6i : ¬ ((65520 : Int) < (n : Int)) := by omega
    have h6j : ¬ ((65520 : Int) < (n' : Int)) := by omega
    clear h6
    go_wp2_with fail
    refine (HAN.out _).mono ?_
    rintro e w4 ⟨rfl, hb4⟩
    have HB4 := Lib.hid (By.ext HB3.out hb4)
    have HY4 := Lib.hid (HY3.out.below hb4)
    have HZ4 := Lib.hid (HZ3.out.below hb4)
    have HA4 := Lib.hid (lies_far HA.out HB4.out (Nat.le_refl _))
    clear hb4
    go_wp2_with (at_builtin; refine wpList_app rfl (.tmp 55) (.tmp 56) rfl rfl (By.Own.made w4 w4.heap.size #[] 0 (Nat.le_refl _) (by decide) rfl) rfl HL.out ((HA4.out.alloc (Nat.le_refl _) _)) (by have := HL.out; simp; omega) (by simp) ?_; intro v5 w5 ho5 hb5 hg5)
    obtain ⟨A5, c5, hv5, -⟩ := ho5.form
    subst hv5
    have HO5 := Lib.hid (show Own w4.heap.size w5 (.slice A5 n c5) D from by have h := ho5; rw [List.nil_append, ← HL.out] at h; exact h)
    have hb45 : Below w4.heap.size w4 w5 := (nAlloc (Below.refl _ _) (Nat.le_refl _) (.cells #[] 5)).trans hb5
    have HB5 := Lib.hid (By.ext HB4.out hb45)
    have HY5 := Lib.hid (HY4.out.below hb45)
    have HZ5 := Lib.hid (HZ4.out.below hb45)
    have HQ4 := Lib.hid (show (∀ b, S b → b < w4.heap.size) ∧ g < w4.heap.size ∧ g' < w4.heap.size from ⟨(dlt HY4.out.disk).1, HY4.out.slot.lt, HZ4.out.slot.lt⟩)
    have HSV := Lib.hid (save_ok g d [97, 98] [] 4000000 S D A5 n c5 w5 HY5.out rfl (by decide) (notAll_nil _) (by have := HL.out; have := H6.out; omega) (by have := HL.out; have := H6.out; simp [fsize]; omega) HL.out
      ((LiesS.own HO5.out).keep (fun _ _ => rfl) (fun b hb => ⟨fun e => by have := HQ4.out.1 b e; omega, hb.2⟩)))
    rw [List.nil_append, ← HL.out]
    clear ho5 hb5 hg5 hb45
    go_wp2_with fail
    refine HSV.out.mono ?_
    rintro e w6 ⟨rfl, G, S6, hsv, hy6, hS6, hk6⟩
    have hst := next_lt (latest (fileOf [] [97, 98]))
    have HSG := Lib.hid (saved_size hst (show Up ([] : Fs) from List.Pairwise.nil) hsv)
    have HV := Lib.hid (saved_val hst (show D.length ≤ 65520 by have := HL.out; have := H6.out; omega) hsv)
    have HFA := Lib.hid (files_apart (nm := [97, 98]) (nm' := [97]) (by decide) hsv.2.2.2)
    have HFC := Lib.hid (files_apart (nm := [97, 98]) (nm' := [97, 98, 99]) (by decide) hsv.2.2.2)
    have HD6 := Lib.hid hy6.disk
    have HB6 := Lib.hid (show Below w.heap.size w w6 from HB5.out.trans (hk6.below HB5.out.size (fun b hb => by
      rcases hb with hb | hb
      · exact HS1.out b hb
      · rw [hb]; exact HG2.out)))
    have HS6 := Lib.hid (show ∀ b, S6 b → w.heap.size ≤ b from fun b hb => by
      rcases hS6 b hb with h | h
      · exact HS1.out b h
      · have := HB5.out.size; omega)
    have HZ6 := Lib.hid (show Sys w6 g' d [97] (lev G 4000000 0) S6 from ⟨HZ5.out.slot.kept (fun e => by
      rcases e with e | e
      · exact HZ5.out.sep e
      · exact HG3.out.2 e.symm) hk6, hy6.disk, fun e => by
      rcases hS6 g' e with h | h
      · exact HZ5.out.sep h
      · have := HZ5.out.slot.lt; omega⟩)
    have HA6 := Lib.hid (lies_far HA2.out HB6.out (Nat.le_refl _))
    clear hsv hy6 hS6 hk6 HSV hst
    go_wp2_with (at_builtin; refine wpList_appW rfl (.tmp 62) (.tmp 63) rfl rfl (By.Own.made w6 w6.heap.size #[] 0 (Nat.le_refl _) (by decide) rfl) rfl HL2.out ((HA6.out.alloc (Nat.le_refl _) _)) (by have := HL2.out; simp; omega) (by simp) ?_; intro v7 w7 ho7 hb7 hg7)
    obtain ⟨A7, c7, hv7, -⟩ := ho7.form
    subst hv7
    have HO7 := Lib.hid (show Own w6.heap.size w7 (.slice A7 n' c7) D' from by have h := ho7; rw [List.nil_append, ← HL2.out] at h; exact h)
    have hb67 : Below w6.heap.size w6 w7 := (nAlloc (Below.refl _ _) (Nat.le_refl _) (.cells #[] 5)).trans hb7
    have HB7 := Lib.hid (By.ext HB6.out hb67)
    have HZ7 := Lib.hid (HZ6.out.below hb67)
    have HQ6 := Lib.hid (show (∀ b, S6 b → b < w6.heap.size) from (dlt HZ6.out.disk).1)
    have HSV := Lib.hid (save_ok g' d [97] G 4000000 S6 D' A7 n' c7 w7 HZ7.out rfl (by have := HSG.out.2; simp at this; omega) ((val_same HFA.out).2.1 (notAll_nil _)) (by have := HL2.out; have := H6.out; omega) (by have := HL.out; have := HL2.out; have := H6.out; have := HSG.out.1; simp [fsize] at this ⊢; omega) HL2.out
      ((LiesS.own HO7.out).keep (fun _ _ => rfl) (fun b hb => ⟨fun e => by have := HQ6.out b e; omega, hb.2⟩)))
    rw [List.nil_append, ← HL2.out]
    clear ho7 hb7 hg7 hb67
    go_wp2_with fail
    refine HSV.out.mono ?_
    rintro e w8 ⟨rfl, G2, S8, hsv, hy8, hS8, hk8⟩
    have hst := next_lt (latest (fileOf G [97]))
    have HV2 := Lib.hid (saved_val hst (show D'.length ≤ 65520 by have := HL2.out; have := H6.out; omega) hsv)
    have HGA := Lib.hid (files_apart (nm := [97]) (nm' := [97, 98]) (by decide) hsv.2.2.2)
    have HGC := Lib.hid (files_apart (nm := [97]) (nm' := [97, 98, 99]) (by decide) hsv.2.2.2)
    have HB8 := Lib.hid (show Below w.heap.size w w8 from HB7.out.trans (hk8.below HB7.out.size (fun b hb => by
      rcases hb with hb | hb
      · exact HS6.out b hb
      · rw [hb]; exact HG3.out.1)))
    have HS8 := Lib.hid (show ∀ b, S8 b → w.heap.size ≤ b from fun b hb => by
      rcases hS8 b hb with h | h
      · exact HS6.out b h
      · have := HB7.out.size; omega)
    have HX1 := Lib.hid (show hasB (fileOf G2 [97, 98]) D true = true by unfold hasB; rw [(val_same HGA.out).1, HV.out.2.1]; simp)
    have HX2 := Lib.hid (show hasB (fileOf G2 [97]) D' true = true by unfold hasB; rw [HV2.out.2.1]; simp)
    have HX3 := Lib.hid (show hasB (fileOf G2 [97, 98, 99]) [] false = true by unfold hasB; rw [(val_same HGC.out).1, (val_same HFC.out).1]; rfl)
    have hml : (m.toNat : Int) = m := Int.toNat_of_nonneg HMM.out.1
    have hfa := fall_any d (lev G2 4000000 0) S8 m.toNat t w8 hy8.disk (by have := HMM.out.2; omega) (by
      have := (saved_size hst (dlt HZ7.out.disk).2.2.up hsv).2
      have h2 := HSG.out.2
      unfold DS.cnt lev
      simp at h2 this ⊢
      have h3 : G2.length ≤ G.length + 1 := this
      omega)
    rw [hml, falS_lev] at hfa
    have HFL := Lib.hid hfa
    clear hsv hy8 hS8 hk8 HSV hst hfa hml
    go_wp2_with fail
    refine HFL.out.mono ?_
    rintro e w9 ⟨rfl, S9, hd9, hS9, hk9⟩
    have HD9 := Lib.hid hd9
    have HB9 := Lib.hid (show Below w.heap.size w w9 from HB8.out.trans (hk9.below HB8.out.size HS8.out))
    have HO1 := Lib.hid (sopen_any d (lev G2 4000000 0) S9 [97, 98] w9 hd9 rfl rfl)
    clear hd9 hS9 hk9 HFL
    go_wp2_with fail
    refine HO1.out.mono ?_
    rintro e w10 ⟨g1, rfl, hs10, hg10, hb10⟩
    have HY10 := Lib.hid (sys_new HD9.out hs10 hg10 hb10)
    have HB10 := Lib.hid (By.ext HB9.out hb10)
    have HO2 := Lib.hid (sopen_any d (lev G2 4000000 0) S9 [97] w10 HY10.out.disk rfl rfl)
    clear hs10 hg10 hb10 HO1
    go_wp2_with fail
    refine HO2.out.mono ?_
    rintro e w11 ⟨g2, rfl, hs11, hg11, hb11⟩
    have HZ11 := Lib.hid (sys_new HY10.out.disk hs11 hg11 hb11)
    have HY11 := Lib.hid (HY10.out.below hb11)
    have HB11 := Lib.hid (By.ext HB10.out hb11)
    have HO3 := Lib.hid (sopen_any d (lev G2 4000000 0) S9 [97, 98, 99] w11 HY11.out.disk rfl rfl)
    clear hs11 hg11 hb11 HO2
    go_wp2_with fail
    refine HO3.out.mono ?_
    rintro e w12 ⟨g3, rfl, hs12, hg12, hb12⟩
    have HU12 := Lib.hid (sys_new HY11.out.disk hs12 hg12 hb12)
    have HY12 := Lib.hid (HY11.out.below hb12)
    have HZ12 := Lib.hid (HZ11.out.below hb12)
    have HB12 := Lib.hid (By.ext HB11.out hb12)
    have hh1 := has_any g1 d [97, 98] (lev G2 4000000 0) S9 D A n c true w12 HY12.out.slot HY12.out.disk rfl rfl HL.out (lies_far HA.out HB12.out (Nat.le_refl _))
    rw [show fileOf (lev G2 4000000 0).files [97, 98] = fileOf G2 [97, 98] from rfl, HX1.out] at hh1
    have HH1 := Lib.hid hh1
    clear hs12 hg12 hb12 HO3 hh1
    go_wp2_with fail
    refine HH1.out.mono ?_
    rintro e w13 ⟨rfl, hb13⟩
    have HZ13 := Lib.hid (HZ12.out.below hb13)
    have HU13 := Lib.hid (HU12.out.below hb13)
    have HB13 := Lib.hid (By.ext HB12.out hb13)
    have hh2 := has_any g2 d [97] (lev G2 4000000 0) S9 D' A' n' c' true w13 HZ13.out.slot HZ13.out.disk rfl rfl HL2.out (lies_far HA2.out HB13.out (Nat.le_refl _))
    rw [show fileOf (lev G2 4000000 0).files [97] = fileOf G2 [97] from rfl, HX2.out] at hh2
    have HH2 := Lib.hid hh2
    clear hb13 HH1 hh2
    go_wp2_with fail
    refine HH2.out.mono ?_
    rintro e w14 ⟨rfl, hb14⟩
    have HU14 := Lib.hid (HU13.out.below hb14)
    have HB14 := Lib.hid (By.ext HB13.out hb14)
    have hh3 := has_any g3 d [97, 98, 99] (lev G2 4000000 0) S9 [] none 0 0 false w14 HU14.out.slot HU14.out.disk rfl rfl rfl (Lies.empty _ _ _)
    rw [show fileOf (lev G2 4000000 0).files [97, 98, 99] = fileOf G2 [97, 98, 99] from rfl, HX3.out] at hh3
    have HH3 := Lib.hid hh3
    clear hb14 HH2 hh3
    go_wp2_with fail
    refine HH3.out.mono ?_
    rintro e w15 ⟨rfl, hb15⟩
    have HB15 := Lib.hid (By.ext HB14.out hb15)
    clear hb15
    go_wp2
    go_ret
    exact ⟨rfl, HB15.out⟩
end Go.Proofs.YtjnmolpopjapnaaDoor.So
