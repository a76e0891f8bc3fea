/- What is asked of an Ask's fields together. -/
import Derived.Test.YtlgbipmmpocepaaGreatGL
import Derived.Deep.RegionLaw
import Derived.Deep.RegionWith
import Derived.WalkSpells
namespace Go.Proofs.YtlgbipmmpocepaaGreat.Kd
open Go.RowKit By CoP Co Mo

theorem loop_ne (s : ByteArray) : ∀ (n i : Nat) (r : List UInt8), s.size - i = n → r ≠ [] → ByteArray.toList.loop s i r ≠ [] := by
  intro n
  induction n with
  | zero =>
    intro i r h hr
    rw [ByteArray.toList.loop, if_neg (by omega)]
    simpa using hr
  | succ n ih =>
    intro i r h hr
    rw [ByteArray.toList.loop, if_pos (by omega)]
    exact ih (i + 1) _ (by omega) (by simp)
theorem str_nil (l : List UInt8) : (str l).toList = [] ↔ l = [] := by
  constructor
  · intro h
    cases l with
    | nil => rfl
    | cons x t =>
      exfalso
      unfold ByteArray.toList at h
      rw [ByteArray.toList.loop, if_pos (by rw [str_size]; simp)] at h
      exact loop_ne _ _ _ _ rfl (by simp) h
  · rintro rfl
    unfold ByteArray.toList
    rw [ByteArray.toList.loop, if_neg (by rw [str_size]; simp)]
    rfl
set_option maxHeartbeats 1000000 in
theorem askTied_look (g o : Nat) (w : World) (lk ly : Bool) (aq se sq : Nat) (op : Int) (ke : List UInt8) (am sp : Int) (le : Nat) (ak : List UInt8)
    (hr : Rd w g o [.bool lk, .bool ly, .int .u64 (aq : Int), .int .u64 (se : Int), .int .u64 (sq : Int), .int .i64 op, .string (str ke), .int .i64 am, .int .i64 sp, .int .u64 (le : Int), .string (str ak)]) (hl : lk = true) :
    Calls Tryz.prog 111 #[.pointer (some ⟨g, o, none⟩)] w (Says (isNoCommand (.agg [.lit (.int .u64 (se : Int)), .lit (.int .u64 (sq : Int)), .lit (.int .i64 op), .lit (.string ke), .lit (.int .i64 am), .lit (.int .i64 sp), .lit (.int .u64 (le : Int))])) w) := by
  subst hl
  have c0 : w.cell? ⟨g, o, none⟩ = some (.bool true) := hr 0 _ rfl
  have c3 : w.cell? ⟨g, o + 3, none⟩ = some (.int .u64 (se : Int)) := hr 3 _ rfl
  have c4 : w.cell? ⟨g, o + 3 + 1, none⟩ = some (.int .u64 (sq : Int)) := hr 4 _ rfl
  have c5 : w.cell? ⟨g, o + 3 + 2, none⟩ = some (.int .i64 op) := hr 5 _ rfl
  have c6 : w.cell? ⟨g, o + 3 + 3, none⟩ = some (.string (str ke)) := hr 6 _ rfl
  have c7 : w.cell? ⟨g, o + 3 + 4, none⟩ = some (.int .i64 am) := hr 7 _ rfl
  have c8 : w.cell? ⟨g, o + 3 + 5, none⟩ = some (.int .i64 sp) := hr 8 _ rfl
  have c9 : w.cell? ⟨g, o + 3 + 6, none⟩ = some (.int .u64 (le : Int)) := hr 9 _ rfl
  clear hr
  go_enter Tryz.func111, Tryz.ntmps111
  go_wp2
  all_goals
    go_ret
    refine ⟨?_, Below.refl _ _⟩
    simp_all [isNoCommand, str_nil]
theorem field0 (a b c : Value) (w : World) : (Instr.field 87 (.agg #[a, b, c]) 0).run Tryz.prog w = .ok a w := by
  simp [Instr.field, Sem.run_bind, Tryz.runUnderlying87, part, asAgg, go_sem]
set_option maxRecDepth 100000 in
set_option maxHeartbeats 4000000 in
theorem askTied_call (g o : Nat) (w : World) (lk ly : Bool) (aq se sq : Nat) (op : Int) (ke : List UInt8) (am sp : Int) (le : Nat) (ak : List UInt8) {c : Data}
    (hr : Rd w g o [.bool lk, .bool ly, .int .u64 (aq : Int), .int .u64 (se : Int), .int .u64 (sq : Int), .int .i64 op, .string (str ke), .int .i64 am, .int .i64 sp, .int .u64 (le : Int), .string (str ak)]) (hl : lk = false)
    (hrep : commandK.rep w (Old w) [.int .u64 (se : Int), .int .u64 (sq : Int), .int .i64 op, .string (str ke), .int .i64 am, .int .i64 sp, .int .u64 (le : Int)] c) :
    Calls Tryz.prog 111 #[.pointer (some ⟨g, o, none⟩)] w (Says (commandK.sound c && ak.isEmpty && !ly) w) := by
  subst hl
  have c0 : w.cell? ⟨g, o, none⟩ = some (.bool false) := hr 0 _ rfl
  have hfd := field0
  have HR := Lib.hid hr
  have HREP := Lib.hid hrep
  clear hr hrep
  cases hsd : commandK.sound c with
  | false =>
    have HSD := Lib.hid hsd
    clear hsd
    show Calls _ _ _ _ (Says false w)
    go_enter Tryz.func111, Tryz.ntmps111
    go_wp2
    first
    | (go_region_law (first
      | (go_simp; go_at_call 29; refine (commandKind_any _ (Nat.le_refl _)).mono ?_; rintro e w1 ⟨f1, f2, f3, rfl, hk, hb1⟩
         have HB1 := Lib.hid (below_undrew hb1)
         obtain ⟨_, ⟨q1, x1, rfl, e1, HS0⟩, ⟨q2, x2, rfl, _⟩, ⟨q3, x3, rfl, _⟩⟩ := hk
         have e1' : ∀ (args : Array Value) (w : World), (callFunc q1 args).run Tryz.prog w = .ok (.enter q1 args) w := e1
         have HS := Lib.hid HS0
         clear hb1 HS0 e1)
      | (go_simp; go_at_fn q1; have hcall := HS.out _ (keeps_of (Below.refl _ _)) g (o + 3) _ c ((HR.out.part (a := [.bool false, .bool ly, .int .u64 (aq : Int)]) (b := [.int .u64 (se : Int), .int .u64 (sq : Int), .int .i64 op, .string (str ke), .int .i64 am, .int .i64 sp, .int .u64 (le : Int)] ++ [.string (str ak)])).head.below HB1.out) (commandK_ok.below HREP.out HB1.out)
         rw [HSD.out] at hcall
         refine hcall.mono ?_; rintro e w2 ⟨rfl, hb2⟩
         have HB2 := Lib.hid (By.ext HB1.out hb2)
         clear hb2 hcall)))
    | fail "region"
    all_goals
      go_wp2
      go_ret
      exact ⟨rfl, HB2.out⟩
  | true =>
    have HSD := Lib.hid hsd
    clear hsd
    obtain ⟨bb, hbb⟩ : ∃ bb, ak.isEmpty = bb := ⟨_, rfl⟩
    show Calls _ _ _ _ (Says (ak.isEmpty && !ly) w)
    rw [hbb]
    cases bb with
    | false =>
      have hne : ¬ (str ak).toList = [] := by
        rw [str_nil]
        intro e
        subst e
        cases hbb
      have hne2 : (str ak).toList.isEmpty = false := by
        cases hq : (str ak).toList with
        | nil => exact absurd hq hne
        | cons x t => rfl
      clear hbb
      show Calls _ _ _ _ (Says false w)
      go_enter Tryz.func111, Tryz.ntmps111
      go_wp2
      first
      | (go_region_law (first
        | (go_simp; go_at_call 29; refine (commandKind_any _ (Nat.le_refl _)).mono ?_; rintro e w1 ⟨f1, f2, f3, rfl, hk, hb1⟩
           have HB1 := Lib.hid (below_undrew hb1)
           obtain ⟨_, ⟨q1, x1, rfl, e1, HS0⟩, ⟨q2, x2, rfl, _⟩, ⟨q3, x3, rfl, _⟩⟩ := hk
           have e1' : ∀ (args : Array Value) (w : World), (callFunc q1 args).run Tryz.prog w = .ok (.enter q1 args) w := e1
           have HS := Lib.hid HS0
           clear hb1 HS0 e1)
        | (go_simp; go_at_fn q1; have hcall := HS.out _ (keeps_of (Below.refl _ _)) g (o + 3) _ c ((HR.out.part (a := [.bool false, .bool ly, .int .u64 (aq : Int)]) (b := [.int .u64 (se : Int), .int .u64 (sq : Int), .int .i64 op, .string (str ke), .int .i64 am, .int .i64 sp, .int .u64 (le : Int)] ++ [.string (str ak)])).head.below HB1.out) (commandK_ok.below HREP.out HB1.out)
           rw [HSD.out] at hcall
           refine hcall.mono ?_; rintro e w2 ⟨rfl, hb2⟩
           have hr2 := HR.out.below (By.ext HB1.out hb2)
           have cK : w2.cell? ⟨g, o + 10, none⟩ = some (.string (str ak)) := hr2 10 _ rfl
           have cL : w2.cell? ⟨g, o + 1, none⟩ = some (.bool ly) := hr2 1 _ rfl
           have HB2 := Lib.hid (By.ext HB1.out hb2)
           clear hb2 hcall hr2)))
      | fail "region"
      all_goals
        go_wp2
        go_ret
        exact ⟨rfl, HB2.out⟩
    | true =>
      have hnil : ak = [] := by simpa using hbb
      subst hnil
      have hne : (str []).toList = [] := (str_nil []).2 rfl
      have hne2 : (str []).toList.isEmpty = true := by rw [hne]; rfl
      clear hbb
      show Calls _ _ _ _ (Says (!ly) w)
      go_enter Tryz.func111, Tryz.ntmps111
      go_wp2
      go_region_law (first
        | (go_simp; go_at_call 29; refine (commandKind_any _ (Nat.le_refl _)).mono ?_; rintro e w1 ⟨f1, f2, f3, rfl, hk, hb1⟩
           have HB1 := Lib.hid (below_undrew hb1)
           obtain ⟨_, ⟨q1, x1, rfl, e1, HS0⟩, ⟨q2, x2, rfl, _⟩, ⟨q3, x3, rfl, _⟩⟩ := hk
           have e1' : ∀ (args : Array Value) (w : World), (callFunc q1 args).run Tryz.prog w = .ok (.enter q1 args) w := e1
           have HS := Lib.hid HS0
           clear hb1 HS0 e1)
        | (go_simp; go_at_fn q1; have hcall := HS.out _ (keeps_of (Below.refl _ _)) g (o + 3) _ c ((HR.out.part (a := [.bool false, .bool ly, .int .u64 (aq : Int)]) (b := [.int .u64 (se : Int), .int .u64 (sq : Int), .int .i64 op, .string (str ke), .int .i64 am, .int .i64 sp, .int .u64 (le : Int)] ++ [.string (str [])])).head.below HB1.out) (commandK_ok.below HREP.out HB1.out)
           rw [HSD.out] at hcall
           refine hcall.mono ?_; rintro e w2 ⟨rfl, hb2⟩
           have hr2 := HR.out.below (By.ext HB1.out hb2)
           have cK : w2.cell? ⟨g, o + 10, none⟩ = some (.string (str [])) := hr2 10 _ rfl
           have cL : w2.cell? ⟨g, o + 1, none⟩ = some (.bool ly) := hr2 1 _ rfl
           have HB2 := Lib.hid (By.ext HB1.out hb2)
           clear hb2 hcall hr2))
      all_goals
        go_wp2
        go_ret
        exact ⟨rfl, HB2.out⟩
theorem ask_tied {L : Nat} (W : World) : TiedAt L W (.func (.func 111) #[] #[]) askF askT := by
  refine ⟨_, _, rfl, enters_of Tryz.func111 (by kernel_rfl) rfl, ?_⟩
  intro w _ g o vs ds hr hrep
  have hrep2 := hrep
  obtain ⟨lk, ly, aq, se, sq, op, ke, am, sp, le, ak, rfl, rfl, h1, h2, h3, h4, h5, h6⟩ := ask_shape hrep
  cases lk with
  | true => exact askTied_look g o w true ly aq se sq op ke am sp le ak hr rfl
  | false =>
    refine askTied_call g o w false ly aq se sq op ke am sp le ak hr rfl ?_
    exact ⟨_, rfl, _, _, _, _, rfl, rfl, ⟨se, h1.2.1, rfl, rfl⟩, _, _, _, _, rfl, rfl, ⟨sq, h1.2.2.1, rfl, rfl⟩, _, _, _, _, rfl, rfl, ⟨op, h2.1, h2.2, rfl, rfl⟩, _, _, _, _, rfl, rfl, ⟨ke, rfl, rfl, h5⟩, _, _, _, _, rfl, rfl, ⟨am, h3.1, h3.2, rfl, rfl⟩, _, _, _, _, rfl, rfl, ⟨sp, h4.1, h4.2, rfl, rfl⟩, _, _, _, _, rfl, rfl, ⟨le, h1.2.2.2, rfl, rfl⟩, rfl, rfl⟩
end Go.Proofs.YtlgbipmmpocepaaGreat.Kd
