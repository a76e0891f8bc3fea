/- The law's answers, act and alike, as contracts of calls. -/
import Derived.Test.YthpcmcnkiiebkaaCkH
import Derived.BigQuiet
import Derived.RegionTactic
namespace Go.Proofs.Ythpcmcnkiiebkaa.Ck
open Go.RowKit Go.Maps By Mp SumP SumW

abbrev tAct : TypeId := 33
theorem Ret.same {v : Value} {w : World} {f : FuncId} {args : Array Value} (h : Calls Try.prog f args w (Ret v w)) : Calls Try.prog f args w (fun e w' => e = .returned v ∧ w' = w) := h.mono fun _ _ h => ⟨h.1, h.2.symm⟩
/-- True, and old memory as it was. -/
theorem pass_five : passE (begun 1 0 0) 5 0 = 0 ∧ nowV (passC (begun 1 0 0) 5 0) 1 = .tuple #[.int .i64 5, .int .i64 0] ∧ (passC (begun 1 0 0) 5 0).real = 5 ∧ (passC (begun 1 0 0) 5 0).moved = false := by
  refine ⟨by decide +kernel, ?_, by decide +kernel, by decide +kernel⟩
  unfold nowV
  rw [if_pos (by decide +kernel)]
  have : (passC (begun 1 0 0) 5 0).time 1 = 5 := by decide +kernel
  rw [this]
set_option maxHeartbeats 1600000 in
theorem answers_any (w : World) : Calls Try.prog 9 #[] w (True_ w) := by
  have q1 := ptrTest
  have HN : Hid (Calls Try.prog 7 #[.int .i64 1, .int .i64 0, .int .i64 0] w (GivesNew 1 0 0 w)) := Lib.hid (new_good 1 0 0 (by decide) w)
  obtain ⟨f1, f2, f3, f4⟩ := pass_five
  have HF := Lib.hid (And.intro f1 (And.intro f2 (And.intro f3 f4)))
  clear f1 f2 f3 f4
  go_enter Try.func9, Try.ntmps9
  go_wp2_with fail
  refine HN.out.mono ?_
  rintro e w1 ⟨g, S, rfl, hc, hs, hb⟩
  have HP := Lib.hid (pass_any hc 5 0 (by omega) (by omega))
  rw [HF.out.1] at HP
  have HB1 := Lib.hid hb
  have HS1 := Lib.hid hs
  clear hc hs hb HN
  go_wp2_with fail
  refine HP.out.mono ?_
  rintro e w2 ⟨rfl, S2, hc2, hs2, hk2⟩
  have HB2 := Lib.hid (HB1.out.trans (hk2.below HB1.out.size HS1.out))
  have HW := Lib.hid (now_any hc2 1 (by omega) (by omega))
  rw [HF.out.2.1] at HW
  have HT := Lib.hid (true_any hc2)
  rw [HF.out.2.2.1] at HT
  have HY := Lib.hid (steady_any hc2)
  rw [HF.out.2.2.2] at HY
  clear hc2 hs2 hk2 HP
  go_wp2_with (first
    | (go_at_call 14; refine HW.out.mono ?_; rintro e w3 ⟨rfl, rfl⟩)
    | (go_at_call 13; refine HT.out.mono ?_; rintro e w3 ⟨rfl, rfl⟩)
    | (go_at_call 16; refine HY.out.mono ?_; rintro e w3 ⟨rfl, rfl⟩))
  go_ret
  exact ⟨rfl, HB2.out⟩
/-- Clocks and the reference's, the same, with nothing in common. -/
structure Two (w : World) (g r : Nat) (c : C9) (S T : Nat → Prop) : Prop where
  clk : ClkIs w g c S
  ref : RefIs w r c T
  apart : ∀ b, S b → T b → False
theorem Two.below {w w' : World} {g r : Nat} {c : C9} {S T : Nat → Prop} (h : Two w g r c S T) (hb : Below w.heap.size w w') : Two w' g r c S T := ⟨h.clk.below hb, h.ref.below hb, h.apart⟩
/-- True of both, which are now c'. -/
def AStep (g r : Nat) (c' : C9) (S T : Nat → Prop) (w : World) (e : Ending) (w' : World) : Prop :=
  e = .returned (.bool true) ∧ ∃ S' T', Two w' g r c' S' T' ∧ (∀ b, S' b → S b ∨ w.heap.size ≤ b) ∧ (∀ b, T' b → T b ∨ w.heap.size ≤ b) ∧ Kept (fun b => S b ∨ T b) w w'
/-- A call on the one, then on the other. -/
theorem both {w w1 w2 w3 : World} {g r : Nat} {c c' : C9} {S T S2 T3 : Nat → Prop} (h : Two w g r c S T) (hb : Below w.heap.size w w1) (h2 : ClkIs w2 g c' S2) (hs2 : ∀ b, S2 b → S b ∨ w1.heap.size ≤ b) (hk2 : Kept S w1 w2) (h3 : RefIs w3 r c' T3) (ht3 : ∀ b, T3 b → T b ∨ w2.heap.size ≤ b) (hk3 : Kept T w2 w3) :
    AStep g r c' S T w (.returned (.bool true)) w3 := by
  have z1 := hb.size
  have z2 := hk2.size
  refine ⟨rfl, S2, T3, ⟨h2.keep (fun b hb2 => hk3.block b (h2.lt b hb2) (fun ht => ?_)) hk3.size, h3, fun b hb2 ht => ?_⟩, fun b hb2 => ?_, fun b hb2 => ?_, ?_⟩
  · rcases hs2 b hb2 with e | e
    · exact h.apart b e ht
    · have := h.ref.lt b ht; omega
  · rcases ht3 b ht with e | e
    · rcases hs2 b hb2 with e2 | e2
      · exact h.apart b e2 e
      · have := h.ref.lt b e; omega
    · have := h2.lt b hb2; omega
  · exact (hs2 b hb2).imp id (fun e => by omega)
  · exact (ht3 b hb2).imp id (fun e => by omega)
  · have k1 : Kept (fun b => S b ∨ T b) w w1 := Kept.of_below hb
    have k2 : Kept (fun b => S b ∨ T b) w w2 := k1.step hk2 (fun b _ e => .inl e)
    exact k2.step hk3 (fun b _ e => .inr e)
/-- An act as plain values. -/
structure A9 where
  kind : Int
  e : Int
  n : Int
  d : Int
structure A9.Ok (a : A9) : Prop where
  e : -9223372036854775808 ≤ a.e ∧ a.e ≤ 9223372036854775807
  d : 0 ≤ a.d ∧ a.d ≤ 18446744073709551615
def actV (a : A9) : Value := .agg #[.int .i64 a.kind, .int .i64 a.e, .int .i64 a.n, .int .u64 a.d]
def actC (c : C9) (a : A9) : C9 := if a.kind = 1 then passC c a.n a.d else if a.kind = 2 then tickC c a.e a.n else c
theorem acells {w : World} {b : Nat} {x0 x1 x2 x3 : Value} (h : w.heap[b]? = some (.cells #[x0, x1, x2, x3] tAct (0, 0))) : w.cell? ⟨b, 0, none⟩ = some x0 ∧ w.cell? ⟨b, 1, none⟩ = some x1 ∧ w.cell? ⟨b, 2, none⟩ = some x2 ∧ w.cell? ⟨b, 3, none⟩ = some x3 :=
  ⟨by rw [cell_of_row w b 0 _ _ _ h]; rfl, by rw [cell_of_row w b 1 _ _ _ h]; rfl, by rw [cell_of_row w b 2 _ _ _ h]; rfl, by rw [cell_of_row w b 3 _ _ _ h]; rfl⟩
set_option maxRecDepth 100000 in
set_option maxHeartbeats 4000000 in
theorem act_1 (g r : Nat) (c : C9) (S T : Nat → Prop) (w : World) (h : Two w g r c S T) (e n d : Int) (d0 : 0 ≤ d) (d1 : d ≤ 18446744073709551615) :
    Calls Try.prog 11 #[.pointer (some ⟨g, 0, none⟩), .pointer (some ⟨r, 0, none⟩), .agg #[.int .i64 1, .int .i64 e, .int .i64 n, .int .u64 d]] w (AStep g r (passC c n d) S T w) := by
  obtain ⟨w1, hw1⟩ : ∃ w1, w1 = w.alloc (.cells #[.int .i64 1, .int .i64 e, .int .i64 n, .int .u64 d] tAct) := ⟨_, rfl⟩
  have hb1 : Below w.heap.size w w1 := by rw [hw1]; exact (Below.refl _ _).alloc (Nat.le_refl _) _
  have hr1 : w1.heap[w.heap.size]? = some (.cells #[.int .i64 1, .int .i64 e, .int .i64 n, .int .u64 d] tAct (0, 0)) := by rw [hw1]; exact heap_alloc_new w _
  obtain ⟨bx, hbx⟩ : ∃ bx, bx = w.heap.size := ⟨_, rfl⟩
  rw [← hbx] at hr1
  obtain ⟨c0, c1, c2, c3⟩ := acells hr1
  obtain ⟨E, hE⟩ : ∃ E, E = passE c n d := ⟨_, rfl⟩
  have HC1 := Lib.hid (show ∀ w', Below w1.heap.size w1 w' → Calls Try.prog 15 #[.pointer (some ⟨g, 0, none⟩), .int .i64 n, .int .u64 d] w' (CStep (.int .i64 E) g (passC c n d) S w') from fun w' hb => by
    rw [hE]
    exact pass_any ((h.clk.below hb1).below hb) n d d0 d1)
  have HC2 := Lib.hid (show ∀ w', Kept S w1 w' → Calls Try.prog 21 #[.pointer (some ⟨r, 0, none⟩), .int .i64 n, .int .u64 d] w' (RStep (.int .i64 E) r (passC c n d) T w') from fun w' hb => by
    rw [hE]
    exact rpass_any ((h.ref.below hb1).keep (fun b ht => hb.block b (Nat.lt_of_lt_of_le (h.ref.lt b ht) hb1.size) (fun hs => h.apart b hs ht)) hb.size) n d d0 d1)
  have HALL := Lib.hid (show ∀ w', Kept (fun b => S b ∨ T b) w1 w' → w'.cell? ⟨bx, 1, none⟩ = some (.int .i64 e) ∧ w'.cell? ⟨bx, 2, none⟩ = some (.int .i64 n) ∧ w'.cell? ⟨bx, 3, none⟩ = some (.int .u64 d) from fun w' hk => by
    have := acells ((hk.block bx (row_lt hr1) (fun e => by
      rcases e with e | e
      · have := h.clk.lt _ e; omega
      · have := h.ref.lt _ e; omega)).trans hr1)
    exact this.2)
  have HH := Lib.hid h
  have HB1 := Lib.hid hb1
  have HW1 := Lib.hid hw1
  have HBX := Lib.hid hbx
  clear h hb1 hr1 hw1 hbx hE d0 d1
  go_enter Try.func11, Try.ntmps11
  go_upto_region 1 with fail
  rw [← HW1.out, ← HBX.out]
  go_upto_region 3 with fail
  have HB0 := Lib.hid (show Below w1.heap.size w1 w1.drew from (Below.refl _ _).drew)
  have HT1 := Lib.hid trivial
  go_region_held3 (fun w' => w'.cell? ⟨bx, 1, none⟩ = some (.int .i64 e) ∧ w'.cell? ⟨bx, 2, none⟩ = some (.int .i64 n) ∧ w'.cell? ⟨bx, 3, none⟩ = some (.int .u64 d))
    (first
      | with_reducible assumption
      | with_reducible exact HALL.out _ (Kept.of_below HB0.out)
      | with_reducible exact HALL.out _ HK2.out
      | with_reducible exact HALL.out _ HK3.out)
    (first
      | (go_at_call 15; clear HT1; refine (HC1.out _ HB0.out).mono ?_; rintro e wx ⟨rfl, S2, hc2, hs2, hk2⟩
         have HX2 := Lib.hid (And.intro hc2 (And.intro hs2 hk2))
         have HKS := Lib.hid (Kept.step (M := S) (Kept.of_below HB0.out) hk2 (fun b _ e => e))
         have HK2 := Lib.hid (HKS.out.mono (M' := fun b => S b ∨ T b) (fun b _ e => Or.inl e))
         clear hc2 hs2 hk2)
      | (go_at_call 21; refine (HC2.out _ HKS.out).mono ?_; rintro e wy ⟨rfl, T3, hc3, ht3, hk3⟩
         have HX3 := Lib.hid (And.intro hc3 (And.intro ht3 hk3))
         have HK3 := Lib.hid (HK2.out.step hk3 (fun b _ e => Or.inr e))
         clear hc3 ht3 hk3))
  go_wp2
  go_ret
  first
    | exact both HH.out (By.ext HB1.out HB0.out) HX2.out.1 HX2.out.2.1 HX2.out.2.2 HX3.out.1 HX3.out.2.1 HX3.out.2.2
    | (have hfin := both HH.out (By.ext HB1.out HB0.out) HX2.out.1 HX2.out.2.1 HX2.out.2.2 HX3.out.1 HX3.out.2.1 HX3.out.2.2
       simpa using hfin)
set_option maxRecDepth 100000 in
set_option maxHeartbeats 4000000 in
theorem act_2 (g r : Nat) (c : C9) (S T : Nat → Prop) (w : World) (h : Two w g r c S T) (e n d : Int) (e0 : -9223372036854775808 ≤ e) (e1 : e ≤ 9223372036854775807) :
    Calls Try.prog 11 #[.pointer (some ⟨g, 0, none⟩), .pointer (some ⟨r, 0, none⟩), .agg #[.int .i64 2, .int .i64 e, .int .i64 n, .int .u64 d]] w (AStep g r (tickC c e n) S T w) := by
  obtain ⟨w1, hw1⟩ : ∃ w1, w1 = w.alloc (.cells #[.int .i64 2, .int .i64 e, .int .i64 n, .int .u64 d] tAct) := ⟨_, rfl⟩
  have hb1 : Below w.heap.size w w1 := by rw [hw1]; exact (Below.refl _ _).alloc (Nat.le_refl _) _
  have hr1 : w1.heap[w.heap.size]? = some (.cells #[.int .i64 2, .int .i64 e, .int .i64 n, .int .u64 d] tAct (0, 0)) := by rw [hw1]; exact heap_alloc_new w _
  obtain ⟨bx, hbx⟩ : ∃ bx, bx = w.heap.size := ⟨_, rfl⟩
  rw [← hbx] at hr1
  obtain ⟨c0, c1, c2, c3⟩ := acells hr1
  obtain ⟨E, hE⟩ : ∃ E, E = tickE c e n := ⟨_, rfl⟩
  have HC1 := Lib.hid (show ∀ w', Below w1.heap.size w1 w' → Calls Try.prog 19 #[.pointer (some ⟨g, 0, none⟩), .int .i64 e, .int .i64 n] w' (CStep (.int .i64 E) g (tickC c e n) S w') from fun w' hb => by
    rw [hE]
    exact tick_any ((h.clk.below hb1).below hb) e n e0 e1)
  have HC2 := Lib.hid (show ∀ w', Kept S w1 w' → Calls Try.prog 22 #[.pointer (some ⟨r, 0, none⟩), .int .i64 e, .int .i64 n] w' (RStep (.int .i64 E) r (tickC c e n) T w') from fun w' hb => by
    rw [hE]
    exact rtick_any ((h.ref.below hb1).keep (fun b ht => hb.block b (Nat.lt_of_lt_of_le (h.ref.lt b ht) hb1.size) (fun hs => h.apart b hs ht)) hb.size) e n e0 e1)
  have HALL := Lib.hid (show ∀ w', Kept (fun b => S b ∨ T b) w1 w' → w'.cell? ⟨bx, 1, none⟩ = some (.int .i64 e) ∧ w'.cell? ⟨bx, 2, none⟩ = some (.int .i64 n) ∧ w'.cell? ⟨bx, 3, none⟩ = some (.int .u64 d) from fun w' hk => by
    have := acells ((hk.block bx (row_lt hr1) (fun e => by
      rcases e with e | e
      · have := h.clk.lt _ e; omega
      · have := h.ref.lt _ e; omega)).trans hr1)
    exact this.2)
  have HH := Lib.hid h
  have HB1 := Lib.hid hb1
  have HW1 := Lib.hid hw1
  have HBX := Lib.hid hbx
  clear h hb1 hr1 hw1 hbx hE e0 e1
  go_enter Try.func11, Try.ntmps11
  go_upto_region 1 with fail
  rw [← HW1.out, ← HBX.out]
  go_upto_region 5 with fail
  have HB0 := Lib.hid (show Below w1.heap.size w1 w1.drew from (Below.refl _ _).drew)
  have HT1 := Lib.hid trivial
  go_region_held3 (fun w' => w'.cell? ⟨bx, 1, none⟩ = some (.int .i64 e) ∧ w'.cell? ⟨bx, 2, none⟩ = some (.int .i64 n) ∧ w'.cell? ⟨bx, 3, none⟩ = some (.int .u64 d))
    (first
      | with_reducible assumption
      | with_reducible exact HALL.out _ (Kept.of_below HB0.out)
      | with_reducible exact HALL.out _ HK2.out
      | with_reducible exact HALL.out _ HK3.out)
    (first
      | (go_at_call 19; clear HT1; refine (HC1.out _ HB0.out).mono ?_; rintro e wx ⟨rfl, S2, hc2, hs2, hk2⟩
         have HX2 := Lib.hid (And.intro hc2 (And.intro hs2 hk2))
         have HKS := Lib.hid (Kept.step (M := S) (Kept.of_below HB0.out) hk2 (fun b _ e => e))
         have HK2 := Lib.hid (HKS.out.mono (M' := fun b => S b ∨ T b) (fun b _ e => Or.inl e))
         clear hc2 hs2 hk2)
      | (go_at_call 22; refine (HC2.out _ HKS.out).mono ?_; rintro e wy ⟨rfl, T3, hc3, ht3, hk3⟩
         have HX3 := Lib.hid (And.intro hc3 (And.intro ht3 hk3))
         have HK3 := Lib.hid (HK2.out.step hk3 (fun b _ e => Or.inr e))
         clear hc3 ht3 hk3))
  go_wp2
  go_ret
  first
    | exact both HH.out (By.ext HB1.out HB0.out) HX2.out.1 HX2.out.2.1 HX2.out.2.2 HX3.out.1 HX3.out.2.1 HX3.out.2.2
    | (have hfin := both HH.out (By.ext HB1.out HB0.out) HX2.out.1 HX2.out.2.1 HX2.out.2.2 HX3.out.1 HX3.out.2.1 HX3.out.2.2
       simpa using hfin)
theorem act_o (g r : Nat) (c : C9) (S T : Nat → Prop) (w : World) (h : Two w g r c S T) (k e n d : Int) (h1 : (k == 1) = false) (h2 : (k == 2) = false) :
    Calls Try.prog 11 #[.pointer (some ⟨g, 0, none⟩), .pointer (some ⟨r, 0, none⟩), .agg #[.int .i64 k, .int .i64 e, .int .i64 n, .int .u64 d]] w (AStep g r c S T w) := by
  have HH := Lib.hid h
  have HB := Lib.hid (show Below w.heap.size w (w.alloc (.cells #[.int .i64 k, .int .i64 e, .int .i64 n, .int .u64 d] tAct)) from (Below.refl _ _).alloc (Nat.le_refl _) _)
  clear h
  go_enter Try.func11, Try.ntmps11
  go_wp2
  go_ret
  exact ⟨rfl, S, T, HH.out.below HB.out, fun _ h => .inl h, fun _ h => .inl h, Kept.of_below HB.out⟩
theorem act_any (g r : Nat) (c : C9) (S T : Nat → Prop) (w : World) (h : Two w g r c S T) (a : A9) (ha : a.Ok) :
    Calls Try.prog 11 #[.pointer (some ⟨g, 0, none⟩), .pointer (some ⟨r, 0, none⟩), actV a] w (AStep g r (actC c a) S T w) := by
  obtain ⟨k, e, n, d⟩ := a
  obtain ⟨he, hd⟩ := ha
  by_cases h1 : k = 1
  · subst h1
    exact act_1 g r c S T w h e n d hd.1 hd.2
  · by_cases h2 : k = 2
    · subst h2
      exact act_2 g r c S T w h e n d he.1 he.2
    · have e1 : actC c ⟨k, e, n, d⟩ = c := by simp [actC, h1, h2]
      rw [e1]
      exact act_o g r c S T w h k e n d (beq_eq_false_iff_ne.2 h1) (beq_eq_false_iff_ne.2 h2)
end Go.Proofs.Ythpcmcnkiiebkaa.Ck
