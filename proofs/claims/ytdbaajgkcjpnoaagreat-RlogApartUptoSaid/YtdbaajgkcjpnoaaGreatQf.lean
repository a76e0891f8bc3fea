/- A log and the reference's, beside each other; what every law of layer 11 asks first; begin. | The law's alike, as a contract of a call. -/
import Derived.Test.YtdbaajgkcjpnoaaGreatRgN
import Derived.Test.YtdbaajgkcjpnoaaGreatQd
import Derived.Test.YtdbaajgkcjpnoaaGreatGS
/-! A log and the reference's, beside each other; what every law of layer 11 asks first; begin. -/
namespace Go.Proofs.YtdbaajgkcjpnoaaGreat.Rg
open Go.RowKit By CoP Co Mo Kd

/-- A log and the reference's, apart, in blocks F; the reference's entries' bytes lie below B. -/
def TwoAt (B : Nat) (w : World) (p q : Nat) (s1 s2 : Lg) (F : Nat → Prop) : Prop :=
  ∃ v S u T, LogIs w p s1 v S ∧ RefIs w q s2 u T (fun b => b < B) ∧ (∀ b, S b → F b) ∧ (∀ b, T b → F b) ∧ (∀ b, S b → ¬ T b) ∧ (∀ b, F b → B ≤ b ∧ b < w.heap.size)
theorem TwoAt.keep {B : Nat} {w w' : World} {p q : Nat} {s1 s2 : Lg} {F : Nat → Prop} (h : TwoAt B w p q s1 s2 F) (hz : w.heap.size ≤ w'.heap.size) (hb : ∀ b, F b ∨ b < B → w'.heap[b]? = w.heap[b]?) : TwoAt B w' p q s1 s2 F := by
  obtain ⟨v, S, u, T, h1, h2, h3, h4, h5, h6⟩ := h
  exact ⟨v, S, u, T, h1.keep hz (fun b e => hb b (.inl (h3 b e))), h2.keep hz (fun b e => by rcases e with e | e; exact hb b (.inl (h4 b e)); exact hb b (.inr e)), h3, h4, h5, fun b e => ⟨(h6 b e).1, Nat.lt_of_lt_of_le (h6 b e).2 hz⟩⟩
theorem TwoAt.low {B : Nat} {w : World} {p q : Nat} {s1 s2 : Lg} {F : Nat → Prop} (h : TwoAt B w p q s1 s2 F) : B ≤ w.heap.size := by
  obtain ⟨v, S, u, T, h1, h2, h3, h4, h5, h6⟩ := h
  have := h6 p (h3 p h1.ing)
  omega
theorem TwoAt.below {B : Nat} {w w' : World} {p q : Nat} {s1 s2 : Lg} {F : Nat → Prop} (h : TwoAt B w p q s1 s2 F) (hb : Below w.heap.size w w') : TwoAt B w' p q s1 s2 F := by
  have hl := h.low
  refine h.keep hb.size (fun b e => hb.block b ?_)
  rcases e with e | e
  · obtain ⟨v, S, u, T, h1, h2, h3, h4, h5, h6⟩ := h
    exact (h6 b e).2
  · omega
/-- What a call on both comes to. -/
def BStep (B p q : Nat) (s1 s2 : Lg) (F : Nat → Prop) (w w' : World) : Prop := ∃ F', TwoAt B w' p q s1 s2 F' ∧ (∀ b, F' b → F b ∨ w.heap.size ≤ b) ∧ Kept F w w'
theorem BStep.same {B p q : Nat} {s1 s2 : Lg} {F : Nat → Prop} {w w' : World} (h : TwoAt B w p q s1 s2 F) (hb : Below w.heap.size w w') : BStep B p q s1 s2 F w w' := ⟨F, h.below hb, fun _ e => .inl e, Kept.of_below hb⟩
def e62 : En := ⟨6, 2, 1, 0, []⟩
theorem a62 : appA ⟨5, 2, []⟩ 5 2 [e62] = (6, 6, 0) ∧ appS ⟨5, 2, []⟩ 5 2 [e62] = ⟨5, 2, [e62]⟩ ∧ fits ⟨5, 2, [e62]⟩ 6 2 = true := by
  have h1 : okL 5 2 [e62] = true := by decide
  have h2 : fits ⟨5, 2, []⟩ 5 2 = true := by decide
  have h3 : fits ⟨5, 2, []⟩ 6 2 = false := by decide
  have h4 : newOnes ⟨5, 2, []⟩ [e62] = [e62] := by
    unfold newOnes
    rw [List.dropWhile_cons_of_neg (p := fun e : En => fits ⟨5, 2, []⟩ e.ix e.tm) (by show ¬ fits ⟨5, 2, []⟩ 6 2 = true; rw [h3]; decide)]
  unfold appA appS
  rw [if_pos h1, if_pos h2, if_pos ⟨h1, h2⟩]
  unfold fromA appendL
  rw [h4]
  exact ⟨rfl, rfl, by decide⟩
theorem one_rep (w : World) (e : En) (he : e.da = []) (h1 : e.ix < 18446744073709551616) (h2 : e.tm < 18446744073709551616) (h3 : -9223372036854775808 ≤ e.kd ∧ e.kd ≤ 9223372036854775807) (h4 : -9223372036854775808 ≤ e.dl ∧ e.dl ≤ 9223372036854775807) (g : Nat)
    (hr : w.heap[g]? = some (.cells #[.int .u64 (e.ix : Int), .int .u64 (e.tm : Int), .int .i64 e.kd, .int .i64 e.dl, .slice none 0 0] tApi (0, 0))) : (listK entryK 8).rep w (fun b => b = g) [.slice (some ⟨g, 0, none⟩) 1 1] (.agg ([e].map eD)) := by
  refine rep_of (es := [e]) (Nat.le_refl _) (by simp) (fun _ => ⟨g, 0, rfl, rfl, fun j x hx => ?_⟩)
  cases j with
  | zero =>
    obtain rfl : e = x := by simpa using hx
    refine ⟨none, 0, ⟨?_, ?_, ?_, ?_, ?_⟩, ⟨h1, h2, h3, h4, by rw [he]; exact Nat.le_refl _, by rw [he]; simp, by rw [he]; intro hh; simp at hh⟩⟩
    · rw [cell_of_row w g _ _ _ _ hr]; rfl
    · rw [cell_of_row w g _ _ _ _ hr]; rfl
    · rw [cell_of_row w g _ _ _ _ hr]; rfl
    · rw [cell_of_row w g _ _ _ _ hr]; rfl
    · rw [cell_of_row w g _ _ _ _ hr, he]; rfl
  | succ j => simp at hx
set_option maxHeartbeats 1600000 in
theorem answers_any (w : World) : Calls Tryz.prog 10 #[] w (True_ w) := by
  have HN := Lib.hid (new_ok 5 2 w (by decide) (by decide))
  have q := logTest
  go_enter Tryz.func10, Tryz.ntmps10
  go_wp2_with fail
  refine HN.out.mono ?_
  rintro e w1 ⟨rfl, hp1, hb1⟩
  have HB1 := Lib.hid hb1
  have HP1 := Lib.hid hp1
  have HNZ := Lib.hid (hp1.lt _ hp1.ing)
  clear hp1 hb1 HN
  go_wp2_with fail
  have hrr := heap_alloc_new w1 (.cells #[.int .u64 6, .int .u64 2, .int .i64 1, .int .i64 0, .slice none 0 0] tApi)
  have hbr : Below w1.heap.size w1 (w1.alloc (.cells #[.int .u64 6, .int .u64 2, .int .i64 1, .int .i64 0, .slice none 0 0] tApi)) := (Below.refl _ _).alloc (Nat.le_refl _) _
  have HA := Lib.hid (append_any (R := fun b => b = w1.heap.size) _ (HP1.out.below hbr) 5 2 (by decide) (l := [e62]) (one_rep _ e62 rfl (by decide) (by decide) (by decide) (by decide) w1.heap.size hrr) (fun b hb => ⟨by subst hb; exact row_lt hrr, fun hh => by have hh : b = w.heap.size := hh; have := HNZ.out; omega⟩) (by decide))
  have hz2 := hbr.size
  refine HA.out.mono ?_
  rintro e w2 ⟨rfl, v2, S2, hl2, hs2, hk2⟩
  obtain ⟨q1, q2, q3⟩ := a62
  rw [q1]
  rw [q2] at hl2
  unfold appV
  have HF := Lib.hid (fits_any w2 hl2 6 2)
  rw [q3] at HF
  have HB2 := Lib.hid (show Below w.heap.size w w2 from (HB1.out.trans (hbr.mono HB1.out.size)).trans (hk2.below (Nat.le_trans HB1.out.size hz2) (fun b hb => by have hb : b = w.heap.size := hb; omega)))
  clear HA hl2 hs2 hk2 q1 q2 q3 hrr hbr hz2
  go_wp2_with (go_at_call 21; refine HF.out.mono ?_; rintro e w3 ⟨rfl, hb3⟩; have HB3 := Lib.hid (By.ext HB2.out hb3); clear hb3)
  go_ret
  exact ⟨rfl, HB3.out⟩
/-- A log and the reference's, begun. -/
def BeginPost (B i t : Nat) (w : World) (e : Ending) (w' : World) : Prop := ∃ p q F, e = .returned (.tuple #[ptr p, ptr q]) ∧ TwoAt B w' p q ⟨i, t, []⟩ ⟨i, t, []⟩ F ∧ (∀ b, F b → w.heap.size ≤ b) ∧ Below w.heap.size w w'
theorem begun {B : Nat} {w w1 : World} {i t : Nat} (hB : B ≤ w.heap.size) (hp : LogIs w1 w.heap.size ⟨i, t, []⟩ (.slice none 0 0) (fun b => b = w.heap.size)) (hb : Below w.heap.size w w1) :
    BeginPost B i t w (.returned (.tuple #[ptr w.heap.size, ptr w1.heap.size])) (w1.alloc (.cells #[.int .u64 (i : Int), .int .u64 (t : Int), .slice none 0 0] tRef)) := by
  have hlt := hp.lt _ hp.ing
  have hz := hb.size
  refine ⟨_, _, fun b => b = w.heap.size ∨ b = w1.heap.size, rfl, ⟨_, _, .slice none 0 0, fun b => b = w1.heap.size, hp.below ((Below.refl _ _).alloc (Nat.le_refl _) _), ⟨heap_alloc_new _ _, ⟨[], World.ownsRow_nil _ _ _ _, fun i e he => by simp at he⟩, rfl, (fun b hh => by cases hh), (fun b hh => by subst hh; rw [World.size_alloc]; omega), (fun b hh => ⟨by rw [World.size_alloc]; omega, fun h2 => by omega⟩), hp.ok⟩, fun b hh => .inl hh, fun b hh => .inr hh, fun b h1 h2 => by omega, fun b hh => by rw [World.size_alloc]; omega⟩, fun b hh => by omega, hb.alloc hz _⟩
set_option maxHeartbeats 800000 in
theorem begin_ok (B i t : Nat) (w : World) (hB : B ≤ w.heap.size) (hi : i ≤ 4611686018427387904) (ht : t ≤ 4611686018427387904) : Calls Tryz.prog 9 #[.int .u64 (i : Int), .int .u64 (t : Int)] w (BeginPost B i t w) := by
  have HN := Lib.hid (new_ok i t w hi ht)
  go_enter Tryz.func9, Tryz.ntmps9
  go_wp2_with (go_at_call 22; refine HN.out.mono ?_; rintro e w1 ⟨rfl, hp1, hb1⟩; have HP1 := Lib.hid hp1; have HB1 := Lib.hid hb1; clear hp1 hb1)
  go_ret2
  exact begun hB HP1.out HB1.out
set_option maxHeartbeats 800000 in
theorem begin_bad (i t : Nat) (w : World) (h : 4611686018427387904 < i ∨ 4611686018427387904 < t) : Calls Tryz.prog 9 #[.int .u64 (i : Int), .int .u64 (t : Int)] w (fun e w' => ∃ q, e = .returned (.tuple #[.pointer none, ptr q]) ∧ Below w.heap.size w w') := by
  have HN := Lib.hid (new_bad i t w h)
  go_enter Tryz.func9, Tryz.ntmps9
  go_wp2_with (go_at_call 22; refine HN.out.mono ?_; rintro e w1 ⟨rfl, hb1⟩; have HB1 := Lib.hid hb1; clear hb1)
  go_ret2
  exact ⟨_, rfl, HB1.out.alloc HB1.out.size _⟩
end Go.Proofs.YtdbaajgkcjpnoaaGreat.Rg

/-! The law's alike, as a contract of a call. -/
namespace Go.Proofs.YtdbaajgkcjpnoaaGreat.Rg
open Go.RowKit By CoP Co Mo Kd

theorem from_all (s : Lg) (n : Nat) : fromR s (s.ix + 1) ((s.es.length + n : Nat) : Int) = (s.es, 0) := by
  unfold fromR
  rw [if_neg (by omega), if_neg (by omega), if_neg (by omega), Nat.sub_self, List.drop_zero, Int.toNat_natCast, List.take_of_length_le (by omega)]
theorem eD_refl (es : List En) : sameEs (es.map eD) (es.map eD) = true := sameEs_refl (fun d hd => by
  obtain ⟨e, _, rfl⟩ := List.mem_map.1 hd
  exact sameE_refl _ _ _ _ _)
set_option maxRecDepth 100000 in
set_option maxHeartbeats 3200000 in
theorem alike_any {B : Nat} {w : World} {p q : Nat} {s : Lg} {F : Nat → Prop} (h : TwoAt B w p q s s F) (hn : s.es.length ≤ 1073741823) : Calls Tryz.prog 13 #[ptr p, ptr q] w (True_ w) := by
  obtain ⟨v, S, u, T, h1, h2, -, -, -, -⟩ := h
  have HB := Lib.hid (base_any w h1)
  have HLA := Lib.hid (fun W (hW : Below w.heap.size w W) => last_any W (h1.below hW))
  have HRL := Lib.hid (fun W (hW : Below w.heap.size w W) => rlast_any W (h2.below hW))
  obtain ⟨X, hX⟩ : ∃ X : Int, X = (s.ix : Int) := ⟨_, rfl⟩
  obtain ⟨N, hN⟩ : ∃ N : Int, N = (s.es.length : Int) := ⟨_, rfl⟩
  have hend := h1.ok.end_
  have HFR := Lib.hid (show ∀ W, Below w.heap.size w W → Calls Tryz.prog 25 #[ptr p, .int .u64 (X + 1), .int .i64 (N + 9)] W (FromPost s.es 0 W) from fun W hW => by
    have := from_any W (h1.below hW) (s.ix + 1) ((s.es.length + 9 : Nat) : Int) hn
    rw [from_all] at this
    rw [hX, hN]
    have e1 : ((s.ix + 1 : Nat) : Int) = (s.ix : Int) + 1 := by omega
    have e2 : ((s.es.length + 9 : Nat) : Int) = (s.es.length : Int) + 9 := by omega
    rwa [e1, e2] at this)
  obtain ⟨A, c, rfl⟩ := h2.form
  have HALL := Lib.hid (fun W (hW : Below w.heap.size w W) => (h2.below hW).cells)
  have HRP := Lib.hid (fun W (hW : Below w.heap.size w W) => (h2.below hW).rep (by omega) 8)
  have HSM := Lib.hid (eD_refl s.es)
  have hX0 : 0 ≤ X ∧ X + 1 ≤ 4611686018427387905 := by omega
  have hN0 : 0 ≤ N ∧ N + 9 ≤ 1073741832 := by omega
  obtain ⟨hX0, hX1⟩ := hX0
  obtain ⟨hN0, hN1⟩ := hN0
  rw [← hX] at HALL
  obtain ⟨m, hm⟩ : ∃ m, m = s.es.length := ⟨_, rfl⟩
  rw [← hm] at HALL HRP hN hn
  have HM := Lib.hid hm
  unfold pairV at HB HLA HRL
  rw [← hX] at HB
  generalize lastL s = lt at *
  obtain ⟨l1, l2⟩ := lt
  dsimp only at HB HLA HRL
  have hmN : (m : Int) = N := hN.symm
  clear h1 h2 hX hN hend hm
  go_enter Tryz.func13, Tryz.ntmps13
  go_upto_region 4 with (first
    | (go_at_call 34; refine HB.out.mono ?_; rintro e w1 ⟨rfl, hb⟩; have HB1 := Lib.hid hb; clear hb)
    | (go_at_call 23; refine (HLA.out _ HB1.out).mono ?_; rintro e w2 ⟨rfl, hb⟩; have HB2 := Lib.hid (By.ext HB1.out hb); clear hb)
    | (go_at_call 35; refine (HRL.out _ HB2.out).mono ?_; rintro e w3 ⟨rfl, hb⟩; have HB3 := Lib.hid (By.ext HB2.out hb); clear hb))
  have HB3d := Lib.hid HB3.out.drew
  have HT1 := Lib.hid trivial
  go_region_held3 (fun w' => w'.cell? ⟨q, 0, none⟩ = some (.int .u64 X) ∧ w'.cell? ⟨q, 1, none⟩ = some (.int .u64 (s.tm : Int)) ∧ w'.cell? ⟨q, 2, none⟩ = some (.slice A m c))
    (first
      | with_reducible assumption
      | exact HALL.out _ HB3d.out
      | exact HALL.out _ HB4.out)
    (first
      | (go_at_call 25; clear HT1; rw [wrap_u (x := X + 1) (by omega) (by omega), wrap_i (x := N + 9) (by omega) (by omega)]; refine (HFR.out _ HB3d.out).mono ?_; rintro e w4 ⟨v4, rows4, rfl, ho4, hi4, hb⟩
         obtain ⟨A4, c4, rfl⟩ := ownsRow_form ho4
         have HI4 := Lib.hid hi4
         have HO4 := Lib.hid ho4
         have HB4 := Lib.hid (By.ext HB3d.out hb)
         clear hb ho4 hi4))
  obtain ⟨c0, c1, c2⟩ := HALL.out w4 HB4.out
  have HC := Lib.hid (sameEntries_any A4 A _ c4 m c _ _ w4 ((listK_ok entryK_ok 8).keep (HI4.out.rep entryK_ok (by rw [List.length_map]; exact HO4.out) (by rw [List.length_map]; have := HM.out; omega) 8) (fun _ _ => rfl) (fun b hb => hb.1.2)) (HRP.out w4 HB4.out))
  rw [HSM.out] at HC
  go_wp2_with (go_at_call 31; refine HC.out.mono ?_; rintro e w5 ⟨rfl, hb⟩; have HB5 := Lib.hid (By.ext HB4.out hb); clear hb)
  go_ret
  exact ⟨rfl, HB5.out⟩
end Go.Proofs.YtdbaajgkcjpnoaaGreat.Rg
