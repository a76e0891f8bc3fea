/- Calls that come in, in memory; the law's grown. | Two logs beside each other, taken apart. -/
import Derived.Test.YtdbaajgkcjpnoaaGreatRgX
import Derived.Test.YtdbaajgkcjpnoaaGreatKnL
/-! Calls that come in, in memory; the law's grown. -/
namespace Go.Proofs.YtdbaajgkcjpnoaaGreat.Rg
open Go.ChangeShapes Go.WideShapes Go.ChangeAt Go.RowKit Go.Deep By CoP Co Mo Kd

abbrev tActs : TypeId := 23
def actF : List Kd := [intK 0 0, intK 0 0, numK 0 0, numK 0 0, listK entryK 8]
def actK : Kd := recK actF (fun _ => true)
def a11D (a : A11) : Data := .agg [.lit (.int .i64 a.kd), .lit (.int .i64 a.n), .lit (.int .u64 (a.ix : Int)), .lit (.int .u64 (a.tm : Int)), .agg (a.l.map eD)]
theorem few_ents (es : List En) : es.length ≤ ((listK entryK 8).put (.agg (es.map eD))).length := by
  show es.length ≤ (putNum (es.map eD).length ++ (es.map eD).flatMap entryK.put).length
  rw [List.length_append]
  have : es.length ≤ ((es.map eD).flatMap entryK.put).length := by
    induction es with
    | nil => simp
    | cons e r ih =>
      rw [List.map_cons, List.flatMap_cons, List.length_append, List.length_cons]
      have h1 : 1 ≤ (entryK.put (eD e)).length := by
        show 1 ≤ (entryK.put (entryD e.ix e.tm e.kd e.dl e.da)).length
        rw [entry_put]
        unfold putEntry
        simp only [List.length_append, putNum_length]
        omega
      omega
  omega
/-- A call as it comes in. -/
structure ActV (w : World) (S : Nat → Prop) (a : A11) (A : Option Addr) (c : Nat) : Prop where
  ix : a.ix < 18446744073709551616
  tm : a.tm < 18446744073709551616
  rep : (listK entryK 8).rep w S [.slice A a.l.length c] (.agg (a.l.map eD))
theorem act_shape {w : World} {S : Nat → Prop} {vs : List Value} {d : Data} (h : actK.rep w S vs d) : ∃ (a : A11) (A : Option Addr) (c : Nat), vs = (a11V a A c).toList ∧ d = a11D a ∧ ActV w S a A c := by
  obtain ⟨_, rfl, hc⟩ := h
  obtain ⟨_, _, _, _, rfl, rfl, ⟨kd, k1, k2, rfl, rfl⟩, _, _, _, _, rfl, rfl, ⟨n, n1, n2, rfl, rfl⟩, _, _, _, _, rfl, rfl, ⟨ix, h1, rfl, rfl⟩, _, _, _, _, rfl, rfl, ⟨tm, h2, rfl, rfl⟩, _, _, _, _, rfl, rfl, hl, rfl, rfl⟩ := hc
  have hl0 := hl
  obtain ⟨A, c, ds, rfl, rfl, _, _, _⟩ := hl
  obtain ⟨es, rfl⟩ := ents_of hl0
  have e : (es.map eD).length = es.length := List.length_map _
  refine ⟨⟨kd, n, ix, tm, es⟩, A, c, ?_, rfl, ⟨h1, h2, ?_⟩⟩
  · unfold a11V; simp [e]
  · rw [e] at hl0; exact hl0
/-- Calls in memory, below block B. -/
def ActsAt (B : Nat) (w : World) (A : Option Addr) (n c : Nat) (l : List A11) : Prop :=
  n = l.length ∧ n ≤ c ∧ n ≤ 9437184 ∧ (0 < n → ∃ g o, A = some ⟨g, o, none⟩ ∧ g < B ∧ ∀ j a, l[j]? = some a → ∃ Aj cj, A11At B w a Aj cj ∧ w.cell? ⟨g, o + j * 5, none⟩ = some (.int .i64 a.kd) ∧ w.cell? ⟨g, o + j * 5 + 1, none⟩ = some (.int .i64 a.n) ∧
    w.cell? ⟨g, o + j * 5 + 2, none⟩ = some (.int .u64 (a.ix : Int)) ∧ w.cell? ⟨g, o + j * 5 + 3, none⟩ = some (.int .u64 (a.tm : Int)) ∧ w.cell? ⟨g, o + j * 5 + 4, none⟩ = some (.slice Aj a.l.length cj))
theorem A11At.below {B : Nat} {w w' : World} {a : A11} {A : Option Addr} {c : Nat} (h : A11At B w a A c) (hb : Below B w w') : A11At B w' a A c :=
  ⟨h.ix, h.tm, h.few, (listK_ok entryK_ok 8).keep h.rep (fun b hB => hb.block b hB) (fun _ e => e)⟩
theorem ActsAt.below {B : Nat} {w w' : World} {A : Option Addr} {n c : Nat} {l : List A11} (h : ActsAt B w A n c l) (hb : Below B w w') : ActsAt B w' A n c l := by
  obtain ⟨h1, h2, h3, h4⟩ := h
  refine ⟨h1, h2, h3, fun hp => ?_⟩
  obtain ⟨g, o, e, hg, hc⟩ := h4 hp
  refine ⟨g, o, e, hg, fun j a ha => ?_⟩
  obtain ⟨Aj, cj, h5, c0, c1, c2, c3, c4⟩ := hc j a ha
  exact ⟨Aj, cj, h5.below hb, (hb.cell (p := ⟨g, _, none⟩) hg).trans c0, (hb.cell (p := ⟨g, _, none⟩) hg).trans c1, (hb.cell (p := ⟨g, _, none⟩) hg).trans c2, (hb.cell (p := ⟨g, _, none⟩) hg).trans c3, (hb.cell (p := ⟨g, _, none⟩) hg).trans c4⟩
theorem mem_put {k : Kd} {ds : List Data} {d : Data} (h : d ∈ ds) : (k.put d).length ≤ (ds.flatMap k.put).length := by
  induction ds with
  | nil => cases h
  | cons x r ih =>
    rw [List.flatMap_cons, List.length_append]
    rcases List.mem_cons.1 h with rfl | h
    · omega
    · have := ih h; omega
theorem act_put (a : A11) : a.l.length ≤ (actK.put (a11D a)).length ∧ 1 ≤ (actK.put (a11D a)).length := by
  have e : actK.put (a11D a) = putNum (u64N a.kd) ++ (putNum (u64N a.n) ++ (putNum (a.ix : Int).toNat ++ (putNum (a.tm : Int).toNat ++ ((listK entryK 8).put (.agg (a.l.map eD)) ++ [])))) := rfl
  rw [e]
  have := few_ents a.l
  simp only [List.length_append, putNum_length]
  omega
section
variable {H : Type} {enc : TypeId × Value → H} {W : World}
theorem opens_act : Opens H enc W actK tAct :=
  opens_rec _ Tryz.underlying31 (by kernel_rfl)
    ⟨_, _, rfl, rfl, by kernel_rfl, opens_int Tryz.underlying3 _ _, _, _, rfl, rfl, by kernel_rfl, opens_int Tryz.underlying3 _ _, _, _, rfl, rfl, by kernel_rfl, opens_num Tryz.underlying22 _ _, _, _, rfl, rfl, by kernel_rfl, opens_num Tryz.underlying22 _ _,
      _, _, rfl, rfl, by kernel_rfl, opens_list Tryz.underlying29 (by kernel_rfl) (by decide) opens_entry _, rfl⟩
theorem opens_acts : Opens H enc W (listK actK 100) tActs :=
  opens_list Tryz.underlying23 (by kernel_rfl) (by decide) opens_act _
theorem opens_ents : Opens H enc W (listK entryK 8) tApis :=
  opens_list Tryz.underlying29 (by kernel_rfl) (by decide) opens_entry _
theorem acts_of {A : Option Addr} {c : Nat} {ds : List Data} {n : Nat} (h : (listK actK 100).rep W (Old W) [.slice A n c] (.agg ds)) (hp : ((listK actK 100).put (.agg ds)).length ≤ 9437184) : ∃ l, ActsAt W.heap.size W A n c l := by
  obtain ⟨A', c', ds', e1, e2, h1, h2, h3⟩ := h
  obtain rfl := Data.agg.inj e2
  simp only [List.cons.injEq, Value.slice.injEq, and_true] at e1
  obtain ⟨rfl, rfl, rfl⟩ := e1
  have hput : (ds.flatMap actK.put).length ≤ 9437184 := by
    have e : (listK actK 100).put (.agg ds) = putNum ds.length ++ ds.flatMap actK.put := rfl
    rw [e, List.length_append] at hp
    omega
  have hall : ∀ d ∈ ds, ∃ a, d = a11D a := fun d hd => by
    obtain ⟨j, hj⟩ := List.mem_iff_getElem?.1 hd
    obtain ⟨g, o, _, _, h6⟩ := h3 (by have := (List.getElem?_eq_some_iff.1 hj).1; omega)
    obtain ⟨vs, h7, _⟩ := h6 j d hj
    obtain ⟨a, A2, c2, _, e, _⟩ := act_shape h7
    exact ⟨a, e⟩
  obtain ⟨l, rfl⟩ : ∃ l : List A11, ds = l.map a11D := by
    clear h1 h2 h3 hput hp e2
    induction ds with
    | nil => exact ⟨[], rfl⟩
    | cons d r ih =>
      obtain ⟨a, rfl⟩ := hall d (by simp)
      obtain ⟨l, rfl⟩ := ih (fun x hx => hall x (by simp [hx]))
      exact ⟨a :: l, rfl⟩
  have hlen : (l.map a11D).length = l.length := List.length_map _
  have hcount : l.length ≤ ((l.map a11D).flatMap actK.put).length := by
    clear h1 h2 h3 hput hp e2 hall hlen
    induction l with
    | nil => simp
    | cons a r ih =>
      rw [List.map_cons, List.flatMap_cons, List.length_append, List.length_cons]
      have := (act_put a).2
      omega
  refine ⟨l, hlen, h1, by omega, fun hp0 => ?_⟩
  obtain ⟨g, o, e, hg, h6⟩ := h3 hp0
  refine ⟨g, o, e, hg, fun j a ha => ?_⟩
  obtain ⟨vs, h7, h8⟩ := h6 j (a11D a) (by rw [List.getElem?_map, ha]; rfl)
  obtain ⟨a', A2, c2, rfl, e2, hv⟩ := act_shape h7
  have ea : a' = a := by
    obtain ⟨k1, n1, i1, t1, l1⟩ := a
    obtain ⟨k2, n2, i2, t2, l2⟩ := a'
    simp only [a11D, Data.agg.injEq, List.cons.injEq, Data.lit.injEq, Lit.int.injEq, true_and, and_true] at e2
    obtain ⟨e1, e2, e3, e4, e5⟩ := e2
    have hl : l1 = l2 := by
      have hinj : ∀ (x y : List En), x.map eD = y.map eD → x = y := by
        intro x
        induction x with
        | nil => intro y hy; cases y with
          | nil => rfl
          | cons b r => simp at hy
        | cons b r ih =>
          intro y hy
          cases y with
          | nil => simp at hy
          | cons b2 r2 =>
            rw [List.map_cons, List.map_cons] at hy
            obtain ⟨h1, h2⟩ := List.cons.inj hy
            rw [ih _ h2]
            obtain ⟨p1, p2, p3, p4, p5⟩ := b
            obtain ⟨q1, q2, q3, q4, q5⟩ := b2
            simp only [eD, entryD, Data.agg.injEq, List.cons.injEq, Data.lit.injEq, Lit.int.injEq, Lit.string.injEq, true_and, and_true] at h1
            obtain ⟨t1, t2, t3, t4, t5⟩ := h1
            simp only [List.cons.injEq, En.mk.injEq, and_true]
            exact ⟨by omega, by omega, t3, t4, t5⟩
      exact hinj _ _ e5
    simp only [A11.mk.injEq]
    exact ⟨e1.symm, e2.symm, by omega, by omega, hl.symm⟩
  subst ea
  have hfew : a'.l.length ≤ 9437184 := by
    have h9 := (act_put a').1
    have h10 := mem_put (k := actK) (ds := l.map a11D) (d := a11D a') (List.mem_map.2 ⟨a', List.mem_of_getElem? ha, rfl⟩)
    omega
  refine ⟨A2, c2, ⟨hv.ix, hv.tm, hfew, hv.rep⟩, ?_, ?_, ?_, ?_, ?_⟩
  · exact h8 0 _ rfl
  · exact h8 1 _ rfl
  · exact h8 2 _ rfl
  · exact h8 3 _ rfl
  · exact h8 4 _ rfl
set_option maxRecDepth 100000 in
theorem comes_acts {base : Nat} {v : Value} {d : DataW H} {p : List MemPlace} (hv : Value.okWide Tryz.prog W .any base tActs v)
    (h : DataW.Trod enc Tryz.prog W 0 (fun _ => true) true tActs v d p) (hlt : ∀ x ∈ p, x.block < W.heap.size) (hb : Rows.uptoBulk d ≤ 1048576) : ∃ A n c l, v = .slice A n c ∧ ActsAt W.heap.size W A n c l := by
  obtain ⟨a0, len, cap, rfl⟩ := okWide_slice Tryz.underlying23 hv
  obtain ⟨fuel, hf⟩ := h
  obtain ⟨e, h1, h2⟩ := opens_acts (W := W) fuel _ _ hf hlt hb
  have h1' : (listK actK 100).rep W (Old W) [.slice a0 len cap] e := h1
  obtain ⟨A, c, ds, e1, rfl, _⟩ := id h1'
  obtain ⟨l, hl⟩ := acts_of h1' (by dsimp only at h2; omega)
  exact ⟨_, _, _, l, rfl, hl⟩
set_option maxRecDepth 100000 in
theorem comes_ents {base : Nat} {v : Value} {d : DataW H} {p : List MemPlace} (hv : Value.okWide Tryz.prog W .any base tApis v)
    (h : DataW.Trod enc Tryz.prog W 0 (fun _ => true) true tApis v d p) (hlt : ∀ x ∈ p, x.block < W.heap.size) (hb : Rows.uptoBulk d ≤ 1048576) : ∃ (A : Option Addr) (n c : Nat) (es : List En), v = .slice A n c ∧ n ≤ 9437184 ∧ (listK entryK 8).rep W (Old W) [.slice A n c] (.agg (es.map eD)) := by
  obtain ⟨a0, len, cap, rfl⟩ := okWide_slice Tryz.underlying29 hv
  obtain ⟨fuel, hf⟩ := h
  obtain ⟨e, h1, h2⟩ := opens_ents (W := W) fuel _ _ hf hlt hb
  have h1' : (listK entryK 8).rep W (Old W) [.slice a0 len cap] e := h1
  obtain ⟨A, c, ds, e1, rfl, _⟩ := id h1'
  obtain ⟨es, rfl⟩ := ents_of h1'
  have hl := (ents_at h1').1
  have := few_ents es
  exact ⟨_, _, _, es, rfl, by dsimp only at h2; omega, h1'⟩
end
/-- The log behind so many of the calls. -/
def growL (s : Lg) (l : List A11) (k : Nat) : Lg := (l.take k).foldl actL s
theorem growL_zero (s : Lg) (l : List A11) : growL s l 0 = s := rfl
theorem growL_step (s : Lg) {l : List A11} {k : Nat} {a : A11} (h : l[k]? = some a) : growL s l (k + 1) = actL (growL s l k) a := by
  unfold growL
  rw [List.take_add_one, h, Option.toList_some, List.foldl_append]; rfl
theorem actL_len (s : Lg) (a : A11) : (actL s a).es.length ≤ s.es.length + a.l.length := by
  unfold actL
  split
  · exact appS_len _ _ _ _
  · split
    · have := shr_len s a.ix; omega
    · omega
/-- Two logs, grown alike. -/
def GrownPost (B i t : Nat) (l : List A11) (w : World) (e : Ending) (w' : World) : Prop :=
  ∃ p q F k, e = .returned (.tuple #[ptr p, ptr q]) ∧ TwoAt B w' p q (growL ⟨i, t, []⟩ l k) (growL ⟨i, t, []⟩ l k) F ∧ (∀ b, F b → w.heap.size ≤ b) ∧ (growL ⟨i, t, []⟩ l k).es.length ≤ 943718400 ∧ k = min l.length 100 ∧ Below w.heap.size w w'
set_option maxRecDepth 100000 in
set_option maxHeartbeats 1600000 in
theorem grown_any {B : Nat} (i t : Nat) (w : World) (hB : B ≤ w.heap.size) {A : Option Addr} {n c : Nat} {l : List A11} (h : ActsAt B w A n c l) :
    Calls Tryz.prog 14 #[.int .u64 (i : Int), .int .u64 (t : Int), .slice A n c] w (GrownPost B (i % 1000) (t % 1000) l w) := by
  have q := logTest
  have HBG := Lib.hid (begin_ok B (i % 1000) (t % 1000) w hB (by omega) (by omega))
  have M1 : (i : Int) % 1000 = ((i % 1000 : Nat) : Int) := by omega
  have M2 : (t : Int) % 1000 = ((t % 1000 : Nat) : Int) := by omega
  have HAC := Lib.hid h
  have HBB := Lib.hid hB
  have hn := h.2.2.1
  have hnl := h.1
  generalize i % 1000 = i0 at *
  generalize t % 1000 = t0 at *
  rw [← M1, ← M2] at HBG
  have HM1 := Lib.hid M1
  have HNL := Lib.hid hnl
  clear h hB hnl M1 M2
  go_enter Tryz.func14, Tryz.ntmps14
  go_wp2_with (go_at_call 9; refine HBG.out.mono ?_; rintro e w1 ⟨p, r, F, rfl, htw, hF, hb⟩; have HTW := Lib.hid htw; have HF := Lib.hid hF; have HB1 := Lib.hid hb; clear htw hF hb)
  go_loopw [10] (fun k wr => ∃ (j : Nat) (F' : Nat → Prop), j ≤ n ∧ j ≤ 100 ∧ k = .int .i64 (j : Int) ∧ TwoAt B wr p r (growL ⟨i0, t0, []⟩ l j) (growL ⟨i0, t0, []⟩ l j) F' ∧ (∀ b, F' b → w.heap.size ≤ b) ∧ (growL ⟨i0, t0, []⟩ l j).es.length ≤ j * 9437184 ∧ Below w.heap.size w wr) (fun k _ => n - (intOf k).toNat)
  case atStart => exact ⟨0, F, Nat.zero_le _, Nat.zero_le _, rfl, HTW.out, HF.out, Nat.zero_le _, HB1.out⟩
  case round =>
    obtain ⟨j, F', hj, hj2, rfl, htw, hF', hlen, hbr⟩ := hrel
    have HT2 := Lib.hid htw
    have HF2 := Lib.hid hF'
    have HLN := Lib.hid hlen
    have HBR := Lib.hid hbr
    by_cases hjn : j < n
    · by_cases hj3 : j < 100
      · obtain ⟨a, ha⟩ : ∃ a, l[j]? = some a := ⟨_, List.getElem?_eq_getElem (by have := HNL.out; omega)⟩
        obtain ⟨-, -, -, hcell⟩ := HAC.out.below (hbr.mono HBB.out)
        obtain ⟨g, o, rfl, hg, hc⟩ := hcell (by omega)
        obtain ⟨Aj, cj, hav, e0, e1, e2, e3, e4⟩ := hc j a ha
        have HACT := Lib.hid (act_any htw a Aj cj hav (by have := hav.few; omega) (by have := hav.few; omega))
        have HGS := Lib.hid (growL_step ⟨i0, t0, []⟩ ha)
        have HFW := Lib.hid hav.few
        have HAL := Lib.hid (actL_len (growL ⟨i0, t0, []⟩ l j) a)
        have hj4 : (j : Int) < (n : Int) := by omega
        have hj5 : (j : Int) < 100 := by omega
        clear hcell hc hav ha htw hF' hlen hbr hg
        go_wp2_with (go_at_call 12; refine HACT.out.mono ?_; rintro e w2 ⟨bb, rfl, -, F2, htw2, hf2, hk2⟩; have HT3 := Lib.hid htw2; have HF3 := Lib.hid hf2; have HK3 := Lib.hid hk2; clear htw2 hf2 hk2)
        go_roundw
        case rel =>
          have hz := HBR.out.size
          refine ⟨j + 1, F2, by omega, by omega, by go_num, by rw [HGS.out]; exact HT3.out, fun b hb => ?_, ?_, HBR.out.trans (HK3.out.below hz HF2.out)⟩
          · rcases HF3.out b hb with hb | hb
            · exact HF2.out b hb
            · omega
          · rw [HGS.out]
            have := HAL.out
            have := HLN.out
            have := HFW.out
            omega
        case measure => simp [intOf]; omega
      · have hj4 : (j : Int) < (n : Int) := by omega
        have hj5 : ¬ (j : Int) < 100 := by omega
        have HK := Lib.hid (show j = min l.length 100 by have := HNL.out; omega)
        clear htw hF' hlen hbr
        go_wp2
        go_ret2
        exact ⟨p, r, F', j, rfl, HT2.out, HF2.out, by have := HLN.out; omega, HK.out, HBR.out⟩
    · have hjn' : j = n := by omega
      have HK := Lib.hid (show j = min l.length 100 by have := HNL.out; omega)
      have hj4 : ¬ (j : Int) < (n : Int) := by omega
      clear htw hF' hlen hbr
      go_wp2
      go_ret2
      exact ⟨p, r, F', j, rfl, HT2.out, HF2.out, by have := HLN.out; omega, HK.out, HBR.out⟩
end Go.Proofs.YtdbaajgkcjpnoaaGreat.Rg

/-! Two logs beside each other, taken apart. -/
namespace Go.Proofs.YtdbaajgkcjpnoaaGreat.Rg
open Go.RowKit By CoP Co Mo Kd

theorem two_copy {B p q g : Nat} {s : Lg} {v : Value} {F S' : Nat → Prop} {w w' : World} (h : TwoAt B w p q s s F) (h1 : LogIs w' g s v S') (h2 : ∀ b, S' b → w.heap.size ≤ b) (hb : Below w.heap.size w w') : TwoAt B w' g q s s (fun b => F b ∨ S' b) := by
  have hlow := h.low
  obtain ⟨v0, S, u, T, a1, a2, a3, a4, a5, a6⟩ := h
  refine ⟨v, S', u, T, h1, a2.below hb, fun b e => .inr e, fun b e => .inl (a4 b e), fun b e hT => ?_, fun b e => ?_⟩
  · have := (a6 b (a4 b hT)).2; have := h2 b e; omega
  · rcases e with e | e
    · exact ⟨(a6 b e).1, Nat.lt_of_lt_of_le (a6 b e).2 hb.size⟩
    · exact ⟨by have := h2 b e; omega, h1.lt b e⟩
theorem TwoAt.code {B p q : Nat} {s1 s2 : Lg} {F : Nat → Prop} {w : World} (h : TwoAt B w p q s1 s2 F) : ∃ v S, LogIs w p s1 v S ∧ ∀ b, S b → F b := by
  obtain ⟨v0, S, u, T, a1, a2, a3, a4, a5, a6⟩ := h
  exact ⟨v0, S, a1, a3⟩
theorem TwoAt.ref {B p q : Nat} {s1 s2 : Lg} {F : Nat → Prop} {w : World} (h : TwoAt B w p q s1 s2 F) : ∃ u T, RefIs w q s2 u T (fun b => b < B) := by
  obtain ⟨v0, S, u, T, a1, a2, a3, a4, a5, a6⟩ := h
  exact ⟨u, T, a2⟩
end Go.Proofs.YtdbaajgkcjpnoaaGreat.Rg
