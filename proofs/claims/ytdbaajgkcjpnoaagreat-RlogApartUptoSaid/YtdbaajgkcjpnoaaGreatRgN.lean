/- Append of package rlog, as a contract of a call. -/
import Derived.Test.YtdbaajgkcjpnoaaGreatRgH
import Derived.Test.YtdbaajgkcjpnoaaGreatRgO
namespace Go.Proofs.YtdbaajgkcjpnoaaGreat.Rg
open Go.RowKit By CoP Co Mo Kd

theorem apisElem : Tryz.prog.elem tApis = tApi := by simp [Program.elem, Tryz.underlying29]
theorem apisUnder : Tryz.prog.underlying tApis = some (.slice (Tryz.prog.elem tApis)) := by simp [Program.elem, Tryz.underlying29]
theorem apiSize (w : World) : (sizeOf tApi).run Tryz.prog w = .ok 5 w := by kernel_rfl
theorem run_from5 (w : World) (A : Option Addr) (n c k : Nat) (K : Int) (hK : K = k) (hk : k ≤ n) (kd : IntKind) : (Instr.slice tApis (.slice A n c) (some (.int kd K)) none none).run Tryz.prog w = .ok (.slice (cutA A c k 5) (n - k) (c - k)) w := by
  subst hK
  rw [run_slice_l w _ _ _ _ apisUnder kd _ (by omega) (by omega), apisElem, apiSize]
  unfold cutA
  cases A with
  | none => simp [Result.andThen, sliced]
  | some a => by_cases h : c = k <;> simp [Result.andThen, sliced, h]
theorem run_to5 (w : World) (A : Option Addr) (n c k : Nat) (K : Int) (hK : K = k) (hk : k ≤ c) : (Instr.slice tApis (.slice A n c) none (some (.int .i64 K)) none).run Tryz.prog w = .ok (.slice A k c) w := by
  subst hK
  rw [run_slice_h w _ _ _ _ apisUnder .i64 _ (by omega) (by omega), apisElem, apiSize]
  cases A with
  | none => simp [Result.andThen, sliced]
  | some a =>
    obtain ⟨b, o, sp⟩ := a
    simp [Result.andThen, sliced, Addr.add]
theorem rep_of {w : World} {S : Nat → Prop} {A : Option Addr} {c : Nat} {es : List En} {most : Int} (hc : es.length ≤ c) (hm : es.length ≤ 140737488355328) (h : 0 < es.length → ∃ g o, A = some ⟨g, o, none⟩ ∧ S g ∧ ∀ j e, es[j]? = some e → ∃ Ad cd, EntAt w g (o + j * 5) e Ad cd ∧ EnV w S e Ad cd) :
    (listK entryK most).rep w S [.slice A es.length c] (.agg (es.map eD)) := by
  refine ⟨A, c, _, by rw [List.length_map], rfl, by rw [List.length_map]; exact hc, by rw [List.length_map]; exact hm, fun hp => ?_⟩
  rw [List.length_map] at hp
  obtain ⟨g, o, e1, e2, e3⟩ := h hp
  refine ⟨g, o, e1, e2, fun j d hd => ?_⟩
  rw [List.getElem?_map, Option.map_eq_some_iff] at hd
  obtain ⟨e, he, rfl⟩ := hd
  obtain ⟨Ad, cd, h1, h2⟩ := e3 j e he
  refine ⟨_, h2.rep, fun i u hu => ?_⟩
  obtain ⟨c0, c1, c2, c3, c4⟩ := h1
  match i, hu with
  | 0, hu => exact c0.trans hu
  | 1, hu => exact c1.trans hu
  | 2, hu => exact c2.trans hu
  | 3, hu => exact c3.trans hu
  | 4, hu => exact c4.trans hu
  | (i + 5), hu => simp [entV] at hu
theorem rep_drop {w : World} {S : Nat → Prop} {A : Option Addr} {n c k : Nat} {es : List En} {most : Int} (h : (listK entryK most).rep w S [.slice A n c] (.agg (es.map eD))) (hk : k ≤ n) : (listK entryK most).rep w S [.slice (cutA A c k 5) (n - k) (c - k)] (.agg ((es.drop k).map eD)) := by
  obtain ⟨rfl, hc, hm, hr⟩ := ents_at h
  have e : es.length - k = (es.drop k).length := by rw [List.length_drop]
  rw [e]
  refine rep_of (by rw [List.length_drop]; omega) (by rw [List.length_drop]; omega) (fun hp => ?_)
  rw [List.length_drop] at hp
  obtain ⟨g, o, rfl, h1, h2⟩ := hr (by omega)
  refine ⟨g, o + k * 5, ?_, h1, fun j x hx => ?_⟩
  · unfold cutA
    dsimp only
    rw [if_neg (by omega), plainAdd]
  · rw [List.getElem?_drop] at hx
    obtain ⟨Ad, cd, h3, h4⟩ := h2 (k + j) x hx
    refine ⟨Ad, cd, ?_, h4⟩
    rw [show o + k * 5 + j * 5 = o + (k + j) * 5 by omega]
    exact h3
theorem rep_take {w : World} {S : Nat → Prop} {A : Option Addr} {n c k : Nat} {es : List En} {most : Int} (h : (listK entryK most).rep w S [.slice A n c] (.agg (es.map eD))) (hk : k ≤ n) : (listK entryK most).rep w S [.slice A k c] (.agg ((es.take k).map eD)) := by
  obtain ⟨rfl, hc, hm, hr⟩ := ents_at h
  have e : k = (es.take k).length := by rw [List.length_take]; omega
  have hr2 : (listK entryK most).rep w S [.slice A (es.take k).length c] (.agg ((es.take k).map eD)) := rep_of (by omega) (by omega) (fun hp => by
    obtain ⟨g, o, rfl, h1, h2⟩ := hr (by omega)
    refine ⟨g, o, rfl, h1, fun j x hx => ?_⟩
    rw [List.getElem?_take] at hx
    split at hx
    · exact h2 j x hx
    · cases hx)
  rwa [← e] at hr2
/-- What an append on the log comes to. -/
def LApp (g : Nat) (s : Lg) (i t : Nat) (l : List En) (S : Nat → Prop) (w : World) (e : Ending) (w' : World) : Prop := e = .returned (appV (appA s i t l)) ∧ LStep g (appS s i t l) S w w'
section
variable {g : Nat} {s : Lg} {v : Value} {i t : Nat} {l : List En} {S : Nat → Prop} {w w' : World}
theorem LStep.same (h : LogIs w g s v S) (hb : Below w.heap.size w w') : LStep g s S w w' := ⟨v, S, h.below hb, fun _ e => .inl e, Kept.of_below hb⟩
theorem LApp.form (h : LogIs w g s v S) (ho : okL i t l = false) (hb : Below w.heap.size w w') : LApp g s i t l S w (.returned (.tuple #[.int .u64 0, .int .u64 0, .int .i64 2])) w' := by
  unfold LApp appA appS
  rw [ho, if_neg (by decide), if_neg (fun e => by cases e.1)]
  exact ⟨rfl, LStep.same h hb⟩
theorem LApp.gap (h : LogIs w g s v S) (ho : okL i t l = true) (hf : fits s i t = false) (hb : Below w.heap.size w w') : LApp g s i t l S w (.returned (.tuple #[.int .u64 0, .int .u64 0, .int .i64 12])) w' := by
  unfold LApp appA appS
  rw [ho, hf, if_pos rfl, if_neg (by decide), if_neg (fun e => by cases e.2)]
  exact ⟨rfl, LStep.same h hb⟩
theorem LApp.old (h : LogIs w g s v S) (ho : okL i t l = true) (hf : fits s i t = true) (hn : ∀ x ∈ l, fits s x.ix x.tm = true) (hb : Below w.heap.size w w') : LApp g s i t l S w (.returned (.tuple #[.int .u64 ((i + l.length : Nat) : Int), .int .u64 0, .int .i64 0])) w' := by
  have h0 : newOnes s l = [] := new_of_all hn
  unfold LApp appA appS
  rw [ho, hf, if_pos rfl, if_pos rfl, if_pos ⟨rfl, rfl⟩, appendL_none h0]
  refine ⟨?_, LStep.same h hb⟩
  unfold fromA
  rw [h0]; rfl
end
/-- Where a new entry comes: so many behind the base. -/
theorem new_place {s : Lg} (h : Ok s) {i t : Nat} {l : List En} (ho : okL i t l = true) (hf : fits s i t = true) {k : Nat} {x : En} (hp : ∀ m y, m < k → l[m]? = some y → fits s y.ix y.tm = true) (hx : l[k]? = some x) (hfx : fits s x.ix x.tm = false) :
    ∃ p, x.ix = s.ix + 1 + p ∧ p ≤ s.es.length ∧ appendL s l = ⟨s.ix, s.tm, s.es.take p ++ l.drop k⟩ ∧ fromA s l = x.ix := by
  obtain ⟨e1, e2⟩ := append_at hp hx hfx
  have hn := new_at hp hx hfx
  obtain ⟨hk, he⟩ := List.getElem?_eq_some_iff.1 hx
  have hd : l.drop k = x :: l.drop (k + 1) := by rw [List.drop_eq_getElem_cons hk, he]
  rw [hd] at hn
  obtain ⟨p, pre, ha⟩ := app_of h.inv hf (okL_chain ho).1 hn
  have h1 := ha.at_
  have h2 := ha.base
  have h3 := ha.len
  refine ⟨p - s.ix, by omega, h3, ?_, e2⟩
  rw [e1, chain_filter_lt h.inv, show x.ix - (s.ix + 1) = p - s.ix by omega]
set_option maxRecDepth 100000 in
set_option maxHeartbeats 4000000 in
theorem append_any {g : Nat} {s : Lg} {v : Value} {S R : Nat → Prop} (w : World) (h : LogIs w g s v S) (i t : Nat) (hi : i < 18446744073709551616) {A : Option Addr} {n c : Nat} {l : List En} {most : Int}
    (hl : (listK entryK most).rep w R [.slice A n c] (.agg (l.map eD))) (hR : ∀ b, R b → b < w.heap.size ∧ ¬ S b) (hn : s.es.length + l.length ≤ 1073741823) :
    Calls Tryz.prog 17 #[ptr g, .int .u64 (i : Int), .int .u64 (t : Int), .slice A n c] w (LApp g s i t l S w) := by
  have q := logTest
  obtain ⟨w1, e1⟩ : ∃ w1, w1 = w.alloc (.cells #[ptr g] 24) := ⟨_, rfl⟩
  have hb1 : Below w.heap.size w w1 := by rw [e1]; exact (Below.refl _ _).alloc (Nat.le_refl _) _
  have hr1 : w1.heap[w.heap.size]? = some (.cells #[ptr g] 24 (0, 0)) := by rw [e1]; exact heap_alloc_new _ _
  have hz1 : w1.heap.size = w.heap.size + 1 := by rw [e1, World.size_alloc]
  have HC0 := Lib.hid (show ∀ W, Below w1.heap.size w1 W → W.cell? ⟨w.heap.size, 0, none⟩ = some (ptr g) from fun W hW => by
    have y0 := (hW.block _ (row_lt hr1)).trans hr1
    rw [cell_of_row W _ 0 _ _ _ y0]; rfl)
  have hrep : ∀ W, Below w.heap.size w W → (listK entryK most).rep W (Old W) [.slice A n c] (.agg (l.map eD)) := fun W hW => (listK_ok entryK_ok most).keep hl (fun b hb => hW.block b (hR b hb).1) (fun b hb => Nat.lt_of_lt_of_le (hR b hb).1 hW.size)
  have HREP := Lib.hid hrep
  have HL := Lib.hid hl
  have HRS := Lib.hid hR
  have HH := Lib.hid h
  have HN := Lib.hid hn
  have HB1 := Lib.hid hb1
  have HZ1 := Lib.hid hz1
  have HCK := Lib.hid (fun W (hW : Below w.heap.size w W) => checkList_any i t hi W (hrep W hW))
  have HFI := Lib.hid (fun W (hW : Below w.heap.size w W) => fits_any W (h.below hW) i t)
  obtain ⟨hnl, hnc, hn47, -⟩ := ents_at hl
  have HNL := Lib.hid hnl
  have c0 := HC0.out w1 (Below.refl _ _)
  clear hl hR h hn hb1 hr1 hz1 hrep hnl
  cases ho : okL i t l with
  | false =>
    rw [okE_f ho] at HCK
    have HO := Lib.hid ho
    clear ho
    go_enter Tryz.func17, Tryz.ntmps17
    go_upto_region 1 with fail
    rw [← e1]
    clear e1
    go_wp2_with (go_at_call 36; refine (HCK.out _ HB1.out).mono ?_; rintro e w2 ⟨rfl, hb2⟩; have HB2 := Lib.hid (By.ext HB1.out hb2); clear hb2)
    go_ret3
    exact LApp.form HH.out HO.out HB2.out
  | true =>
    rw [okE_t ho] at HCK
    have HO := Lib.hid ho
    clear ho
    cases hf : fits s i t with
    | false =>
      rw [hf] at HFI
      have HF := Lib.hid hf
      clear hf
      go_enter Tryz.func17, Tryz.ntmps17
      go_upto_region 1 with fail
      rw [← e1]
      clear e1
      go_wp2_with (first
        | (go_at_call 36; refine (HCK.out _ HB1.out).mono ?_; rintro e w2 ⟨rfl, hb2⟩; have z0 := HC0.out w2 hb2; have HB2 := Lib.hid (By.ext HB1.out hb2); clear hb2)
        | (go_at_call 21; refine (HFI.out _ HB2.out).mono ?_; rintro e w3 ⟨rfl, hb3⟩; have HB3 := Lib.hid (By.ext HB2.out hb3); clear hb3))
      go_ret3
      exact LApp.gap HH.out HO.out HF.out HB3.out
    | true =>
      rw [hf] at HFI
      have HF := Lib.hid hf
      have hib := (fits_bound HH.out.ok hf).1
      have W1 : IntKind.u64.wrap ((i : Int) + (n : Int)) = ((i + n : Nat) : Int) := by rw [wrap_u (by omega) (by omega)]; omega
      clear hf
      go_enter Tryz.func17, Tryz.ntmps17
      go_upto_region 1 with fail
      rw [← e1]
      clear e1
      go_upto_region 9 with (first
        | (go_at_call 36; refine (HCK.out _ HB1.out).mono ?_; rintro e w2 ⟨rfl, hb2⟩; have z0 := HC0.out w2 hb2; have HB2' := Lib.hid hb2; have HB2 := Lib.hid (By.ext HB1.out hb2); clear hb2)
        | (go_at_call 21; refine (HFI.out _ HB2.out).mono ?_; rintro e w3 ⟨rfl, hb3⟩; have z1 := HC0.out w3 (By.ext HB2'.out hb3); have HB3' := Lib.hid (By.ext HB2'.out hb3); have HB3 := Lib.hid (By.ext HB2.out hb3); clear hb3))
      have HAS := Lib.hid (append1_asks w3 g w.heap.size s v S (HH.out.below HB3.out) (by have := HB3'.out.size; have := HZ1.out; omega) z1)
      have HIX := Lib.hid (indexFunc_any 38 #[.pointer (some ⟨w.heap.size, 0, none⟩)] (fun x => !fits s x.ix x.tm) append1_enters w3 (HREP.out w3 HB3.out) HAS.out)
      go_wp2_with fail
      refine HIX.out.mono ?_
      rintro e w4 ⟨z, rfl, hb4, hz⟩
      have HB4' := Lib.hid (By.ext HB3'.out hb4)
      have HB4 := Lib.hid (By.ext HB3.out hb4)
      have z4 := HC0.out w4 HB4'.out
      clear hb4
      rcases hz with ⟨rfl, hall⟩ | ⟨k, x, rfl, hx, hpx, hpre⟩
      · have HALL := Lib.hid (show ∀ x ∈ l, fits s x.ix x.tm = true from fun x hx => by have := hall x hx; simpa using this)
        clear hall
        go_wp2
        go_ret3
        have := LApp.old HH.out HO.out HF.out HALL.out HB4.out
        rwa [← HNL.out] at this
      · have hfx : fits s x.ix x.tm = false := by simpa using hpx
        obtain ⟨p, hp1, hp2, hap, hfa⟩ := new_place HH.out.ok HO.out HF.out (k := k) (x := x) (fun m y hm hy => by have := hpre m y hm hy; simpa using this) hx hfx
        have hkn : k < n := by have := (List.getElem?_eq_some_iff.1 hx).1; have := HNL.out; omega
        have hok := HH.out.ok.append HO.out HF.out
        rw [hap] at hok
        obtain ⟨-, -, -, hr⟩ := ents_at HL.out
        obtain ⟨b, o, rfl, hb, hcell⟩ := hr (by omega)
        obtain ⟨Ad, cd, hea, hv⟩ := hcell k x hx
        have y0 := (HB4.out.cell (p := ⟨b, o + k * 5, none⟩) (HRS.out b hb).1).trans hea.c0
        have hk1 : (k : Int) < (n : Int) := by omega
        have HSL := Lib.hid (fun W => run_from5 W (some ⟨b, o, none⟩) n c k _ rfl (Nat.le_of_lt hkn) .i64)
        have HRP := Lib.hid (fun W (hW : Below w.heap.size w W) => replace_any W (HH.out.below hW) p hp2 (R := R) (rep_drop ((listK_ok entryK_ok most).keep HL.out (fun b hb => hW.block b (HRS.out b hb).1) (fun b hb => hb)) (Nat.le_of_lt hkn)) (fun b hb => ⟨Nat.lt_of_lt_of_le (HRS.out b hb).1 hW.size, (HRS.out b hb).2⟩) hok (by rw [List.length_drop]; have := HN.out; omega) (x.ix : Int) (by omega))
        have HFIN := Lib.hid (show appA s i t l = (i + n, x.ix, 0) ∧ appS s i t l = ⟨s.ix, s.tm, s.es.take p ++ l.drop k⟩ by
          unfold appA appS
          rw [if_pos HO.out, if_pos HF.out, if_pos ⟨HO.out, HF.out⟩, hfa, hap, HNL.out]
          exact ⟨rfl, rfl⟩)
        clear hfx hp1 hp2 hap hfa hok hr hb hcell hea hv hpx hpre hx
        go_upto_region 13 with fail
        have hsl := HSL.out
        go_region_law (go_simp; go_at_call 39; refine (HRP.out _ HB4.out.drew).mono ?_; rintro e w5 ⟨⟨xx, rfl⟩, hst⟩; have HST := Lib.hid hst; clear hst)
        all_goals
          go_wp2
          go_ret3
          refine ⟨by rw [HFIN.out.1]; rfl, ?_⟩
          rw [HFIN.out.2]
          obtain ⟨v', S', h1, h2, h3⟩ := HST.out
          exact ⟨v', S', h1, fun b hb => by rcases h2 b hb with h | h; exact .inl h; exact .inr (Nat.le_trans HB4.out.size h), (Kept.of_below (M := S) HB4.out.drew).step h3 (fun _ _ e => e)⟩
end Go.Proofs.YtdbaajgkcjpnoaaGreat.Rg
