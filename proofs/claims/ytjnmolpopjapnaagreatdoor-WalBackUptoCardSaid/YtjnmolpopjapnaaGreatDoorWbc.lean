/- The walk of WalBack. -/
import Derived.Test.YtjnmolpopjapnaaGreatDoorWg5
import Derived.Test.YtjnmolpopjapnaaGreatDoorWaL
import Derived.Deep.CutBlock
namespace Go.Proofs.YtjnmolpopjapnaaGreatDoor.Wa
open Go.RowKit Go.Maps By Mp Dk

def total (l : List Bs) : Nat := (l.map List.length).foldl (· + ·) 0
theorem foldl_add (l : List Nat) (n : Nat) : l.foldl (· + ·) n = n + l.foldl (· + ·) 0 := by
  induction l generalizing n with
  | nil => simp
  | cons x l ih => rw [List.foldl_cons, List.foldl_cons, ih, ih (0 + x)]; omega
theorem total_take {l : List Bs} {k : Nat} (hk : k < l.length) : total (l.take (k + 1)) = total (l.take k) + l[k].length := by
  unfold total
  rw [List.take_succ_eq_append_getElem hk, List.map_append, List.foldl_append]
  rfl
theorem total_le {l : List Bs} (h : ∀ x ∈ l, x.length ≤ 140737488355328) (k : Nat) (hk : k ≤ 41) : total (l.take k) ≤ 41 * 140737488355328 := by
  have h2 : ∀ (l : List Bs) (k : Nat), (∀ x ∈ l, x.length ≤ 140737488355328) → total (l.take k) ≤ k * 140737488355328 := by
    intro l
    induction l with
    | nil => intro k _; rw [List.take_nil]; exact Nat.zero_le _
    | cons x l ih =>
      intro k hx
      cases k with
      | zero => exact Nat.zero_le _
      | succ k =>
        have h3 := ih k (fun y hy => hx y (List.mem_cons_of_mem _ hy))
        have h4 := hx x (List.mem_cons_self ..)
        have e : total ((x :: l).take (k + 1)) = x.length + total (l.take k) := by
          unfold total
          rw [List.take_succ_cons, List.map_cons, List.foldl_cons, foldl_add]
          omega
        rw [e]
        omega
  exact Nat.le_trans (h2 l k h) (by omega)
theorem nAllocW (w : World) (o : Obj) : Below w.heap.size w (w.alloc o) := (Below.refl _ _).alloc (Nat.le_refl _) o
theorem model_in {w : World} {A : Option Addr} {c : Nat} {R : List Bs} (h : LiesL w w.heap.size A R) : ModelIn (w.alloc (.cells #[.int .u64 1, .slice A R.length c, .int .i64 0] 40)) w.heap.size A c R :=
  ⟨by rw [cell_of_row _ _ 0 _ _ _ (heap_alloc_new w _)]; rfl, by rw [cell_of_row _ _ 1 _ _ _ (heap_alloc_new w _)]; rfl, by simp, (h.below (nAllocW w _)).more (nAllocW w _).size⟩
/-- What the law does not go on with. -/
def badB (oa ob : Bool) (a b : List Bs) (N : Nat) : Bool := !oa || !ob || decide (40 < a.length) || decide (40 < b.length) || decide (1000000 < N)
theorem total_sum (l : List Bs) : total l = (l.map List.length).sum := by
  unfold total
  rw [List.sum_eq_foldl]
theorem good_of {a b : List Bs} {N na : Nat} {oa ob : Bool} (hoa : oa = okAll a) (hob : ob = okAll b) (h : badB oa ob a b N = false) (h1 : na = total (a.take (min a.length 41))) (h2 : N = na + total (b.take (min b.length 41))) :
    (∀ l ∈ a, l.length ≤ 65520) ∧ (∀ l ∈ b, l.length ≤ 65520) ∧ a.length ≤ 40 ∧ b.length ≤ 40 ∧ (framesB a).length + (framesB b).length ≤ 1000640 := by
  subst hoa
  subst hob
  unfold badB at h
  simp only [Bool.or_eq_false_iff, Bool.not_eq_false', decide_eq_false_iff_not] at h
  obtain ⟨⟨⟨⟨ha, hb⟩, hla⟩, hlb⟩, hN⟩ := h
  have e1 : min a.length 41 = a.length := by omega
  have e2 : min b.length 41 = b.length := by omega
  rw [e1, List.take_length, total_sum] at h1
  rw [e2, List.take_length, total_sum] at h2
  have f1 := framesB_len a
  have f2 := framesB_len b
  unfold okAll at ha hb
  rw [List.all_eq_true] at ha hb
  exact ⟨fun l hl => of_decide_eq_true (ha l hl), fun l hl => of_decide_eq_true (hb l hl), by omega, by omega, by omega⟩
set_option maxRecDepth 100000 in
set_option maxHeartbeats 16000000 in
theorem walBack_any (A1 A2 : Option Addr) (c1 c2 : Nat) (a b : List Bs) (m t : Int) (w : World) (ha : LiesL w w.heap.size A1 a) (hb : LiesL w w.heap.size A2 b) (na : a.length ≤ 1048576) (nb : b.length ≤ 1048576) (la : ∀ l ∈ a, l.length ≤ 140737488355328) (lb : ∀ l ∈ b, l.length ≤ 140737488355328) (hm : 0 ≤ m ∧ m ≤ 18446744073709551615) :
    Calls Tryz.prog 3 #[.slice A1 a.length c1, .slice A2 b.length c2, .int .u64 m, .int .i64 t] w (True_ w) := by
  have HNW := Lib.hid (new_any 4000000 w rfl)
  have HA := Lib.hid ha
  have HBB := Lib.hid hb
  have HLA := Lib.hid la
  have HLB := Lib.hid lb
  have HMM := Lib.hid hm
  have q1 := logTest
  clear ha hb la lb hm
  go_enter Tryz.func3, Tryz.ntmps3
  go_wp2_with fail
  refine HNW.out.mono ?_
  rintro e w1 ⟨d, S, rfl, hd1, hS1, hb1⟩
  have HD1 := Lib.hid hd1
  have HS1 := Lib.hid hS1
  have HB1 := Lib.hid hb1
  have HOP := Lib.hid (open_new d (newDS 4000000) S w1 hd1 rfl (by decide) rfl)
  clear HNW hd1 hS1 hb1
  go_wp2_with fail
  refine HOP.out.mono ?_
  rintro e w2 ⟨g, T, rfl, hl2, hT2, hb2⟩
  have HL2 := Lib.hid hl2
  have HT2 := Lib.hid hT2
  have HZ12 := Lib.hid hb2.size
  have HB2 := Lib.hid (By.ext HB1.out hb2)
  have HD2 := Lib.hid (HD1.out.below hb2)
  have HL2L := Lib.hid hl2.lt
  have HWA := Lib.hid (whole_any A1 c1 a w2 ((HA.out.below HB2.out).more HB2.out.size) na HLA.out)
  clear HOP hl2 hT2 hb2
  go_wp2_with fail
  refine HWA.out.mono ?_
  rintro e w3 ⟨Ax, cx, rfl, hx3, hb3⟩
  have HX3 := Lib.hid hx3
  have HZ23 := Lib.hid hb3.size
  have HB3 := Lib.hid (By.ext HB2.out hb3)
  have HL3 := Lib.hid (HL2.out.keep (fun b hb => hb3.block b (HL2.out.lt b hb)) hb3.size)
  have HD3 := Lib.hid (HD2.out.below hb3)
  have HWB := Lib.hid (whole_any A2 c2 b w3 ((HBB.out.below HB3.out).more HB3.out.size) nb HLB.out)
  clear hx3 hb3 HWA HL2 HD2
  go_wp2_with fail
  refine HWB.out.mono ?_
  rintro e w4 ⟨Ay, cy, rfl, hy4, hb4⟩
  have HY4 := Lib.hid hy4
  have HB4 := Lib.hid (By.ext HB3.out hb4)
  have HZZ := Lib.hid (show w1.heap.size ≤ w2.heap.size ∧ w2.heap.size ≤ w3.heap.size ∧ w3.heap.size ≤ w4.heap.size from ⟨HZ12.out, HZ23.out, hb4.size⟩)
  have HX4 := Lib.hid (HX3.out.keep (fun b hb => hb4.block b hb))
  have HL4 := Lib.hid (HL3.out.keep (fun b hb => hb4.block b (HL3.out.lt b hb)) hb4.size)
  have HD4 := Lib.hid (HD3.out.below hb4)
  clear hy4 hb4 HWB HL3 HD3 HX3
  go_upto_block 0 with fail
  go_cut [17] (fun n wx => wx = w4 ∧ n = .int .i64 ((total (a.take (min a.length 41)) : Nat) : Int))
  case first =>
    go_upto_region 7 with fail
    go_loopw [18, 17] (fun i n wr => wr = w4 ∧ ∃ k : Nat, k ≤ a.length ∧ k ≤ 41 ∧ i = .int .i64 (k : Int) ∧ n = .int .i64 ((total (a.take k) : Nat) : Int)) (fun i _ _ => 41 - (intOf i).toNat)
    case atStart => exact ⟨rfl, 0, Nat.zero_le _, Nat.zero_le _, rfl, rfl⟩
    case round =>
      obtain ⟨hwr, k, hk, hk41, rfl, rfl⟩ := hrel
      subst hwr
      have HTL := Lib.hid (total_le HLA.out k hk41)
      by_cases hlt : k < a.length ∧ k < 41
      · obtain ⟨ga, o, Aj, cj, hAm, hga, hcj, -⟩ := HA.out.at_ hlt.1
        subst hAm
        have hc : wr.cell? ⟨ga, o + k, none⟩ = some (.slice Aj (a[k]'hlt.1).length cj) := (HB4.out.cell hga).trans hcj
        have HTT := Lib.hid (total_take hlt.1)
        have hle := HLA.out _ (List.getElem_mem hlt.1)
        have htl := HTL.out
        obtain ⟨x, hx⟩ : ∃ x, x = (a[k]'hlt.1).length := ⟨_, rfl⟩
        rw [← hx] at hc hle HTT
        obtain ⟨tk, htk⟩ : ∃ tk, tk = total (a.take k) := ⟨_, rfl⟩
        rw [← htk] at htl HTT ⊢
        clear hx htk hcj hga
        have hl1 : k < a.length := hlt.1
        have hl2 : (k : Int) < 41 := by omega
        go_wp2
        go_roundw
        case rel => exact ⟨trivial, k + 1, by omega, by omega, by go_num, by rw [HTT.out]; go_num⟩
        case measure => simp [intOf]; omega
      · have hl2 : k = a.length ∨ (k = 41 ∧ k < a.length) := by omega
        rcases hl2 with rfl | ⟨rfl, hl3⟩
        · go_wp2
          go_meet
          exact ⟨rfl, by rw [show min a.length 41 = a.length by omega]⟩
        · go_wp2
          go_meet
          exact ⟨rfl, by rw [show min a.length 41 = 41 by omega]⟩
  obtain ⟨hw4, hn17⟩ := hcut
  subst hw4
  subst hn17
  obtain ⟨w4, hq4⟩ : ∃ w4, w4 = wc := ⟨_, rfl⟩
  subst hq4
  have HNA := Lib.hid (total_le HLA.out (min a.length 41) (by omega))
  obtain ⟨na1, hna1⟩ : ∃ na1, na1 = total (a.take (min a.length 41)) := ⟨_, rfl⟩
  rw [← hna1] at HNA ⊢
  have HN1 := Lib.hid hna1
  clear hna1
  go_upto_block 2 with fail
  go_cut [17] (fun n wx => wx = w4 ∧ n = .int .i64 ((na1 + total (b.take (min b.length 41)) : Nat) : Int))
  case first =>
    go_upto_region 11 with fail
    go_loopw [19, 17] (fun i n wr => wr = w4 ∧ ∃ k : Nat, k ≤ b.length ∧ k ≤ 41 ∧ i = .int .i64 (k : Int) ∧ n = .int .i64 ((na1 + total (b.take k) : Nat) : Int)) (fun i _ _ => 41 - (intOf i).toNat)
    case atStart => exact ⟨rfl, 0, Nat.zero_le _, Nat.zero_le _, rfl, rfl⟩
    case round =>
      obtain ⟨hwr, k, hk, hk41, rfl, rfl⟩ := hrel
      subst hwr
      have HTL := Lib.hid (total_le HLB.out k hk41)
      by_cases hlt : k < b.length ∧ k < 41
      · obtain ⟨ga, o, Aj, cj, hAm, hga, hcj, -⟩ := HBB.out.at_ hlt.1
        subst hAm
        have hc : wr.cell? ⟨ga, o + k, none⟩ = some (.slice Aj (b[k]'hlt.1).length cj) := (HB4.out.cell hga).trans hcj
        have HTT := Lib.hid (total_take hlt.1)
        have hle := HLB.out _ (List.getElem_mem hlt.1)
        have htl := HTL.out
        have hna := HNA.out
        obtain ⟨x, hx⟩ : ∃ x, x = (b[k]'hlt.1).length := ⟨_, rfl⟩
        rw [← hx] at hc hle HTT
        obtain ⟨tk, htk⟩ : ∃ tk, tk = total (b.take k) := ⟨_, rfl⟩
        rw [← htk] at htl HTT ⊢
        clear hx htk hcj hga
        have hl1 : k < b.length := hlt.1
        have hl2 : (k : Int) < 41 := by omega
        go_wp2
        go_roundw
        case rel => exact ⟨trivial, k + 1, by omega, by omega, by go_num, by rw [HTT.out]; congr 1; omega⟩
        case measure => simp [intOf]; omega
      · have hl2 : k = b.length ∨ (k = 41 ∧ k < b.length) := by omega
        rcases hl2 with rfl | ⟨rfl, hl3⟩
        · go_wp2
          go_meet
          exact ⟨rfl, by rw [show min b.length 41 = b.length by omega]⟩
        · go_wp2
          go_meet
          exact ⟨rfl, by rw [show min b.length 41 = 41 by omega]; congr 1⟩
  obtain ⟨hw4, hn17⟩ := hcut
  subst hw4
  subst hn17
  obtain ⟨w4, hq4⟩ : ∃ w4, w4 = wc := ⟨_, rfl⟩
  subst hq4
  have HNB := Lib.hid (total_le HLB.out (min b.length 41) (by omega))
  obtain ⟨N, hN⟩ : ∃ N, N = na1 + total (b.take (min b.length 41)) := ⟨_, rfl⟩
  rw [← hN]
  have HN2 := Lib.hid hN
  have hNle : N ≤ 11540474045136896 := by have := HNA.out; have := HNB.out; omega
  clear hN
  obtain ⟨oa, hoa⟩ : ∃ oa, oa = okAll a := ⟨_, rfl⟩
  obtain ⟨ob, hob⟩ : ∃ ob, ob = okAll b := ⟨_, rfl⟩
  rw [← hoa, ← hob]
  have HOA := Lib.hid hoa
  have HOB := Lib.hid hob
  clear hoa hob
  go_upto_region 14 with fail
  go_cut [103] (fun v wx => v = .bool (badB oa ob a b N) ∧ Below w4.heap.size w4 wx)
  case first =>
    go_wp2_with fail
    refine (answers_any _).mono ?_
    rintro e w5 ⟨rfl, hb5⟩
    have HB5 := Lib.hid hb5
    clear hb5
    cases oa with
    | false =>
      have HV := Lib.hid (show badB false ob a b N = true from rfl)
      go_wp2
      go_meet
      exact ⟨by rw [HV.out], HB5.out⟩
    | true =>
      cases ob with
      | false =>
        have HV := Lib.hid (show badB true false a b N = true from rfl)
        go_wp2
        go_meet
        exact ⟨by rw [HV.out], HB5.out⟩
      | true =>
        by_cases h1 : 40 < a.length
        · have HV := Lib.hid (show badB true true a b N = true by unfold badB; rw [decide_eq_true h1]; simp)
          have h1i : (40 : Int) < (a.length : Int) := by omega
          go_wp2
          go_meet
          exact ⟨by rw [HV.out], HB5.out⟩
        · have h1i : ¬ ((40 : Int) < (a.length : Int)) := by omega
          by_cases h2 : 40 < b.length
          · have HV := Lib.hid (show badB true true a b N = true by unfold badB; rw [decide_eq_true h2]; simp)
            have h2i : (40 : Int) < (b.length : Int) := by omega
            go_wp2
            go_meet
            exact ⟨by rw [HV.out], HB5.out⟩
          · have h2i : ¬ ((40 : Int) < (b.length : Int)) := by omega
            by_cases h3 : 1000000 < N
            · have HV := Lib.hid (show badB true true a b N = true by unfold badB; rw [decide_eq_true h3]; simp)
              have h3i : (1000000 : Int) < (N : Int) := by omega
              go_wp2
              go_meet
              exact ⟨by rw [HV.out], HB5.out⟩
            · have HV := Lib.hid (show badB true true a b N = false by unfold badB; rw [decide_eq_false h1, decide_eq_false h2, decide_eq_false h3]; rfl)
              have h3i : ¬ ((1000000 : Int) < (N : Int)) := by omega
              go_wp2
              go_meet
              exact ⟨by rw [HV.out, decide_eq_false (show ¬ (40 : Int) < (a.length : Int) by omega), decide_eq_false (show ¬ (40 : Int) < (b.length : Int) by omega), decide_eq_false (show ¬ (1000000 : Int) < (N : Int) by omega)]; rfl, HB5.out⟩
  obtain ⟨hv3, hbc⟩ := hcut
  subst hv3
  obtain ⟨w5, hw5⟩ : ∃ w5, w5 = wc := ⟨_, rfl⟩
  subst hw5
  have HBC := Lib.hid hbc
  clear hbc hNle
  cases hbad : badB oa ob a b N with
  | true =>
    go_wp2_with fail
    refine (answers_any _).mono ?_
    rintro e w6 ⟨rfl, hb6⟩
    have HB6 := Lib.hid (By.ext (By.ext HB4.out HBC.out) hb6)
    clear hb6
    go_wp2
    go_ret
    exact ⟨rfl, HB6.out⟩
  | false =>
    have HG := Lib.hid (good_of HOA.out HOB.out hbad HN1.out HN2.out)
    clear hbad
    have HB5 := Lib.hid (By.ext HB4.out HBC.out)
    have HLW := Lib.hid (HL4.out.keep (fun b hb => HBC.out.block b (HL4.out.lt b hb)) HBC.out.size)
    have HD5 := Lib.hid (HD4.out.below HBC.out)
    have HX5 := Lib.hid (HX4.out.keep (fun b hb => HBC.out.block b hb))
    have HY5 := Lib.hid (HY4.out.keep (fun b hb => HBC.out.block b hb))
    have HSS := Lib.hid (show (∀ b, S b → b < w1.heap.size) ∧ (∀ b, T b → w1.heap.size ≤ b) ∧ (∀ b, T b → b < w2.heap.size) from ⟨(dlt' HD1.out).1, HT2.out, HL2L.out⟩)
    have HZ5 := Lib.hid (show w1.heap.size ≤ w2.heap.size ∧ w2.heap.size ≤ w3.heap.size ∧ w3.heap.size ≤ w4.heap.size ∧ w4.heap.size ≤ w5.heap.size from ⟨HZZ.out.1, HZZ.out.2.1, HZZ.out.2.2, HBC.out.size⟩)
    have HAP := Lib.hid (first_append g d a Ax cx S T (newDS 4000000) w5 HLW.out HD5.out (fun b ht hs => by have := HSS.out.1 b hs; have := HSS.out.2.1 b ht; omega) rfl rfl rfl rfl (by decide) (Copied.lies HX5.out).2 HG.out.1 HG.out.2.2.1 (by have := HG.out.2.2.2.2; omega))
    go_wp2_with fail
    refine HAP.out.mono ?_
    rintro e w6 ⟨rfl, l6, s6, S6, T6, hlg, hds, hsp, hdn, hfu, hrm, hcn, hfl, -, hS6, hT6, hk6⟩
    have HSY := Lib.hid (by have h := lsync_any g d s6 S6 T6 l6 w6 hlg hds hsp hdn hfu (by omega); rw [hfl, hrm] at h; exact h)
    have HS6 := Lib.hid (show (∀ b, S6 b → w.heap.size ≤ b ∧ (b < w2.heap.size ∨ w5.heap.size ≤ b)) ∧ (∀ b, T6 b → w.heap.size ≤ b ∧ (b < w2.heap.size ∨ w5.heap.size ≤ b)) from
      ⟨fun b hb => by
        rcases hS6 b hb with h | h
        · have h1 := HSS.out.1 b h; have h2 := HS1.out b h; have h3 := HZ5.out; exact ⟨h2, .inl (by omega)⟩
        · have := HB5.out.size; exact ⟨by omega, .inr h⟩, fun b hb => by
        rcases hT6 b hb with h | h
        · have h1 := HSS.out.2.2 b h; have h2 := HSS.out.2.1 b h; have := HB1.out.size; exact ⟨by omega, .inl h1⟩
        · have := HB5.out.size; exact ⟨by omega, .inr h⟩⟩)
    have HK6 := Lib.hid (show (∀ b, w2.heap.size ≤ b → b < w5.heap.size → w6.heap[b]? = w5.heap[b]?) ∧ Below w.heap.size w w6 ∧ w5.heap.size ≤ w6.heap.size from
      ⟨fun b h1 h2 => hk6.block b h2 (fun e => by
        rcases e with e | e
        · have := HSS.out.1 b e; have := HZ5.out; omega
        · have := HSS.out.2.2 b e; omega), HB5.out.trans (hk6.below HB5.out.size (fun b e => by
        rcases e with e | e
        · exact HS1.out b e
        · have := HSS.out.2.1 b e; have := HB1.out.size; omega)), hk6.size⟩)
    clear hlg hds hsp hdn hfu hrm hcn hfl hS6 hT6 hk6 HAP
    go_wp2_with fail
    refine HSY.out.mono ?_
    rintro e w7 ⟨rfl, S7, hd7, -, -, hS7, hk7⟩
    have HMN := Lib.hid (show (m.toNat : Int) = m from Int.toNat_of_nonneg HMM.out.1)
    have hfa := fall_any d (calmS (oneF a) 4000000) S7 m.toNat t w7 hd7 (by have := HMM.out.2; omega) (by unfold DS.cnt calmS oneF; split <;> simp)
    rw [HMN.out, falS_calm] at hfa
    have HFA := Lib.hid hfa
    have HS7 := Lib.hid (show ∀ b, S7 b → w.heap.size ≤ b ∧ (b < w2.heap.size ∨ w5.heap.size ≤ b) from fun b hb => by
      rcases hS7 b hb with h | h
      · exact HS6.out.1 b h
      · have := HK6.out.2.2; have := HB5.out.size; exact ⟨by omega, .inr (by omega)⟩)
    have HK7 := Lib.hid (show (∀ b, w2.heap.size ≤ b → b < w5.heap.size → w7.heap[b]? = w5.heap[b]?) ∧ Below w.heap.size w w7 ∧ w5.heap.size ≤ w7.heap.size from
      ⟨fun b h1 h2 => (hk7.block b (by have := HK6.out.2.2; omega) (fun e => by
        rcases e with e | e
        · have := (HS6.out.1 b e).2; omega
        · have := (HS6.out.2 b e).2; omega)).trans (HK6.out.1 b h1 h2), HK6.out.2.1.trans (hk7.below HK6.out.2.1.size (fun b e => by
        rcases e with e | e
        · exact (HS6.out.1 b e).1
        · exact (HS6.out.2 b e).1)), by have := HK6.out.2.2; have := hk7.size; omega⟩)
    clear hd7 hS7 hk7 hfa HSY
    go_wp2_with fail
    refine HFA.out.mono ?_
    rintro e w8 ⟨rfl, S8, hd8, hS8, hk8⟩
    have HD8 := Lib.hid hd8
    have HS8 := Lib.hid (show ∀ b, S8 b → w.heap.size ≤ b from fun b hb => by
      rcases hS8 b hb with h | h
      · exact (HS7.out b h).1
      · have := HK7.out.2.2; have := HB5.out.size; omega)
    have HK8 := Lib.hid (show (∀ b, w2.heap.size ≤ b → b < w5.heap.size → w8.heap[b]? = w5.heap[b]?) ∧ Below w.heap.size w w8 ∧ w5.heap.size ≤ w8.heap.size ∧ ∀ b, S8 b → b < w2.heap.size ∨ w5.heap.size ≤ b from
      ⟨fun b h1 h2 => (hk8.block b (by have := HK7.out.2.2; omega) (fun e => by have := (HS7.out b e).2; omega)).trans (HK7.out.1 b h1 h2), HK7.out.2.1.trans (hk8.below HK7.out.2.1.size (fun b e => (HS7.out b e).1)), by have := HK7.out.2.2; have := hk8.size; omega, fun b hb => by
        rcases hS8 b hb with h | h
        · exact (HS7.out b h).2
        · have := HK7.out.2.2; exact .inr (by omega)⟩)
    have HOG := Lib.hid (open_again d a S8 w8 hd8 HG.out.1 HG.out.2.2.1 (by have := HG.out.2.2.2.2; omega))
    clear hd8 hS8 hk8 HFA
    go_wp2_with fail
    refine HOG.out.mono ?_
    rintro e w9 ⟨g2, T9, rfl, hop, hT9, hb9⟩
    have HB9 := Lib.hid (By.ext HK8.out.2.1 hb9)
    have HX9 := Lib.hid (HX5.out.far (w' := w9) (fun b h1 h2 => (hb9.block b (by have := HK8.out.2.2.1; omega)).trans (HK8.out.1 b h1 h2)))
    have HY9 := Lib.hid (HY5.out.far (w' := w9) (fun b h1 h2 => (hb9.block b (by have := HK8.out.2.2.1; omega)).trans (HK8.out.1 b (by have := HZ5.out; omega) h2)))
    have HZ9 := Lib.hid (show w8.heap.size ≤ w9.heap.size from hb9.size)
    have HK9 := Lib.hid (show ∀ b, w2.heap.size ≤ b → b < w5.heap.size → w9.heap[b]? = w5.heap[b]? from fun b h1 h2 => (hb9.block b (by have := HK8.out.2.2.1; omega)).trans (HK8.out.1 b h1 h2))
    have HT9 := Lib.hid hT9
    have HS9 := Lib.hid (show ∀ b, S8 b → b < w8.heap.size from (dlt' HD8.out).1)
    have HAP := Lib.hid (second_append g2 d a b Ay cy S8 T9 w9 hop (HD8.out.below hb9) (fun b ht hs => by have := hT9 b ht; have := HS9.out b hs; omega) (Copied.lies HY9.out).2 HG.out.1 HG.out.2.1 HG.out.2.2.1 HG.out.2.2.2.1 HG.out.2.2.2.2)
    clear hop hT9 hb9 HOG
    go_wp2_with fail
    refine HAP.out.mono ?_
    rintro e w10 ⟨rfl, l10, P10, s10, S10, T10, hlg, hds, hly, hpf, hdn, hS10, hT10, hk10⟩
    have HLG := Lib.hid hlg
    have HDS := Lib.hid hds
    have HLY := Lib.hid hly
    have HPF := Lib.hid hpf
    have HDN := Lib.hid hdn
    have hfree : ∀ b, w2.heap.size ≤ b → b < w5.heap.size → w10.heap[b]? = w9.heap[b]? := fun b h1 h2 => hk10.block b (by have := HK8.out.2.2.1; have := HZ9.out; omega) (fun e => by
      rcases e with e | e
      · have := HK8.out.2.2.2 b e; omega
      · have := HT9.out b e; have := HK8.out.2.2.1; omega)
    have HB10 := Lib.hid (show Below w.heap.size w w10 from HB9.out.trans (hk10.below HB9.out.size (fun b e => by
      rcases e with e | e
      · exact HS8.out b e
      · have := HT9.out b e; have := HK8.out.2.1.size; omega)))
    have HX10 := Lib.hid (HX5.out.far (w' := w10) (fun b h1 h2 => (hfree b h1 h2).trans (HK9.out b h1 h2)))
    have HY10 := Lib.hid (HY5.out.far (w' := w10) (fun b h1 h2 => (hfree b (by have := HZ5.out; omega) h2).trans (HK9.out b (by have := HZ5.out; omega) h2)))
    clear hlg hds hly hpf hdn hS10 hT10 hk10 hfree HAP
    obtain ⟨vs, hvo, hvl, hv1, hvs⟩ := copied_one HX10.out
    obtain ⟨us, huo, hul, hu1, hus⟩ := copied_one HY10.out
    have HVL := Lib.hid hvl
    have HUL := Lib.hid hul
    have HV1 := Lib.hid hv1
    have HU1 := Lib.hid hu1
    have HVS := Lib.hid hvs
    have HUS := Lib.hid hus
    have HUO := Lib.hid huo
    have HOW := Lib.hid (show Sl.OwnL w10.heap.size (w10.alloc (.cells #[] 33)) (.slice (some ⟨w10.heap.size, 0, none⟩) 0 0) [] from World.ownsRow_made w10 #[] 0 (Nat.le_refl _) (by decide) (by decide))
    have HVA := Lib.hid (show Sl.OwnL w2.heap.size (w10.alloc (.cells #[] 33)) (.slice Ax a.length cx) vs from World.ownsRow.alloc hvo _)
    clear hvo huo hvl hul hv1 hu1 hvs hus
    go_wp2_with (first
      | (at_builtin; refine wpList_appR rfl (.tmp 138) (.tmp 139) rfl rfl HOW.out rfl HVA.out HV1.out (by have := HVL.out; have := HG.out.2.2.1; simp; omega) (by simp) ?_; intro v11 w11 ho11 hb11
         obtain ⟨A11, c11, hv11⟩ := ownsRow_form ho11
         subst hv11
         have HO11 := Lib.hid ho11
         have HB11 := Lib.hid (show Below w10.heap.size w10 w11 from (nAllocW w10 _).trans hb11)
         have HUA := Lib.hid (show Sl.OwnL w3.heap.size w11 (.slice Ay b.length cy) us from ownsRow_keep HUO.out (fun b hb => HB11.out.block b (ownsRow_lt HUO.out hb).2))
         clear ho11 hb11)
      | (at_builtin; refine wpList_appR rfl (.tmp 140) (.tmp 141) rfl rfl HO11.out rfl HUA.out HU1.out (by have := HVL.out; have := HUL.out; have := HG.out.2.2.1; have := HG.out.2.2.2.1; simp; omega) HB11.out.size ?_; intro v12 w12 ho12 hb12
         obtain ⟨A12, c12, hv12⟩ := ownsRow_form ho12
         subst hv12
         have HB12 := Lib.hid (show Below w10.heap.size w10 w12 from HB11.out.trans hb12)
         have HRW := Lib.hid (two_rows (by rw [List.nil_append] at ho12; exact ho12) HVL.out HUL.out (fun i l hl => by obtain ⟨A', c', h1, h2⟩ := HVS.out i l hl; exact ⟨A', c', h1, ownsRow_keep h2 (fun b hb => HB12.out.block b (ownsRow_lt h2 hb).2)⟩) (fun i l hl => by obtain ⟨A', c', h1, h2⟩ := HUS.out i l hl; exact ⟨A', c', h1, ownsRow_keep h2 (fun b hb => HB12.out.block b (ownsRow_lt h2 hb).2)⟩))
         clear ho12 hb12)
      | fail)
    obtain ⟨m12, hm12⟩ : ∃ m12, m12 = ([] ++ vs ++ us).length := ⟨_, rfl⟩
    have HMD := Lib.hid (model_in (w := w12) (c := c12) HRW.out.2)
    have HB13 := Lib.hid (show Below w10.heap.size w10 (w12.alloc (.cells #[.int .u64 1, .slice A12 (a ++ b).length c12, .int .i64 0] 40)) from HB12.out.trans ((nAllocW w12 _).mono HB12.out.size))
    have HAL := Lib.hid (lays_alike g2 w12.heap.size d A12 c12 s10 S10 T10 l10 P10 (w12.alloc (.cells #[.int .u64 1, .slice A12 (a ++ b).length c12, .int .i64 0] 40)) (HLG.out.below HB13.out) (HDS.out.below HB13.out) HLY.out HDN.out (by rw [HPF.out]; exact HMD.out) (by rw [HPF.out, List.length_append]; have := HG.out.2.2.1; have := HG.out.2.2.2.1; omega))
    have HLE := Lib.hid (show vs.length + us.length = (a ++ b).length by have := HVL.out; have := HUL.out; simp; omega)
    rw [HLE.out]
    clear hm12
    refine HAL.out.mono ?_
    rintro e w14 ⟨rfl, hb14⟩
    have HB14 := Lib.hid (By.ext (HB10.out.trans (HB13.out.mono HB10.out.size)) hb14)
    clear hb14
    go_wp2
    go_ret
    exact ⟨rfl, HB14.out⟩
end Go.Proofs.YtjnmolpopjapnaaGreatDoor.Wa
