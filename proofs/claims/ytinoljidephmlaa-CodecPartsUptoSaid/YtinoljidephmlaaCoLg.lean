/- The law CodecParts, walked: whatever numbers come in, not too many. -/
import Derived.Test.YtinoljidephmlaaCoLc
import Derived.Test.YtinoljidephmlaaSu
namespace Go.Proofs.Ytinoljidephmlaa.Co
open Go.RowKit By CoP Su

/-- Are the first k of lb those of la, as far as la goes? -/
def sameB (la lb : List Nat) : Nat → Bool
  | 0 => true
  | k + 1 => sameB la lb k && (decide (la.length ≤ k) || la[k]? == lb[k]?)
theorem sameB_iff (la lb : List Nat) (k : Nat) : sameB la lb k = true ↔ ∀ j, j < k → j < la.length → la[j]? = lb[j]? := by
  induction k with
  | zero => simp [sameB]
  | succ k ih =>
    simp only [sameB, Bool.and_eq_true, ih, Bool.or_eq_true, decide_eq_true_eq, beq_iff_eq]
    constructor
    · rintro ⟨h1, h2⟩ j hj hl
      rcases Nat.lt_or_ge j k with h | h
      · exact h1 j h hl
      · obtain rfl : j = k := by omega
        rcases h2 with h2 | h2
        · omega
        · exact h2
    · intro h
      refine ⟨fun j hj hl => h j (by omega) hl, ?_⟩
      by_cases hk : la.length ≤ k
      · exact .inl hk
      · exact .inr (h k (by omega) (by omega))
theorem prefix_iff (la lb : List Nat) : la.isPrefixOf lb = true ↔ (la.length ≤ lb.length ∧ sameB la lb lb.length = true) := by
  rw [List.isPrefixOf_iff_prefix, sameB_iff, List.prefix_iff_eq_take]
  constructor
  · intro h
    have hl := congrArg List.length h
    rw [List.length_take] at hl
    refine ⟨by omega, fun j hj hjl => ?_⟩
    have e := congrArg (fun l => l[j]?) h
    simp only [List.getElem?_take] at e
    rwa [if_pos hjl] at e
  · rintro ⟨h1, h2⟩
    apply List.ext_getElem?
    intro j
    rw [List.getElem?_take]
    by_cases hj : j < la.length
    · rw [if_pos hj]
      exact h2 j (by omega) hj
    · rw [if_neg hj, List.getElem?_eq_none (by omega)]
theorem parts_iff (la lb : List Nat) (ha : ∀ x ∈ la, x < 18446744073709551616) (hb : ∀ x ∈ lb, x < 18446744073709551616) :
    ((putAll la).length ≤ (putAll lb).length ∧ putAll la = (putAll lb).take (putAll la).length) ↔ (la.length ≤ lb.length ∧ sameB la lb lb.length = true) := by
  rw [← prefix_iff, ← putAll_prefix la lb (fun x hx => by simpa using ha x hx) (fun x hx => by simpa using hb x hx), List.isPrefixOf_iff_prefix, List.prefix_iff_eq_take]
  constructor
  · exact fun h => h.2
  · intro h
    refine ⟨?_, h⟩
    have := congrArg List.length h
    rw [List.length_take] at this
    omega
theorem putAll_take {l : List Nat} {k : Nat} (h : k < l.length) : putAll (l.take (k + 1)) = putAll (l.take k) ++ putNum l[k] := by
  unfold putAll
  rw [List.take_succ_eq_append_getElem h, List.flatMap_append, List.flatMap_cons, List.flatMap_nil, List.append_nil]
theorem putAll_length (l : List Nat) (h : ∀ x ∈ l, x < 18446744073709551616) : (putAll l).length ≤ 9 * l.length := by
  induction l with
  | nil => simp [putAll]
  | cons x r ih =>
    have h1 := ih (fun y hy => h y (List.mem_cons_of_mem _ hy))
    have h2 := putNum_short x (h x List.mem_cons_self)
    unfold putAll at h1 ⊢
    rw [List.flatMap_cons, List.length_append, List.length_cons]
    omega

set_option maxRecDepth 100000 in
set_option maxHeartbeats 3200000 in
theorem codecParts_walk (A : Option Addr) (n c : Nat) (la : List Nat) (A2 : Option Addr) (n2 c2 : Nat) (lb : List Nat) (hn : n = la.length) (hm : n ≤ 1048576) (hn2 : n2 = lb.length) (hm2 : n2 ≤ 1048576) (w : World)
    (hr : LiesU w w.heap.size A la) (hr2 : LiesU w w.heap.size A2 lb) : Calls Try.prog 7 #[.slice A n c, .slice A2 n2 c2] w (True_ w) := by
  have HN := Lib.hid hn
  have HN2 := Lib.hid hn2
  have HR := Lib.hid hr
  have HR2 := Lib.hid hr2
  clear hn hn2 hr hr2
  have hlen : ∀ k, (putAll (la.take k)).length ≤ 9 * 1048576 := fun k => by
    have h1 := putAll_length (la.take k) (fun x hx => HR.out.1 x (List.mem_of_mem_take hx))
    rw [List.length_take] at h1
    have := HN.out
    omega
  have hlen2 : ∀ k, (putAll (lb.take k)).length ≤ 9 * 1048576 := fun k => by
    have h1 := putAll_length (lb.take k) (fun x hx => HR2.out.1 x (List.mem_of_mem_take hx))
    rw [List.length_take] at h1
    have := HN2.out
    omega
  have HLEN := Lib.hid hlen
  have HLEN2 := Lib.hid hlen2
  clear hlen hlen2
  go_enter Try.func7, Try.ntmps7
  go_wp2
  go_loopw [5, 8] (fun v i wr => ∃ (k : Nat) (X : Option Addr) (m cx : Nat), k ≤ n ∧ i = .int .i64 (k : Int) ∧ v = .slice X m cx ∧ m = (putAll (la.take k)).length ∧ m ≤ cx ∧ Lies wr wr.heap.size X (putAll (la.take k)) ∧ Below w.heap.size w wr) (fun _ i _ => n - (intOf i).toNat)
  case atStart => exact ⟨0, none, 0, 0, by omega, rfl, rfl, rfl, Nat.le_refl _, Lies.empty _ _ _, Below.refl _ _⟩
  case round =>
    obtain ⟨k, X, m, cx, hk, rfl, rfl, hmx, hmc, hx, hb⟩ := hrel
    have HMX := Lib.hid hmx
    have HX := Lib.hid hx
    have HB := Lib.hid hb
    clear hmx hx hb
    by_cases hkn : k < n
    · have hkl : k < la.length := by have := HN.out; omega
      obtain ⟨g, o, rfl, hg, hc, hq⟩ := (HR.out.below HB.out).at_ hkl
      have HS := Lib.hid (putAll_take hkl)
      generalize la[k] = q at hc hq HS
      have HQ := Lib.hid hq
      clear hq hkl
      go_wp2_with fail
      refine (putNum_any X m cx _ (putAll (la.take k)) q _ rfl HQ.out HMX.out wr HX.out (Nat.le_refl _) (by have := HLEN.out k; omega)).mono ?_
      rintro e w1 ⟨_, rfl, ho, hb⟩
      rw [← HS.out] at ho
      obtain ⟨X1, cx1, rfl, hcx1, -, -, hx1, -⟩ := ho.form
      have HX1 := Lib.hid hx1
      have HB1 := Lib.hid (ext HB.out hb)
      clear ho hb hx1 hc HS
      go_wp2
      go_roundw
      case rel => exact ⟨k + 1, _, _, _, by omega, by go_num, rfl, rfl, hcx1, HX1.out, HB1.out⟩
      case measure => simp [intOf]; omega
    · obtain rfl : k = n := by omega
      have hlk : la.take k = la := List.take_of_length_le (by have := HN.out; omega)
      rw [hlk] at HMX HX
      obtain ⟨wo, rfl⟩ : ∃ wo : World, wo = wr := ⟨_, rfl⟩
      clear hlk
      go_wp2
      go_loopw [6, 7, 9] (fun v s i wr => ∃ (j : Nat) (Y : Option Addr) (m2 cy : Nat), j ≤ n2 ∧ i = .int .i64 (j : Int) ∧ s = .bool (sameB la lb j) ∧ v = .slice Y m2 cy ∧ m2 = (putAll (lb.take j)).length ∧ m2 ≤ cy ∧ Lies wr wr.heap.size Y (putAll (lb.take j)) ∧ Below wo.heap.size wo wr) (fun _ _ i _ => n2 - (intOf i).toNat)
      case atStart => exact ⟨0, none, 0, 0, by omega, rfl, rfl, rfl, rfl, Nat.le_refl _, Lies.empty _ _ _, Below.refl _ _⟩
      case round =>
        obtain ⟨j, Y, m2, cy, hj, rfl, rfl, rfl, hmy, hmc2, hy, hb⟩ := hrel
        have HMY := Lib.hid hmy
        have HY := Lib.hid hy
        have HBY := Lib.hid hb
        clear hmy hy hb
        by_cases hjn : j < n2
        · have hjl : j < lb.length := by have := HN2.out; omega
          obtain ⟨g, o, rfl, hg, hc, hq⟩ := (HR2.out.below (ext HB.out HBY.out)).at_ hjl
          have HS := Lib.hid (putAll_take hjl)
          have HLB := Lib.hid (List.getElem?_eq_getElem hjl)
          generalize lb[j] = q at hc hq HS HLB
          have HQ := Lib.hid hq
          clear hq hjl
          go_wp2_with fail
          refine (putNum_any Y m2 cy _ (putAll (lb.take j)) q _ rfl HQ.out HMY.out wr HY.out (Nat.le_refl _) (by have := HLEN2.out j; omega)).mono ?_
          rintro e w1 ⟨_, rfl, ho, hb⟩
          rw [← HS.out] at ho
          obtain ⟨Y1, cy1, rfl, hcy1, -, -, hy1, -⟩ := ho.form
          obtain ⟨m3, hm3⟩ : ∃ m3, (putAll (lb.take (j + 1))).length = m3 := ⟨_, rfl⟩
          rw [hm3] at hcy1 ⊢
          have HM3 := Lib.hid hm3.symm
          have HY1 := Lib.hid hy1
          have HB1 := Lib.hid (ext HBY.out hb)
          have hcb : w1.cell? ⟨g, o + j, none⟩ = some (.int .u64 (q : Int)) := (hb.cell (p := ⟨g, o + j, none⟩) (Nat.lt_of_lt_of_le hg (ext HB.out HBY.out).size)).trans hc
          have HRA := Lib.hid (HR.out.below (ext HB.out HB1.out))
          have hsb : sameB la lb (j + 1) = (sameB la lb j && (decide (la.length ≤ j) || la[j]? == some q)) := by rw [← HLB.out]; rfl
          have HSB := Lib.hid hsb
          clear ho hb hy1 hc HS hm3 hsb
          obtain ⟨s, hs⟩ : ∃ s, sameB la lb j = s := ⟨_, rfl⟩
          rw [hs] at HSB ⊢
          have hi0 : (0 : Int) ≤ (j : Int) := by omega
          clear hs
          rcases s with _ | _
          · have HE := Lib.hid (show sameB la lb (j + 1) = false by rw [HSB.out]; rfl)
            go_wp2_with fail
            go_quiet (fail)
            go_wp2
            go_roundw
            case rel => exact ⟨j + 1, _, _, _, by omega, by go_num, by rw [HE.out], rfl, HM3.out, hcy1, HY1.out.drewN _, below_drewN HB1.out _⟩
            case measure => simp [intOf]; omega
          · by_cases hjk : k ≤ j
            · have HE := Lib.hid (show sameB la lb (j + 1) = true by rw [HSB.out]; have := HN.out; simp; omega)
              have hd : decide ((k : Int) ≤ (j : Int)) = true := by simp; omega
              go_wp2_with fail
              go_quiet (fail)
              go_wp2
              go_roundw
              case rel => exact ⟨j + 1, _, _, _, by omega, by go_num, by rw [HE.out], rfl, HM3.out, hcy1, HY1.out.drewN _, below_drewN HB1.out _⟩
              case measure => simp [intOf]; omega
            · have hd : decide ((k : Int) ≤ (j : Int)) = false := by simp; omega
              have hjl : j < la.length := by have := HN.out; omega
              have hjk2 : (j : Int) < (k : Int) := by omega
              have hjn2 : (j : Int) < (n2 : Int) := by omega
              obtain ⟨ga, oa, rfl, hga, hca, -⟩ := HRA.out.at_ hjl
              have HLA := Lib.hid (List.getElem?_eq_getElem hjl)
              generalize la[j] = p at hca HLA
              by_cases hpq : p = q
              · have HE := Lib.hid (show sameB la lb (j + 1) = true by rw [HSB.out, HLA.out, hpq]; simp)
                have hbe : ((p : Int) == (q : Int)) = true := by rw [beq_iff_eq]; omega
                clear hpq hjl
                go_wp2_with fail
                go_quiet (fail)
                go_wp2
                go_roundw
                case rel => exact ⟨j + 1, _, _, _, by omega, by go_num, by rw [HE.out], rfl, HM3.out, hcy1, HY1.out.drewN _, below_drewN HB1.out _⟩
                case measure => simp [intOf]; omega
              · have HE := Lib.hid (show sameB la lb (j + 1) = false by rw [HSB.out, HLA.out]; have := HN.out; simp; omega)
                have hbe : ((p : Int) == (q : Int)) = false := by rw [beq_eq_false_iff_ne]; omega
                clear hpq hjl
                go_wp2_with fail
                go_quiet (fail)
                go_wp2
                go_roundw
                case rel => exact ⟨j + 1, _, _, _, by omega, by go_num, by rw [HE.out], rfl, HM3.out, hcy1, HY1.out.drewN _, below_drewN HB1.out _⟩
                case measure => simp [intOf]; omega
        · obtain rfl : j = n2 := by omega
          have hlj : lb.take j = lb := List.take_of_length_le (by have := HN2.out; omega)
          rw [hlj] at HMY HY
          have hpi := parts_iff la lb HR.out.1 HR2.out.1
          rw [← HMX.out, ← HMY.out, ← HN.out, ← HN2.out] at hpi
          have HPI := Lib.hid hpi
          obtain ⟨s, hs⟩ : ∃ s, sameB la lb j = s := ⟨_, rfl⟩
          rw [hs] at HPI ⊢
          have HXr := Lib.hid (lext HX.out HBY.out)
          have HBr := Lib.hid (ext HB.out HBY.out)
          have hmy2 : m2 ≤ 140737488355328 := by have := HLEN2.out j; rw [hlj] at this; have := HMY.out; omega
          have hmx2 : m ≤ 140737488355328 := by have := HMX.out; have h := HLEN.out la.length; rw [List.take_length] at h; omega
          clear hlj hpi hs
          by_cases hle : m ≤ m2
          · have hd : decide ((m : Int) ≤ (m2 : Int)) = true := by simp; omega
            have hmin : min (m : Int) (m2 : Int) = (m : Int) := by omega
            have t1 : ∀ w', Below wr.heap.size wr w' → (convert 22 9 (.slice X m cx)).run Try.prog w' = .ok (.string (str (putAll la))) w' := fun w' h => run_text w' cx HMX.out (lext HXr.out h)
            have t2 : ∀ w', Below wr.heap.size wr w' → (convert 22 9 (.slice Y m cy)).run Try.prog w' = .ok (.string (str ((putAll lb).take m))) w' := fun w' h => run_text w' cy (by rw [List.length_take, ← HMY.out]; omega) (lies_take (lext HY.out h) m)
            have t3 := fun w' => run_to w' Y m2 cy m (by omega)
            by_cases heq : putAll la = (putAll lb).take m
            · have hbe : ((str (putAll la)).toList == (str ((putAll lb).take m)).toList) = true := by rw [← heq]; exact beq_self_eq_true _
              obtain ⟨hkj, hs⟩ := HPI.out.1 ⟨hle, heq⟩
              subst hs
              have hd2 : decide ((k : Int) ≤ (j : Int)) = true := by simp; omega
              clear heq
              go_wp2_with fail
              go_region_held (fun w' => Below wr.heap.size wr w') (first | assumption | exact (Below.refl _ _).drew) (fail)
              go_wp2_with fail
              refine (answers_yes _).mono ?_
              rintro e w9 ⟨rfl, hb⟩
              have HB9 := Lib.hid (ext HBr.out (ext (by assumption) hb))
              clear hb
              go_wp2
              go_ret
              exact ⟨rfl, HB9.out⟩
            · have hbe : ((str (putAll la)).toList == (str ((putAll lb).take m)).toList) = false := by
                rw [beq_eq_false_iff_ne]
                intro h
                refine heq ?_
                rw [ByteArray.toList_eq, ByteArray.toList_eq] at h
                simpa [str] using h
              have hno := fun h => heq (HPI.out.2 h).2
              clear heq
              by_cases hkj : k ≤ j
              · have hd2 : decide ((k : Int) ≤ (j : Int)) = true := by simp; omega
                obtain rfl : s = false := by
                  cases s
                  · rfl
                  · exact absurd ⟨hkj, rfl⟩ hno
                clear hno
                go_wp2_with fail
                go_region_held (fun w' => Below wr.heap.size wr w') (first | assumption | exact (Below.refl _ _).drew) (fail)
                go_wp2_with fail
                refine (answers_yes _).mono ?_
                rintro e w9 ⟨rfl, hb⟩
                have HB9 := Lib.hid (ext HBr.out (ext (by assumption) hb))
                clear hb
                go_wp2
                go_ret
                exact ⟨rfl, HB9.out⟩
              · have hd2 : decide ((k : Int) ≤ (j : Int)) = false := by simp; omega
                clear hno
                go_wp2_with fail
                go_region_held (fun w' => Below wr.heap.size wr w') (first | assumption | exact (Below.refl _ _).drew) (fail)
                go_wp2_with fail
                refine (answers_yes _).mono ?_
                rintro e w9 ⟨rfl, hb⟩
                have HB9 := Lib.hid (ext HBr.out (ext (by assumption) hb))
                clear hb
                go_wp2
                go_ret
                exact ⟨rfl, HB9.out⟩
          · have hd : decide ((m : Int) ≤ (m2 : Int)) = false := by simp; omega
            have hno := fun h => hle (HPI.out.2 h).1
            by_cases hkj : k ≤ j
            · have hd2 : decide ((k : Int) ≤ (j : Int)) = true := by simp; omega
              obtain rfl : s = false := by
                cases s
                · rfl
                · exact absurd ⟨hkj, rfl⟩ hno
              clear hno
              go_wp2_with fail
              go_quiet (fail)
              go_wp2_with fail
              refine (answers_yes _).mono ?_
              rintro e w9 ⟨rfl, hb⟩
              have HB9 := Lib.hid (ext HBr.out (ext (below_drewN (Below.refl _ _) _) hb))
              clear hb
              go_wp2
              go_ret
              exact ⟨rfl, HB9.out⟩
            · have hd2 : decide ((k : Int) ≤ (j : Int)) = false := by simp; omega
              clear hno
              go_wp2_with fail
              go_quiet (fail)
              go_wp2_with fail
              refine (answers_yes _).mono ?_
              rintro e w9 ⟨rfl, hb⟩
              have HB9 := Lib.hid (ext HBr.out (ext (below_drewN (Below.refl _ _) _) hb))
              clear hb
              go_wp2
              go_ret
              exact ⟨rfl, HB9.out⟩
end Go.Proofs.Ytinoljidephmlaa.Co
