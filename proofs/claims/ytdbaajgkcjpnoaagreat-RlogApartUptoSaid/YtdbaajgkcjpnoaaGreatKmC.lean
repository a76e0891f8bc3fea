/- Package msg's apart, and what is asked of a configuration's lists together, as contracts of calls. -/
import Derived.Test.YtdbaajgkcjpnoaaGreatKmA
import Derived.Test.YtdbaajgkcjpnoaaGreatGA
import Derived.Deep.QuietTactic
import Derived.Deep.RegionWith
import Derived.BigQuiet
namespace Go.Proofs.YtdbaajgkcjpnoaaGreat.Kd
open Go.RowKit By CoP Co Mo

def slen : Value → Nat
  | .slice _ n _ => n
  | _ => 0
theorem run_fromI (w : World) (A : Option Addr) (n c : Nat) : (Instr.slice 85 (.slice A (n + 1) (c + 1)) (some (.int .i64 1)) none none).run Tryz.prog w = .ok (.slice (cutA A (c + 1) 1) n c) w := by
  have ht : Tryz.prog.underlying 85 = some (.slice (Tryz.prog.elem 85)) := by simp [Program.elem, Tryz.underlying85]
  rw [run_slice_l w _ _ _ _ ht .i64 _ (by omega) (by omega)]
  have he : Tryz.prog.elem 85 = 3 := by simp [Program.elem, Tryz.underlying85]
  rw [he, show (sizeOf 3).run Tryz.prog w = .ok 1 w from by kernel_rfl]
  simp [Result.andThen, sliced, cutA]
theorem liesI_tail {w : World} {B : Nat} {A : Option Addr} {x : Int} {t : List Int} (h : LiesI w B A (x :: t)) (c : Nat) (hc : t.length ≤ c) : LiesI w B (cutA A (c + 1) 1) t := fun hn => by
  obtain ⟨g, o, rfl, hg, hl⟩ := h (by simp)
  refine ⟨g, o + 1, ?_, hg, fun j y hy => ?_⟩
  · simp only [cutA]
    rw [if_neg (by omega)]
    rfl
  · have := hl (j + 1) y (by simpa using hy)
    rwa [show o + 1 + j = o + (j + 1) by omega]
set_option maxHeartbeats 1600000 in
theorem apart_any (A A2 : Option Addr) (n c m c2 B : Nat) (a b : List Int) (hn : n = a.length) (hm : m = b.length) (hnc : n ≤ c) (hmc : m ≤ c2) (_ : n ≤ 140737488355328) (_ : m ≤ 140737488355328) (w : World) (hra : LiesI w B A a) (hrb : LiesI w B A2 b) :
    Calls Tryz.prog 128 #[.slice A n c, .slice A2 m c2] w (RetQ (.bool (apartB a b)) w) := by
  have HN := Lib.hid hn
  have HM := Lib.hid hm
  have HA := Lib.hid hra
  have HB := Lib.hid hrb
  clear hn hm hra hrb
  go_enter Tryz.func128, Tryz.ntmps128
  go_wp2
  go_loopw [0, 1] (fun u v wr => ∃ (A1 A3 : Option Addr) (k1 k2 q : Nat) (s t : List Int), u = .slice A1 s.length k1 ∧ v = .slice A3 t.length k2 ∧ s.length ≤ k1 ∧ t.length ≤ k2 ∧ s.length ≤ n ∧ t.length ≤ m ∧ wr = w.drewN q ∧ LiesI w B A1 s ∧ LiesI w B A3 t ∧ apartB a b = apartB s t) (fun u v _ => slen u + slen v)
  case atStart => exact ⟨A, A2, c, c2, 0, a, b, by rw [HN.out], by rw [HM.out], by have := HN.out; omega, by have := HM.out; omega, by have := HN.out; omega, by have := HM.out; omega, rfl, HA.out, HB.out, rfl⟩
  case round =>
    obtain ⟨A1, A3, k1, k2, q, s, t, rfl, rfl, hs1, ht1, hs2, ht2, rfl, hla, hlb, hap⟩ := hrel
    cases s with
    | nil =>
      rw [apartB_nil] at hap
      have HAP := Lib.hid hap
      clear hla hlb hap
      go_wp2
      go_ret
      rw [HAP.out]
      exact ⟨rfl, q, rfl⟩
    | cons x s =>
      cases t with
      | nil =>
        rw [apartB_nil2] at hap
        have HAP := Lib.hid hap
        simp only [List.length_cons] at hs1 hs2
        have hp1 : decide ((0 : Int) < (((x :: s).length : Nat) : Int)) = true := decide_eq_true (by simp only [List.length_cons]; omega)
        have hp2 : (0 : Int) < (((x :: s).length : Nat) : Int) := by simp only [List.length_cons]; omega
        clear hla hlb hap
        go_wp2
        go_ret
        rw [HAP.out]
        exact ⟨rfl, q, rfl⟩
      | cons y t =>
        rw [apartB_cons] at hap
        simp only [List.length_cons] at hs1 hs2 ht1 ht2
        obtain ⟨k1, rfl⟩ : ∃ k, k1 = k + 1 := ⟨k1 - 1, by omega⟩
        obtain ⟨k2, rfl⟩ : ∃ k, k2 = k + 1 := ⟨k2 - 1, by omega⟩
        have hta := liesI_tail hla k1 (by omega)
        have htb := liesI_tail hlb k2 (by omega)
        obtain ⟨g1, o1, rfl, _, hx⟩ := hla (by simp)
        obtain ⟨g2, o2, rfl, _, hy⟩ := hlb (by simp)
        obtain ⟨cx, hx1, hx2⟩ := hx 0 x rfl
        obtain ⟨cy, hy1, hy2⟩ := hy 0 y rfl
        have cx' : w.cell? ⟨g1, o1, none⟩ = some (.int .i64 x) := cx
        have cy' : w.cell? ⟨g2, o2, none⟩ = some (.int .i64 y) := cy
        have hp1 : (0 : Int) < ((s.length + 1 : Nat) : Int) := by omega
        have hp2 : (0 : Int) < ((t.length + 1 : Nat) : Int) := by omega
        have hq1 := fun w => run_fromI w (some ⟨g1, o1, none⟩) s.length k1
        have hq2 := fun w => run_fromI w (some ⟨g2, o2, none⟩) t.length k2
        have HLA := Lib.hid hta
        have HLB := Lib.hid htb
        have HAP := Lib.hid hap
        have HX := Lib.hid hla
        have HY := Lib.hid hlb
        clear hla hlb hap hx hy cx cy hta htb
        simp only [List.length_cons]
        by_cases h1 : x = y
        · subst h1
          have hap := HAP.out
          rw [if_pos rfl] at hap
          have HAP := Lib.hid hap
          clear hap
          go_wp2
          go_quiet (fail)
          go_wp2
          go_ret
          rw [HAP.out]
          exact ⟨rfl, _, drewN2 _ _ _⟩
        · have hap := HAP.out
          rw [if_neg h1] at hap
          by_cases h2 : x < y
          · rw [if_pos h2] at hap
            have HAP := Lib.hid hap
            have hne : (x == y) = false := by rw [beq_eq_false_iff_ne]; exact h1
            have hd2 : decide (x < y) = true := decide_eq_true h2
            clear hap
            go_wp2
            go_quiet (fail)
            go_wp2
            go_quiet (fail)
            go_wp2
            go_roundw
            case rel => exact ⟨_, _, k1, k2 + 1, _, s, y :: t, rfl, rfl, by omega, by simp only [List.length_cons]; omega, by omega, by simp only [List.length_cons]; omega, rfl, HLA.out, HY.out, HAP.out⟩
            case measure => simp only [slen]; omega
          · rw [if_neg h2] at hap
            have HAP := Lib.hid hap
            have hne : (x == y) = false := by rw [beq_eq_false_iff_ne]; exact h1
            have hd2 : decide (x < y) = false := decide_eq_false h2
            clear hap
            go_wp2
            go_quiet (fail)
            go_wp2
            go_quiet (fail)
            go_wp2
            go_roundw
            case rel => exact ⟨_, _, k1 + 1, k2, _, x :: s, t, rfl, rfl, by simp only [List.length_cons]; omega, by omega, by simp only [List.length_cons]; omega, by omega, rfl, HX.out, HLB.out, HAP.out⟩
            case measure => simp only [slen]; omega
set_option maxHeartbeats 1600000 in
theorem conf_tied {L : Nat} (W : World) : TiedAt L W (.func (.func 114) #[] #[]) confF confT := by
  refine ⟨_, _, rfl, enters_of Tryz.func114 (by kernel_rfl) rfl, ?_⟩
  intro w _ g o vs ds hr hrep
  obtain ⟨A, c, l, A2, c2, l2, rfl, rfl, hc1, hm1, hl1, hc2, hm2, hl2⟩ := conf_shape hrep
  have c0 : w.cell? ⟨g, o, none⟩ = some (.slice A l.length c) := hr 0 _ rfl
  have c1 : w.cell? ⟨g, o + 1, none⟩ = some (.slice A2 l2.length c2) := hr 1 _ rfl
  have e : confT [.agg (l.map litZ), .agg (l2.map litZ)] = (decide (0 < l.length) && ascB l && ascB l2 && apartB l l2) := by
    show (decide (0 < (l.map litZ).length) && ascB ((l.map litZ).map datI) && ascB ((l2.map litZ).map datI) && apartB ((l.map litZ).map datI) ((l2.map litZ).map datI)) = _
    rw [map_datI, map_datI, List.length_map]
  rw [e]
  have hri1 := fun (q : Nat) => rises_any A l.length c w.heap.size l rfl hm1 (w.drewN q) hl1
  have hri2 := fun (q : Nat) => rises_any A2 l2.length c2 w.heap.size l2 rfl hm2 (w.drewN q) hl2
  have hap := fun (q : Nat) => apart_any A A2 l.length c l2.length c2 w.heap.size l l2 rfl rfl hc1 hc2 hm1 hm2 (w.drewN q) hl1 hl2
  have HR1 := Lib.hid hri1
  have HR2 := Lib.hid hri2
  have HAP := Lib.hid hap
  clear hr hrep e hri1 hri2 hap hl1 hl2
  show Calls _ _ _ _ (Says (decide (0 < l.length) && ascB l && ascB l2 && apartB l l2) w)
  have hm1i : (l.length : Int) ≤ 140737488355328 := by omega
  by_cases hl : 0 < l.length
  · have hli : (0 : Int) < (l.length : Int) := by omega
    have hd : decide ((0 : Int) < (l.length : Int)) = true := decide_eq_true hli
    rw [decide_eq_true hl, Bool.true_and]
    have hdn : decide (0 < l.length) = true := decide_eq_true hl
    generalize hx1 : ascB l = x1 at HR1 ⊢
    generalize hx2 : ascB l2 = x2 at HR2 ⊢
    generalize hx3 : apartB l l2 = x3 at HAP ⊢
    clear hx1 hx2 hx3
    cases x1 with
    | false =>
      show Calls _ _ _ _ (Says false w)
      go_enter Tryz.func114, Tryz.ntmps114
      go_wp2_with fail
      go_quiet ((go_at_call 127; exact Calls.quiet_of (HR1.out _)))
      go_wp2
      go_ret
      exact ⟨rfl, below_drewN (Below.refl _ _) _⟩
    | true =>
      cases x2 with
      | false =>
        show Calls _ _ _ _ (Says false w)
        go_enter Tryz.func114, Tryz.ntmps114
        go_wp2_with fail
        go_quiet (first
          | (go_at_call_of 127 (Value.slice A l.length c); exact Calls.quiet_of (HR1.out _))
          | (go_at_call_of 127 (Value.slice A2 l2.length c2); exact Calls.quiet_of (HR2.out _)))
        go_wp2
        go_ret
        exact ⟨rfl, below_drewN (Below.refl _ _) _⟩
      | true =>
        show Calls _ _ _ _ (Says x3 w)
        go_enter Tryz.func114, Tryz.ntmps114
        go_wp2_with fail
        go_quiet (first
          | (go_at_call_of 127 (Value.slice A l.length c); exact Calls.quiet_of (HR1.out _))
          | (go_at_call_of 127 (Value.slice A2 l2.length c2); exact Calls.quiet_of (HR2.out _))
          | (go_at_call 128; exact Calls.quiet_of (HAP.out _)))
        go_wp2
        go_ret
        exact ⟨rfl, below_drewN (Below.refl _ _) _⟩
  · have hli : ¬ (0 : Int) < (l.length : Int) := by omega
    have hd : decide ((0 : Int) < (l.length : Int)) = false := decide_eq_false hli
    rw [decide_eq_false hl]
    have hdn : decide (0 < l.length) = false := decide_eq_false hl
    show Calls _ _ _ _ (Says false w)
    go_enter Tryz.func114, Tryz.ntmps114
    go_wp2_with fail
    go_quiet (fail)
    go_wp2
    go_ret
    exact ⟨rfl, below_drewN (Below.refl _ _) _⟩
end Go.Proofs.YtdbaajgkcjpnoaaGreat.Kd
