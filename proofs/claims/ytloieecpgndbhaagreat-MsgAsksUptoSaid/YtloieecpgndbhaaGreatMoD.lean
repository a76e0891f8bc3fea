/- Package scupperref03's writer: lists of numbers, configurations, entries, as contracts of calls. -/
import Derived.Test.YtloieecpgndbhaaGreatMoA
namespace Go.Proofs.YtloieecpgndbhaaGreat.Mo
open Go.RowKit By CoP Co

/-- An int as the number that stands for it. -/
def u64N (x : Int) : Nat := (x % 18446744073709551616).toNat
theorem u64N_eq (x : Int) : ((u64N x : Nat) : Int) = x % 18446744073709551616 := by unfold u64N; omega
theorem u64N_lt (x : Int) : u64N x < 18446744073709551616 := by unfold u64N; omega
/-- A list of numbers. -/
def putIds (l : List Int) : List UInt8 := putNum l.length ++ l.flatMap fun x => putNum (u64N x)
theorem putNum_len (n : Nat) (h : n < 18446744073709551616) : (putNum n).length ≤ 9 := by rw [putNum_length]; have := nb_le (n := n) (k := 8) (by simpa using h); omega
theorem putIds_take (l : List Int) (k : Nat) : ((l.take k).flatMap fun x => putNum (u64N x)).length ≤ 9 * k := by
  induction k generalizing l with
  | zero => simp
  | succ k ih =>
    cases l with
    | nil => simp
    | cons x t =>
      simp only [List.take_succ_cons, List.flatMap_cons, List.length_append]
      have h1 := ih t
      have h2 := putNum_len (u64N x) (u64N_lt x)
      omega

/-- The cells of a slice that begins at A hold the ints l, and lie below block B. -/
def LiesI (w : World) (B : Nat) (A : Option Addr) (l : List Int) : Prop :=
  0 < l.length → ∃ g o, A = some ⟨g, o, none⟩ ∧ g < B ∧ ∀ j x, l[j]? = some x → w.cell? ⟨g, o + j, none⟩ = some (.int .i64 x) ∧ -9223372036854775808 ≤ x ∧ x ≤ 9223372036854775807
section
variable {w w' : World} {B B' : Nat} {A : Option Addr} {l : List Int}
theorem LiesI.empty (w : World) (B : Nat) (A : Option Addr) : LiesI w B A [] := fun h => absurd h (by simp)
theorem LiesI.keep (h : LiesI w B A l) (hk : ∀ p : Addr, p.block < B → w'.cell? p = w.cell? p) : LiesI w' B A l := fun hn => by
  obtain ⟨g, o, e, hg, hc⟩ := h hn
  exact ⟨g, o, e, hg, fun j x hx => ⟨(hk _ hg).trans (hc j x hx).1, (hc j x hx).2⟩⟩
theorem LiesI.more (h : LiesI w B A l) (hB : B ≤ B') : LiesI w B' A l := fun hn => by
  obtain ⟨g, o, e, hg, hc⟩ := h hn
  exact ⟨g, o, e, by omega, hc⟩
theorem LiesI.below (h : LiesI w B A l) (hb : Below B w w') : LiesI w' B A l := h.keep fun _ hp => hb.cell hp
theorem LiesI.alloc (h : LiesI w B A l) (hB : B ≤ w.heap.size) (o : Obj) : LiesI (w.alloc o) B A l := h.keep fun p hp => World.cell?_alloc_lt w o p (by omega)
theorem LiesI.at_ (h : LiesI w B A l) {k : Nat} (hk : k < l.length) : ∃ g o, A = some ⟨g, o, none⟩ ∧ g < B ∧ w.cell? ⟨g, o + k, none⟩ = some (.int .i64 l[k]) ∧ -9223372036854775808 ≤ l[k] ∧ l[k] ≤ 9223372036854775807 := by
  obtain ⟨g, o, e, hg, hc⟩ := h (by omega)
  exact ⟨g, o, e, hg, hc k _ (List.getElem?_eq_getElem hk)⟩
end

set_option maxHeartbeats 400000 in
theorem outIds_any (base g : Nat) (A : Option Addr) (m c B : Nat) (l : List Int) (hm : m = l.length) (acc : List UInt8) (w : World) (hr : LiesI w B A l) (hB : B ≤ base) (h : OutAt base g w acc) (hb : base ≤ w.heap.size)
    (hl : l.length ≤ 140737488355328) (hs : acc.length + 9 * l.length + 18 ≤ 140737488355328) :
    Calls Tryz.prog 150 #[.pointer (some ⟨g, 0, none⟩), .slice A m c] w (Wrote base g (acc ++ putIds l) w) := by
  have hm47 : m ≤ 140737488355328 := by omega
  have HM := Lib.hid hm
  have HS := Lib.hid hs
  have HR := Lib.hid hr
  have HO := Lib.hid h
  clear hm hs hr h hl
  go_enter Tryz.func150, Tryz.ntmps150
  go_wp2_with fail
  refine (outNum_any base g m _ rfl (by omega) acc w HO.out hb (by have := HS.out; omega)).mono ?_
  rintro e w1 ⟨rfl, ho1, hb1, ht1⟩
  have HO1 := Lib.hid ho1
  have HB1 := Lib.hid hb1
  have HT1 := Lib.hid ht1
  clear ho1 hb1 ht1
  go_wp2
  go_loopw [4] (fun i wr => ∃ k : Nat, k ≤ m ∧ i = .int .i64 k ∧ OutAt base g wr (acc ++ putNum m ++ (l.take k).flatMap fun x => putNum (u64N x)) ∧ Below base w wr ∧ Typed w wr) (fun i _ => m - (intOf i).toNat)
  case atStart => exact ⟨0, Nat.zero_le _, rfl, by simpa using HO1.out, HB1.out, HT1.out⟩
  case round =>
    obtain ⟨k, hk, rfl, ho, hbw, htw⟩ := hrel
    have hz := hbw.size
    have HOW := Lib.hid ho
    have HBW := Lib.hid hbw
    have HTW := Lib.hid htw
    by_cases hkm : k < m
    · have hkl : k < l.length := by have := HM.out; omega
      obtain ⟨gg, o, rfl, hg, hc, hx0, hx1⟩ := (HR.out.below (hbw.mono hB)).at_ hkl
      have HSUC := Lib.hid (show acc ++ putNum m ++ ((l.take (k + 1)).flatMap fun x => putNum (u64N x)) = acc ++ putNum m ++ ((l.take k).flatMap fun x => putNum (u64N x)) ++ putNum (u64N l[k]) by
        rw [List.take_succ_eq_append_getElem hkl]
        simp only [List.flatMap_append, List.flatMap_cons, List.flatMap_nil, List.append_nil, List.append_assoc])
      have HLE := Lib.hid (putIds_take l k)
      generalize l[k] = x at hc hx0 hx1 HSUC
      clear ho hbw htw hkl
      go_wp2_with fail
      refine (outNum_any base g (u64N x) _ (by rw [u64N_eq]; rfl) (u64N_lt x) _ _ HOW.out (by omega) (by have h1 := HLE.out; have h2 := HS.out; have h3 := putNum_len m (by omega); have h4 := HM.out; rw [List.length_append, List.length_append]; omega)).mono ?_
      rintro e w2 ⟨rfl, ho2, hb2, ht2⟩
      rw [← HSUC.out] at ho2
      have HO2 := Lib.hid ho2
      have HB2 := Lib.hid (HBW.out.trans hb2)
      have HT2 := Lib.hid (HTW.out.trans ht2)
      clear ho2 hb2 ht2
      go_wp2
      go_roundw
      case rel => exact ⟨k + 1, by omega, by go_num, HO2.out, HB2.out, HT2.out⟩
      case measure => simp [intOf]; omega
    · obtain rfl : k = m := by omega
      have hl : l.take k = l := List.take_of_length_le (by have := HM.out; omega)
      rw [hl, HM.out] at ho
      clear hl hbw htw
      go_wp2
      go_end0
      refine ⟨rfl, ?_, HBW.out, HTW.out⟩
      unfold putIds
      rw [← List.append_assoc]
      exact ho
end Go.Proofs.YtloieecpgndbhaaGreat.Mo
