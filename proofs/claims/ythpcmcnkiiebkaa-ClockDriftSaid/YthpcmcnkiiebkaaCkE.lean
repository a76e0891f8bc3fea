/- Package clock's New, as a contract of a call. -/
import Derived.Test.YthpcmcnkiiebkaaCkD
namespace Go.Proofs.Ythpcmcnkiiebkaa.Ck
open Go.RowKit Go.Maps By Mp SumP SumW

/-- May there be clocks of so many? -/
def okNew (n m r : Int) : Prop := 1 ≤ n ∧ n ≤ 16 ∧ 0 ≤ m ∧ m ≤ 16 ∧ 0 ≤ r ∧ r ≤ 500000
instance (n m r : Int) : Decidable (okNew n m r) := inferInstanceAs (Decidable (_ ∧ _))
theorem new_ways {n m r : Int} (h : ¬ okNew n m r) : n < 1 ∨ (1 ≤ n ∧ 16 < n) ∨ (1 ≤ n ∧ n ≤ 16 ∧ m < 0) ∨ (1 ≤ n ∧ n ≤ 16 ∧ 0 ≤ m ∧ 16 < m) ∨ (1 ≤ n ∧ n ≤ 16 ∧ 0 ≤ m ∧ m ≤ 16 ∧ r < 0) ∨ (1 ≤ n ∧ n ≤ 16 ∧ 0 ≤ m ∧ m ≤ 16 ∧ 0 ≤ r ∧ 500000 < r) := by
  unfold okNew at h; omega
theorem new_bad (n m r : Int) (h : ¬ okNew n m r) (w : World) : Calls Try.prog 7 #[.int .i64 n, .int .i64 m, .int .i64 r] w (Ret (.tuple #[.pointer none, .int .i64 1]) w) := by
  rcases new_ways h with h | ⟨h0, h1⟩ | ⟨h0, h1, h2⟩ | ⟨h0, h1, h2, h3⟩ | ⟨h0, h1, h2, h3, h4⟩ | ⟨h0, h1, h2, h3, h4, h5⟩ <;>
    (go_enter Try.func7, Try.ntmps7
     go_wp2
     go_ret2
     exact ⟨rfl, rfl⟩)
theorem rnew_bad (n m r : Int) (h : ¬ okNew n m r) (w : World) : Calls Try.prog 8 #[.int .i64 n, .int .i64 m, .int .i64 r] w (Ret (.tuple #[.pointer none, .int .i64 1]) w) := by
  rcases new_ways h with h | ⟨h0, h1⟩ | ⟨h0, h1, h2⟩ | ⟨h0, h1, h2, h3⟩ | ⟨h0, h1, h2, h3, h4⟩ | ⟨h0, h1, h2, h3, h4, h5⟩ <;>
    (go_enter Try.func8, Try.ntmps8
     go_wp2
     go_ret2
     exact ⟨rfl, rfl⟩)
/-- Some ends' clocks at nought. -/
def getP (a b : Nat) : Lit → Option Value
  | .int .i64 e => if (1 ≤ e ∧ e ≤ (a : Int)) ∨ (-(b : Int) ≤ e ∧ e ≤ -1) then some (iv 0) else none
  | _ => none
theorem getP_few {a b : Nat} (ha : a ≤ 16) (hb : b ≤ 16) (l : Lit) (v : Value) (h : getP a b l = some v) : ∃ e : Int, l = ekey e ∧ -16 ≤ e ∧ e ≤ 16 := by
  unfold getP at h
  split at h
  · rename_i e
    split at h
    · exact ⟨e, rfl, by omega, by omega⟩
    · cases h
  · cases h
theorem getP_none (l : Lit) : getP 0 0 l = none := by
  unfold getP
  split
  · rw [if_neg (by omega)]
  · rfl
theorem getP_upd {a b a' b' : Nat} {e : Int} (h : ∀ x : Int, ((1 ≤ x ∧ x ≤ (a' : Int)) ∨ (-(b' : Int) ≤ x ∧ x ≤ -1)) ↔ (x = e ∨ (1 ≤ x ∧ x ≤ (a : Int)) ∨ (-(b : Int) ≤ x ∧ x ≤ -1))) (l : Lit) :
    getP a' b' l = upd (getP a b) (ekey e) (some (iv 0)) l := by
  unfold upd
  by_cases hs : l.sameKey (ekey e) = true
  · obtain rfl := WideAt.sameKey_eq hs
    rw [if_pos hs]
    unfold getP
    simp only
    rw [if_pos ((h e).2 (.inl rfl))]
  · rw [if_neg hs]
    unfold getP
    split
    · rename_i e2
      have hne : e2 ≠ e := fun e => hs (by rw [e]; exact WideAt.sameKey_self trivial)
      by_cases h2 : (1 ≤ e2 ∧ e2 ≤ (a : Int)) ∨ (-(b : Int) ≤ e2 ∧ e2 ≤ -1)
      · rw [if_pos h2, if_pos ((h e2).2 (.inr h2))]
      · rw [if_neg h2, if_neg (fun h3 => ((h e2).1 h3).elim hne h2)]
    · rfl
theorem getP_all {N M : Nat} (r : Int) (l : Lit) : getT N M (begun N M r).t l = getP N M l := by
  unfold getT getP
  split
  · rename_i e
    by_cases h : 0 ≤ atF N M e
    · have h1 := atF_in h
      simp only
      rw [if_pos h, if_pos (by omega)]
      have : (begun N M r).t[(atF N M e).toNat]? = some 0 := by
        show (List.replicate (N + M) (0 : Int))[(atF N M e).toNat]? = some 0
        rw [List.getElem?_replicate, if_pos (by omega)]
      rw [this]; rfl
    · have h1 := atF_out (show atF N M e < 0 by omega)
      simp only
      rw [if_neg h, if_neg (by omega)]
  · rename_i h
    split
    · rename_i e; exact absurd rfl (h e)
    · rfl
/-- Gives new clocks. -/
def GivesNew (N M : Nat) (r : Int) (w : World) (e : Ending) (w' : World) : Prop := ∃ (g : Nat) (S : Nat → Prop), e = .returned (.tuple #[.pointer (some ⟨g, 0, none⟩), .int .i64 0]) ∧ ClkIs w' g (begun N M r) S ∧ (∀ b, S b → w.heap.size ≤ b) ∧ Below w.heap.size w w'
theorem below_turned {B b : Nat} {w w1 w2 : World} (h : Below B w w1) (ht : w1.mapTurned w2 b) (hb : B ≤ b) : Below B w w2 := by
  have h1 := turned_size ht
  have h2 : ∀ i, i ≠ b → w2.heap[i]? = w1.heap[i]? := fun i hi => turned_other ht hi
  obtain ⟨_, _, _, _, _, rfl⟩ := ht
  exact ⟨h.os, h.tape, h.output, by rw [h1]; exact h.size, fun i hi => (h2 i (by omega)).trans (h.block i hi)⟩
theorem born {N M B : Nat} {r : Int} {w w1 : World} (hok : okNew N M r) (hB : B = w.heap.size) (hb : Below B w w1) (hm : ∃ c, MapIs Try.prog tInt w1 B (getP N M) c) :
    GivesNew N M r w (.returned (.tuple #[.pointer (some ⟨w1.heap.size, 0, none⟩), .int .i64 0])) (w1.alloc (.cells #[.map (some B), .int .i64 0, .int .i64 r, .bool false] tClk)) := by
  obtain ⟨c, hm⟩ := hm
  have hz := hb.size
  have hl := hm.lt
  obtain ⟨h0, h1, h2, h3, h4, h5⟩ := hok
  subst hB
  refine ⟨w1.heap.size, fun x => w.heap.size ≤ x ∧ x < w1.heap.size + 1, rfl, ⟨w.heap.size, ⟨heap_alloc_new w1 _, ⟨c, (hm.same (fun l _ => getP_all r l)).keep (heap_alloc_old _ _ hl)⟩, ⟨hz, by omega⟩, ⟨Nat.le_refl _, by omega⟩, fun x hx => by rw [World.size_alloc]; exact hx.2, begun_ok (by omega) (by omega) (by omega) h4 h5⟩⟩, fun x hx => hx.1, hb.alloc hz _⟩
set_option maxHeartbeats 1600000 in
theorem new_good (N M : Nat) (r : Int) (h : okNew N M r) (w : World) : Calls Try.prog 7 #[.int .i64 (N : Int), .int .i64 (M : Int), .int .i64 r] w (GivesNew N M r w) := by
  have HOK := Lib.hid h
  obtain ⟨h0, h1, h2, h3, h4, h5⟩ := h
  have n0 : ¬ (N : Int) < 1 := by omega
  have n1 : ¬ (16 : Int) < N := by omega
  have n2 : ¬ (M : Int) < 0 := by omega
  have n3 : ¬ (16 : Int) < M := by omega
  have n4 : ¬ r < 0 := by omega
  have n5 : ¬ 500000 < r := by omega
  have hmm := @run_makeMap Try.prog
  obtain ⟨B, hB⟩ : ∃ B, B = w.heap.size := ⟨_, rfl⟩
  have HM0 : Hid (∃ c, MapIs Try.prog tInt (w.alloc (.map #[] 0)) B (getP 0 0) c) := Lib.hid ⟨0, by rw [hB]; exact (MapIs.made w Try.prog tInt).same (fun l _ => getP_none l)⟩
  have HB0 : Hid (Below B w (w.alloc (.map #[] 0))) := Lib.hid (by rw [hB]; exact (Below.refl _ _).alloc (Nat.le_refl _) _)
  go_enter Try.func7, Try.ntmps7
  go_wp2
  rw [← hB]
  have HBe := Lib.hid hB
  clear hB hmm
  go_loopw [35] (fun i wr => ∃ k : Nat, k ≤ N ∧ i = .int .i64 (k : Int) ∧ (∃ c, MapIs Try.prog tInt wr B (getP k 0) c) ∧ Below B w wr) (fun i _ => N - (intOf i).toNat)
  case atStart => exact ⟨0, by omega, rfl, HM0.out, HB0.out⟩
  case round =>
    clear HM0 HB0
    obtain ⟨k, hk, rfl, hm, hb⟩ := hrel
    obtain ⟨wo, hwo⟩ : ∃ wo, wo = wr := ⟨_, rfl⟩
    rw [← hwo] at hm hb ⊢
    clear hwo
    have HM := Lib.hid hm
    have HB := Lib.hid hb
    clear hm hb
    by_cases hk2 : k < N
    · have hki : (k : Int) < N := by omega
      obtain ⟨c, hm⟩ := HM.out
      have HM2 := Lib.hid hm
      have hc := Lib.hid (few hm (fun l v _ => getP_few (by omega) (by omega) l v))
      clear hm
      have HK := Lib.hid (key_fits (e := (k : Int) + 1) (by omega) (by omega))
      go_wp2_with (first
        | (at_mapUpdate; refine wpList_put rfl _ _ _ tMap rfl tInt tI64 keyI Try.underlying50 B c _ rfl HM2.out (by have := hc.out; unfold maxLen; omega) _ _ _ rfl rfl HK.out ?_; intro w5 hm5 ht5)
        | go_in)
      go_roundw
      case rel => exact ⟨k + 1, by omega, rfl, ⟨_, hm5.same (fun l _ => getP_upd (fun x => by omega) l)⟩, below_turned HB.out ht5 (Nat.le_refl _)⟩
      case measure => simp [intOf]; omega
    · have hki : ¬ (k : Int) < N := by omega
      obtain rfl : k = N := by omega
      go_wp2
      go_loopw [43] (fun i wr => ∃ j : Nat, j ≤ M ∧ i = .int .i64 (j : Int) ∧ (∃ c, MapIs Try.prog tInt wr B (getP k j) c) ∧ Below B w wr) (fun i _ => M - (intOf i).toNat)
      case atStart => exact ⟨0, by omega, rfl, HM.out, HB.out⟩
      case round =>
        clear HM HB
        obtain ⟨j, hj, rfl, hm, hb⟩ := hrel
        have HM := Lib.hid hm
        have HB := Lib.hid hb
        clear hm hb
        by_cases hj2 : j < M
        · have hji : (j : Int) < M := by omega
          obtain ⟨c, hm⟩ := HM.out
          have HM2 := Lib.hid hm
          have hc := Lib.hid (few hm (fun l v _ => getP_few (by omega) (by omega) l v))
          clear hm
          have HK := Lib.hid (key_fits (e := -(j : Int) - 1) (by omega) (by omega))
          go_wp2_with (first
            | (at_mapUpdate; refine wpList_put rfl _ _ _ tMap rfl tInt tI64 keyI Try.underlying50 B c _ rfl HM2.out (by have := hc.out; unfold maxLen; omega) _ _ _ rfl rfl HK.out ?_; intro w5 hm5 ht5)
            | go_in)
          go_roundw
          case rel => exact ⟨j + 1, by omega, rfl, ⟨_, hm5.same (fun l _ => getP_upd (fun x => by omega) l)⟩, below_turned HB.out ht5 (Nat.le_refl _)⟩
          case measure => simp [intOf]; omega
        · have hji : ¬ (j : Int) < M := by omega
          obtain rfl : j = M := by omega
          go_wp2
          go_ret2
          exact born HOK.out HBe.out HB.out HM.out
/-- Gives the reference's new clocks. -/
def GivesRef (N M : Nat) (r : Int) (w : World) (e : Ending) (w' : World) : Prop := ∃ (g : Nat) (S : Nat → Prop), e = .returned (.tuple #[.pointer (some ⟨g, 0, none⟩), .int .i64 0]) ∧ RefIs w' g (begun N M r) S ∧ (∀ b, S b → w.heap.size ≤ b) ∧ Below w.heap.size w w'
theorem i64Info : (Try.prog.info? tI64).map (fun i => (i.zero, i.size, i.bytes)) = some (some (.int .i64 0), 1, 8) := by kernel_rfl
theorem run_zeros (w : World) (n : Nat) (X : Int) (hX : X = n) (hn : n ≤ 1048576) : (Instr.makeSlice 53 (.int .i64 X) (.int .i64 X)).run Try.prog w = .ok (.slice (some ⟨w.heap.size, 0, none⟩) n n) (w.alloc (.cells (List.replicate n (.int .i64 0)).toArray tI64)) := by
  subst hX
  obtain ⟨i0, hi, hz0, hz1, hz2⟩ := info_parts i64Info
  have h := run_make w 53 tI64 i0 (.int .i64 0) Try.underlying53 hi hz0 .i64 .i64 (n : Int) (n : Int) (by omega) (Int.le_refl _) (by rw [hz2]; omega) (by omega)
  rw [h, hz1, Nat.mul_one, Int.toNat_natCast]
  have e : madeCells (Value.cells (.int .i64 0)) n = (List.replicate n (.int .i64 0)).toArray := by
    apply Array.ext'
    exact toList_madeCells_one _ n
  rw [e]
theorem rnew_good (N M : Nat) (r : Int) (h : okNew N M r) (w : World) : Calls Try.prog 8 #[.int .i64 (N : Int), .int .i64 (M : Int), .int .i64 r] w (GivesRef N M r w) := by
  obtain ⟨h0, h1, h2, h3, h4, h5⟩ := h
  have n0 : ¬ (N : Int) < 1 := by omega
  have n1 : ¬ (16 : Int) < N := by omega
  have n2 : ¬ (M : Int) < 0 := by omega
  have n3 : ¬ (16 : Int) < M := by omega
  have n4 : ¬ r < 0 := by omega
  have n5 : ¬ 500000 < r := by omega
  have hmk := run_zeros w (N + M) ((N : Int) + M) (by omega) (by omega)
  have hok := begun_ok (N := N) (M := M) (by omega) (by omega) (by omega) h4 h5
  have HG := Lib.hid (show GivesRef N M r w (.returned (.tuple #[.pointer (some ⟨w.heap.size + 1, 0, none⟩), .int .i64 0])) ((w.alloc (.cells (List.replicate (N + M) (.int .i64 0)).toArray tI64)).alloc (.cells #[.int .i64 (N : Int), .int .i64 (M : Int), .int .i64 r, .slice (some ⟨w.heap.size, 0, none⟩) (N + M) (N + M), .int .i64 0, .bool false] tRef)) from by
    refine ⟨w.heap.size + 1, fun x => w.heap.size ≤ x ∧ x < w.heap.size + 2, rfl, ⟨w.heap.size, ⟨?_, ?_, ⟨by omega, by omega⟩, ⟨by omega, by omega⟩, fun x hx => by simp; omega, hok⟩⟩, fun x hx => hx.1, ((Below.refl _ _).alloc (Nat.le_refl _) _).alloc (by simp) _⟩
    · have := heap_alloc_new (w.alloc (.cells (List.replicate (N + M) (.int .i64 0)).toArray tI64)) (.cells #[.int .i64 (N : Int), .int .i64 (M : Int), .int .i64 r, .slice (some ⟨w.heap.size, 0, none⟩) (N + M) (N + M), .int .i64 0, .bool false] tRef)
      rw [World.size_alloc] at this
      exact this
    · rw [heap_alloc_old _ _ (by simp), heap_alloc_new w _]
      show _ = some (Obj.cells ((List.replicate (N + M) (0 : Int)).map iv).toArray tI64 (0, 0))
      rw [List.map_replicate]; rfl)
  clear hok
  go_enter Try.func8, Try.ntmps8
  go_wp2
  go_ret2
  exact HG.out
end Go.Proofs.Ythpcmcnkiiebkaa.Ck
