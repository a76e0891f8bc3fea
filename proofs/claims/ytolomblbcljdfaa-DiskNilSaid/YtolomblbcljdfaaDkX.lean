/- Package disk's staying and tear, as contracts of calls. -/
import Derived.Test.YtolomblbcljdfaaDkW
import Derived.Laws.Bits64b
namespace Go.Proofs.Ytolomblbcljdfaa.Dk
open Go.RowKit Go.Maps By Mp

theorem staying_take {mask : Nat} : ∀ {l : List W1} {k i : Nat} (h : i < l.length), staying mask k (l.take (i + 1)) = staying mask k (l.take i) ++ (if stays mask (k + i) = true then [l[i]] else [])
  | [], _, _, h => by simp at h
  | x :: l, k, 0, _ => by
    simp only [List.take_succ_cons, List.take_zero, staying, Nat.add_zero, List.getElem_cons_zero, List.nil_append]
  | x :: l, k, i + 1, h => by
    simp only [List.take_succ_cons, staying, List.getElem_cons_succ]
    rw [staying_take (by simpa using h), show k + 1 + i = k + (i + 1) by omega]
    split <;> simp
theorem staying_le (mask : Nat) : ∀ (l : List W1) (k : Nat), (staying mask k l).length ≤ l.length
  | [], _ => Nat.le_refl _
  | x :: l, k => by
    simp only [staying]
    have := staying_le mask l (k + 1)
    split <;> simp <;> omega
theorem stays_bits (m k : Nat) (hm : m < 18446744073709551616) : (bits .and .u64 ((m : Int) / 2 ^ (k % 64)) 1 == 1) = stays m k := by
  have e1 : ((m : Int) / 2 ^ (k % 64)) = ((m / 2 ^ (k % 64) : Nat) : Int) := by
    rw [Int.natCast_ediv]; simp
  have h := bits_and_u64_nat (m / 2 ^ (k % 64)) 1 (Nat.lt_of_le_of_lt (Nat.div_le_self _ _) hm) (by omega)
  rw [e1, show (1 : Int) = ((1 : Nat) : Int) from rfl, h, Nat.and_one_is_mod]
  unfold stays
  rw [Bool.eq_iff_iff]
  simp
  omega
/-- Gives changes in a row of the call's own, their data where it was. -/
def GivesS (S : Nat → Prop) (l : List W1) (w : World) (e : Ending) (w' : World) : Prop := ∃ v, e = .returned v ∧ WsAt w' w.heap.size S v l ∧ Below w.heap.size w w'
set_option maxRecDepth 100000 in
set_option maxHeartbeats 2000000 in
theorem staying_any (v0 : Value) (base : Nat) (S : Nat → Prop) (l : List W1) (m : Nat) (hm64 : m < 18446744073709551616) (w : World) (h : WsAt w base S v0 l) (hS : ∀ b, S b → b < w.heap.size) (hl : l.length ≤ 68719476736) :
    Calls Try.prog 44 #[v0, .int .u64 (m : Int)] w (GivesS S (staying m 0 l) w) := by
  obtain ⟨A, c, rfl, hc, hm, hub⟩ := h.form
  unfold maxLen at hm
  have H := Lib.hid h
  have HS := Lib.hid hS
  clear h hS hub
  go_enter Try.func44, Try.ntmps44
  go_wp2
  go_loopw [5, 10] (fun v i wr => ∃ k : Nat, k ≤ l.length ∧ i = .int .i64 (k : Int) ∧ WsAt wr w.heap.size S v (staying m 0 (l.take k)) ∧ Below w.heap.size w wr) (fun _ i _ => l.length - (intOf i).toNat)
  case atStart => exact ⟨0, Nat.zero_le _, rfl, WsAt.nil _ _ _, Below.refl _ _⟩
  case round =>
    obtain ⟨k, hk, rfl, hw, hb⟩ := hrel
    have HW := Lib.hid hw
    have HB := Lib.hid hb
    clear hw hb
    by_cases hlt : k < l.length
    · obtain ⟨ub, cap, A1, c1, e0, _, hub, hd1, hd2, hx0, hx1, hx2, hx3⟩ := H.out.at_ hlt
      obtain ⟨x, hx⟩ : ∃ x, x = l[k] := ⟨_, rfl⟩
      rw [← hx] at hd1 hd2 hx0 hx1 hx2 hx3
      have HTK := Lib.hid (show staying m 0 (l.take (k + 1)) = staying m 0 (l.take k) ++ (if stays m k = true then [x] else []) by rw [staying_take hlt, hx, Nat.zero_add])
      simp only [Value.slice.injEq, true_and] at e0
      obtain ⟨rfl, rfl⟩ := e0
      have hc0 : wr.cell? ⟨ub, k * 4, none⟩ = some (.int .i64 (x.kind : Nat)) := (HB.out.cell hub).trans hx0
      have hc1 : wr.cell? ⟨ub, k * 4 + 1, none⟩ = some (.string (str x.name)) := (HB.out.cell hub).trans hx1
      have hc2 : wr.cell? ⟨ub, k * 4 + 2, none⟩ = some (.int .i64 (x.off : Nat)) := (HB.out.cell hub).trans hx2
      have hc3 : wr.cell? ⟨ub, k * 4 + 3, none⟩ = some (.slice A1 x.data.length c1) := (HB.out.cell hub).trans hx3
      have HD := Lib.hid hd2
      clear hx hx0 hx1 hx2 hx3 hd2
      obtain ⟨ac, hac, how, hda⟩ := HW.out
      have HOW := Lib.hid how
      have HDA := Lib.hid hda
      have HAC := Lib.hid hac
      clear how hda hac
      have hsb := stays_bits m k hm64
      cases hst : stays m k with
      | false =>
        rw [hst] at hsb
        rw [hst, if_neg (by simp), List.append_nil] at HTK
        clear hst
        go_wp2
        go_roundw
        case rel => exact ⟨k + 1, by omega, by go_num, by rw [HTK.out]; exact HW.out.keep (fun b hb => heap_alloc_old _ _ (ownsRow_lt HOW.out hb).2) (fun b hb => heap_alloc_old _ _ (Nat.lt_of_lt_of_le (HS.out b hb) HB.out.size)) (fun _ h => h), HB.out.alloc HB.out.size _⟩
        case measure => simp [intOf]; omega
      | true =>
        rw [hst] at hsb
        rw [hst, if_pos rfl] at HTK
        clear hst
        obtain ⟨i0, hi, hz0, hz1, hz2⟩ := info_parts wInfo
        have hwr : w.heap.size ≤ wr.heap.size := HB.out.size
        obtain ⟨w4, hw4⟩ : ∃ w4, w4 = wr.alloc (.cells #[.int .i64 (x.kind : Nat), .string (str x.name), .int .i64 (x.off : Nat), .slice A1 x.data.length c1] tWrite) := ⟨_, rfl⟩
        have hbx : w4.heap[wr.heap.size]? = some (.cells #[.int .i64 (x.kind : Nat), .string (str x.name), .int .i64 (x.off : Nat), .slice A1 x.data.length c1] tWrite (0, 0)) := by rw [hw4]; exact heap_alloc_new wr _
        have hb4 : Below wr.heap.size wr w4 := by rw [hw4]; exact (Below.refl _ _).alloc (Nat.le_refl _) _
        have hq0 : w4.cell? ⟨wr.heap.size, 0, none⟩ = some (.int .i64 (x.kind : Nat)) := by rw [cell_of_row w4 _ 0 _ _ _ hbx]; rfl
        have hq1 : w4.cell? ⟨wr.heap.size, 1, none⟩ = some (.string (str x.name)) := by rw [cell_of_row w4 _ 1 _ _ _ hbx]; rfl
        have hq2 : w4.cell? ⟨wr.heap.size, 2, none⟩ = some (.int .i64 (x.off : Nat)) := by rw [cell_of_row w4 _ 2 _ _ _ hbx]; rfl
        have hq3 : w4.cell? ⟨wr.heap.size, 3, none⟩ = some (.slice A1 x.data.length c1) := by rw [cell_of_row w4 _ 3 _ _ _ hbx]; rfl
        have hw4' : wr.heap.size ≤ w4.heap.size := hb4.size
        have HB4 := Lib.hid hb4
        have HW4 := Lib.hid hw4
        clear hbx hb4
        go_upto_region 6 with fail
        rw [← HW4.out]
        clear hw4 HW4
        have HOW4 := Lib.hid (show (w4.alloc (.cells (wCells x (A1, c1)).toArray tWrite)).ownsRow w.heap.size tWrite 4 u5 (staying m 0 (l.take k)).length (wRow (staying m 0 (l.take k)) ac) from (ownsRow_keep HOW.out (fun b hb => HB4.out.block b (ownsRow_lt HOW.out hb).2)).alloc _)
        have HNC := Lib.hid (show ∀ j u, (wCells x (A1, c1))[j]? = some u → (w4.alloc (.cells (wCells x (A1, c1)).toArray tWrite)).cell? ((⟨w4.heap.size, 0, none⟩ : Addr).add j) = some u by
          intro j u hu
          rw [plainAdd, Nat.zero_add, cell_of_row _ _ j _ _ _ (heap_alloc_new w4 _)]
          simpa using hu)
        have HN1 := Lib.hid (show ∀ u ∈ wCells x (A1, c1), u.oneCell' = true by
          intro u hu
          simp only [wCells, List.mem_cons, List.not_mem_nil, or_false] at hu
          rcases hu with rfl | rfl | rfl | rfl <;> rfl)
        have HKL := Lib.hid (show (staying m 0 (l.take k)).length ≤ k by have := staying_le m (l.take k) 0; rw [List.length_take] at this; omega)
        clear hsb
        go_wp2_with (at_builtin; refine wpList_append_own _ rfl (.tmp 21) (.tmp 23) tWrites rfl w.heap.size tWrite i0 _ 4 56 Try.underlying42 hi hz0 hz1 hz2 rfl (by decide) _ (staying m 0 (l.take k)).length (wRow (staying m 0 (l.take k)) ac) rfl HOW4.out ⟨w4.heap.size, 0, none⟩ 1 1 (wCells x (A1, c1)) rfl rfl HNC.out HN1.out (by have := HKL.out; unfold maxLen; omega) (by have := HKL.out; omega) (by simp; omega) ?_; intro v5 w5 ho5 hg5 _)
        have hbk : ∀ b, b < w4.heap.size → some b ≠ u5.ownBlock → w5.heap[b]? = w4.heap[b]? := fun b hb hne => (hg5.block b (by simp; omega) hne).trans (heap_alloc_old w4 _ hb)
        have hb5 : Below w.heap.size w w5 := (((HB.out.trans (HB4.out.mono hwr)).alloc (by omega) _).grown hg5 (by simp; omega) (fun k e => (ownsRow_lt HOW4.out e).1))
        have hSw : ∀ b, S b → w5.heap[b]? = wr.heap[b]? := fun b hb => (hb5.block b (HS.out b hb)).trans (HB.out.block b (HS.out b hb)).symm
        go_roundw
        case rel =>
          refine ⟨k + 1, by omega, by go_num, ?_, hb5⟩
          rw [HTK.out]
          exact WsAt.snoc (S := S) hSw (fun _ h => h) HAC.out HDA.out ho5 hd1 (HD.out.keep (fun b hb => hb5.block b (HS.out b hb)) (fun _ h => h))
        case measure => simp [intOf]; omega
    · have hke : k = l.length := by omega
      have HKE := Lib.hid hke
      clear hke
      go_wp2
      go_ret
      have h1 := HW.out
      rw [HKE.out, List.take_length] at h1
      exact ⟨_, rfl, h1, HB.out⟩
end Go.Proofs.Ytolomblbcljdfaa.Dk
