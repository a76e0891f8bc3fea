/- A file's bytes out of its pieces: what one round of the copying does; and package disk's bytes, as a contract of a call. -/
import Derived.Test.YtnjifhbooikdbaaGreatDoorEB
import Derived.StillTailTactics
import Derived.Outline
import Derived.Deep.DeepCutAuto
import Derived.Laws.OwnMore
import Derived.Laws.CopyOwn
import Derived.Laws.Rows
namespace Go.Proofs.YtnjifhbooikdbaaGreatDoor.Dk
open Go.RowKit Go.Maps By Mp

/-- The n bytes of which those pieces are there that are not left to come. -/
def outV (left : Lit → Bool) (f : Nat → UInt8) (n : Nat) : List Value := (List.range n).map fun j => bv (if left (pkey (j / 256)) = true then 0 else f j)
theorem outV_length (left : Lit → Bool) (f : Nat → UInt8) (n : Nat) : (outV left f n).length = n := by simp [outV]
theorem outV_get (left : Lit → Bool) (f : Nat → UInt8) (n j : Nat) : (outV left f n)[j]? = if j < n then some (bv (if left (pkey (j / 256)) = true then 0 else f j)) else none := by
  unfold outV
  by_cases h : j < n
  · rw [if_pos h]; simp [h]
  · rw [if_neg h, List.getElem?_eq_none (by simp; omega)]
theorem outV_start {get : Lit → Option Value} {f : Nat → UInt8} {L : Nat} (h : PcSays get f L) {left : Lit → Bool} (hl : ∀ l, WideAt.IsKeyLit l → left l = (get l).isSome) (n : Nat) : outV left f n = List.replicate n (.int .u8 0) := by
  apply List.ext_getElem?
  intro j
  rw [outV_get, List.getElem?_replicate]
  by_cases hj : j < n
  · rw [if_pos hj, if_pos hj, hl (pkey (j / 256)) (by simp [pkey, WideAt.IsKeyLit])]
    cases hg : get (pkey (j / 256)) with
    | some v => rw [if_pos (by rfl)]; rfl
    | none =>
      have h0 := h.2 _ hg (j % 256) (Nat.mod_lt _ (by omega))
      rw [Nat.div_add_mod] at h0
      rw [if_neg (by simp), h0]; rfl
  · rw [if_neg hj, if_neg hj]
theorem outV_step {f : Nat → UInt8} {left : Lit → Bool} {i n : Nat} (hi : 256 * i < n) :
    splice (outV left f n) (256 * i) ((pieceF f i).take (n - 256 * i)) = outV (fun z => left z && !z.sameKey (pkey i)) f n := by
  have hcl : ((pieceF f i).take (n - 256 * i)).length = min (n - 256 * i) 256 := by rw [List.length_take, pieceF_length]
  have htl : ((outV left f n).take (256 * i)).length = 256 * i := by rw [List.length_take, outV_length]; omega
  apply List.ext_getElem?
  intro j
  unfold splice
  rw [outV_get, hcl]
  by_cases h1 : j < 256 * i
  · rw [List.getElem?_append_left (by omega), List.getElem?_take_of_lt h1, outV_get, if_pos (show j < n by omega), if_pos (show j < n by omega)]
    simp only [pkey_same, decide_eq_false (show ¬ j / 256 = i by omega), Bool.not_false, Bool.and_true]
  · rw [List.getElem?_append_right (by omega), htl]
    by_cases h2 : j - 256 * i < min (n - 256 * i) 256
    · rw [List.getElem?_append_left (by omega), List.getElem?_take_of_lt (by omega), pieceF_get _ _ _ (by omega), if_pos (by omega), pkey_same, decide_eq_true (show j / 256 = i by omega)]
      rw [show 256 * i + (j - 256 * i) = j by omega]
      simp
    · rw [List.getElem?_append_right (by omega), List.getElem?_drop, outV_get, hcl, show 256 * i + min (n - 256 * i) 256 + (j - 256 * i - min (n - 256 * i) 256) = j by omega]
      by_cases h3 : j < n
      · rw [if_pos h3, if_pos h3, pkey_same, decide_eq_false (by omega)]
        simp
      · rw [if_neg h3, if_neg h3]
theorem outV_end {left : Lit → Bool} (h : ∀ l, left l = false) (b : Bs) : outV left (fun j => b.getD j 0) b.length = bvs b := by
  apply List.ext_getElem?
  intro j
  rw [outV_get]
  unfold bvs
  rw [List.getElem?_map]
  by_cases hj : j < b.length
  · rw [if_pos hj, h, List.getElem?_eq_getElem hj, if_neg (by simp)]
    simp [hj]
  · rw [if_neg hj, List.getElem?_eq_none (by omega)]; rfl
theorem zeros_nil {b : Bs} (h : ∀ j, b.getD j 0 = 0) : List.replicate b.length (.int .u8 0) = bvs b := by
  apply List.ext_getElem?
  intro j
  rw [List.getElem?_replicate]
  unfold bvs
  rw [List.getElem?_map]
  by_cases hj : j < b.length
  · have := h j
    rw [List.getD_eq_getElem?_getD, List.getElem?_eq_getElem hj] at this
    rw [if_pos hj, List.getElem?_eq_getElem hj]
    simp at this
    simp [this, bv]
  · rw [if_neg hj, List.getElem?_eq_none (by omega)]; rfl
/-- copy into a row of the call's own, the new row by name. -/
theorem wpList_copy_named {P : Program} {w : World} {ops : Array Oper} {rest : List Oper} {o : Oper} {a : Act} {Q : Exit → Act → World → Prop} (hgd : o.guard = none) (d s : Operand) (dT sT : TypeId)
    (ho : o.op = .call { callee := .builtin .copy, args := #[d, s], argTypes := #[dT, sT] }) (elem : TypeId) (hu : P.underlying dT = some (.slice elem)) (hsz : (P.info? elem).map (·.size) = some 1)
    (g off dLen dCap : Nat) (ad : Addr) (sLen sCap : Nat) (hd : a.eval d = .slice (some ⟨g, off, none⟩) dLen dCap) (hs : a.eval s = .slice (some ad) sLen sCap)
    (cur : Array Value) (t : TypeId) (hg : w.heap[g]? = some (.cells cur t (0, 0))) (cs : List Value) (hn : cs.length = Nat.min sLen dLen)
    (hsrc : ∀ j v, cs[j]? = some v → w.cell? (ad.add j) = some v) (hfit : off + cs.length ≤ cur.size) (h1 : ∀ v ∈ cs, v.oneCell' = true) (m : Int) (hm : (cs.length : Int) = m)
    (new : Array Value) (hnew : splice cur.toList off cs = new.toList) (h : wpList P ops Q rest (a.put o.dst (.int .i64 m)) (w.setRow g new)) : wpList P ops Q (o :: rest) a w := by
  refine wpList_copy_own hgd d s dT sT ho elem hu hsz g off dLen dCap ad sLen sCap hd hs cur t hg cs hn hsrc hfit h1 ?_
  have e : (cur.toList.take off ++ (cs ++ cur.toList.drop (off + cs.length))).toArray = new := by
    apply Array.ext'
    exact hnew
  rw [e]
  subst hm
  exact h
theorem u8size : (Tryz.prog.info? 5).map (·.size) = some 1 := by kernel_rfl
theorem zc_size : Tryz.zeroCells123.size = 256 := by kernel_rfl
theorem arr_piece : Tryz.prog.arrayLen tPiece = 256 := by kernel_rfl
theorem run_zeros (w : World) (n : Nat) (N : Int) (hN : N = n) (hn : n ≤ 140737488355328) : (Instr.makeSlice 32 (.int .i64 N) (.int .i64 N)).run Tryz.prog w = .ok (.slice (some ⟨w.heap.size, 0, none⟩) n n) (w.alloc (.cells (List.replicate n (.int .u8 0)).toArray 5)) := by
  subst hN
  obtain ⟨i0, hi, hz0, hz1, hz2⟩ := info_parts u8Info
  have h := run_make w 32 5 i0 (.int .u8 0) Tryz.underlying32 hi hz0 .i64 .i64 (n : Int) (n : Int) (by omega) (Int.le_refl _) (by rw [hz2]; omega) (by omega)
  rw [h, hz1, Nat.mul_one, Int.toNat_natCast]
  have e : madeCells (Value.cells (.int .u8 0)) n = (List.replicate n (.int .u8 0)).toArray := by
    apply Array.ext'
    exact toList_madeCells_one _ n
  rw [e]
set_option maxRecDepth 100000 in
set_option maxHeartbeats 1000000 in
theorem fbytes_some (X q : Nat) (b : Bs) (w : World) (hx : w.heap[X]? = some (.cells #[.int .i64 (b.length : Nat), .map (some q)] tFile (0, 0))) (hb : b.length ≤ 4194304) (hf : FileAt w (some q) b) :
    Calls Tryz.prog 55 #[.pointer (some ⟨X, 0, none⟩)] w (Gives b w) := by
  obtain ⟨get, cnt, hmap, hsay⟩ := hf
  obtain ⟨f, hfd⟩ : ∃ f : Nat → UInt8, f = fun j => b.getD j 0 := ⟨_, rfl⟩
  rw [← hfd] at hsay
  have HF := Lib.hid hfd
  clear hfd
  have hc0 : w.cell? ⟨X, 0, none⟩ = some (.int .i64 (b.length : Nat)) := by rw [cell_of_row w X 0 _ _ _ hx]; rfl
  have hlx := row_lt hx
  have hlq := hmap.lt
  have hmk := run_zeros w b.length _ rfl (by omega)
  obtain ⟨w1, hw1⟩ : ∃ w1, w1 = w.alloc (.cells (List.replicate b.length (.int .u8 0)).toArray 5) := ⟨_, rfl⟩
  rw [← hw1] at hmk
  have hz1 : w1.heap.size = w.heap.size + 1 := by rw [hw1]; simp
  have hx1 : w1.heap[X]? = some (.cells #[.int .i64 (b.length : Nat), .map (some q)] tFile (0, 0)) := by rw [hw1, heap_alloc_old _ _ hlx]; exact hx
  have hc1 : w1.cell? ⟨X, 1, none⟩ = some (.map (some q)) := by rw [cell_of_row _ X 1 _ _ _ hx1]; rfl
  have hm1 : MapIs Tryz.prog tInt w1 q get cnt := hmap.keep (by rw [hw1, heap_alloc_old _ _ hlq])
  have hr1 : w1.heap[w.heap.size]? = some (.cells (List.replicate b.length (.int .u8 0)).toArray 5 (0, 0)) := by rw [hw1]; exact heap_alloc_new w _
  have hb1 : Below w.heap.size w w1 := by rw [hw1]; exact (Below.refl _ _).alloc (Nat.le_refl _) _
  have HS := Lib.hid hsay
  have HM := Lib.hid hm1
  have HR := Lib.hid hr1
  have HB := Lib.hid hb1
  have HZ := Lib.hid hz1
  clear hsay hx hx1 hmap hm1 hw1 hr1 hb1 hz1
  go_enter Tryz.func55, Tryz.ntmps55
  go_wp2_with (first
    | (at_range; refine wpList_range rfl _ tPM rfl tInt tPiece keyI Tryz.underlying97 q cnt get rfl HM.out ?_; intro w2 left lc hrg hl hg2 hs2)
    | go_in)
  go_frame
  have hinv : ∀ key kl v, keyOf Tryz.prog tInt key = some kl → get kl = some v → ∃ (x : Nat) (c : Array Value), key = Value.int .i64 (x : Int) ∧ v = Value.agg c := by
    intro key kl v hk hg
    obtain ⟨x, rfl, rfl, _⟩ := Maps.keyOf_int_inv Tryz.underlying3 hk
    obtain ⟨i, he, _, rfl⟩ := HS.out.1 _ v (by simp [WideAt.IsKeyLit]) hg
    injection he with _ he
    exact ⟨i, _, by rw [he], rfl⟩
  have HINV := Lib.hid hinv
  have hrow2 : w2.heap[w.heap.size]? = some (.cells (outV left f b.length).toArray 5 (0, 0)) := by
    rw [outV_start HS.out hl, hg2.block _ (row_lt HR.out) (by simp)]; exact HR.out
  have hbw2 : Below w.heap.size w w2 := HB.out.grown hg2 HB.out.size (by simp)
  have HRG := Lib.hid hrg
  have HR2 := Lib.hid hrow2
  have HB2 := Lib.hid hbw2
  clear hinv hrow2 hbw2 hrg hl hg2 hs2 HR HB HM hmk
  go_loopw [4] (fun _ wr => ∃ (left : Lit → Bool) (lc : Nat), RangeIs Tryz.prog tInt wr q w1.heap.size get cnt left lc ∧ wr.heap[w.heap.size]? = some (.cells (outV left f b.length).toArray 5 (0, 0)) ∧ Below w.heap.size w wr)
    (fun _ wr => wr.rangeLeft q w1.heap.size)
  case atStart => exact ⟨left, lc, HRG.out, HR2.out, HB2.out⟩
  case round =>
    obtain ⟨left, lc, hrg, hrow, hbw⟩ := hrel
    have HG := Lib.hid hrg
    have HW := Lib.hid hrow
    have HBW := Lib.hid hbw
    clear hrg hrow hbw
    go_wp2_with (first
      | (at_next; refine wpList_next rfl _ rfl tInt keyI (fun i : Nat => Value.int .i64 (i : Int)) Value.agg q w1.heap.size cnt get _ _ rfl HG.out HINV.out ?_ ?_)
      | go_in)
    · intro hl0
      go_wp2
      go_ret
      refine ⟨_, rfl, ⟨by rw [bvs_length, Nat.mul_one], .inr ⟨w.heap.size, b.length, _, rfl, Nat.le_refl _, HW.out, Nat.le_refl _, by unfold maxLen; omega, by rw [List.size_toArray, outV_length, Nat.mul_one], ?_⟩⟩, HBW.out⟩
      rw [HF.out, outV_end hl0, Nat.mul_one, List.take_of_length_le (by rw [bvs_length]; exact Nat.le_refl _)]
    · intro i c kl w3 lc3 hkey hlk hget hrg3 hlt hgr hsz hen
      obtain ⟨i', hkl, hin, hcv⟩ := HS.out.1 _ _ (keyI.key hkey) hget
      have hii : i = i' := by
        obtain ⟨x, e1, e2, _⟩ := Maps.keyOf_int_inv Tryz.underlying3 hkey
        rw [hkl] at e2
        injection e1 with _ e1
        injection e2 with _ e2
        omega
      subst hii
      injection hcv with hcv
      have HKL := Lib.hid hkl
      have HCV := Lib.hid hcv
      have HIN := Lib.hid hin
      have HG3 := Lib.hid hrg3
      have HGR := Lib.hid hgr
      have HLT := Lib.hid hlt
      have HSZ := Lib.hid hsz
      have HLK := Lib.hid hlk
      clear hkl hcv hin hrg3 hgr hlt hsz hlk hkey hget
      have hcs : c.size = 256 := by rw [HCV.out]; simp [pieceF_length]
      have HI := Lib.hid (show (Tryz.prog.info? tPiece).map (·.size) = some c.size by rw [hcs]; exact info_piece)
      have HO := Lib.hid (show Tryz.zeroCells123.size = c.size by rw [hcs]; exact zc_size)
      have H1 := Lib.hid (show c.all (·.oneCell') = true by rw [HCV.out]; exact pieceF_one _ _)
      have HC4 := Lib.hid (show ((w3.alloc (.cells Tryz.zeroCells123 tPiece)).setRow w3.heap.size c).heap[w3.heap.size]? = some (.cells c tPiece (0, 0)) from setRow_heap _ _ _ _ _ _ (heap_alloc_new w3 _))
      have hoth : ∀ k, k < w3.heap.size → ((w3.alloc (.cells Tryz.zeroCells123 tPiece)).setRow w3.heap.size c).heap[k]? = w3.heap[k]? := fun k hk => (setRow_other _ _ k _ (by omega)).trans (heap_alloc_old _ _ hk)
      have hiter := HG3.out.lt
      have hz1 := HZ.out
      have HR3 := Lib.hid ((HGR.out.block _ (row_lt HW.out) (fun e => by have := Option.some.inj e; omega)).trans HW.out)
      have HR4 := Lib.hid ((hoth _ (by omega)).trans HR3.out)
      have HG4 := Lib.hid (HG3.out.kept (hoth q (by omega)) (hoth _ hiter))
      have HB3 := Lib.hid (HBW.out.grown HGR.out HBW.out.size (fun k e => by have := Option.some.inj e; omega))
      have HB4 := Lib.hid (show Below w.heap.size w ((w3.alloc (.cells Tryz.zeroCells123 tPiece)).setRow w3.heap.size c) from below_setRow (HB3.out.alloc HB3.out.size _) HB3.out.size _)
      have hz3 := HB3.out.size
      obtain ⟨g3, hg3⟩ : ∃ g3, g3 = w3.heap.size := ⟨_, rfl⟩
      have HG3e := Lib.hid hg3
      have hne3 : g3 ≠ w.heap.size := by omega
      have HNE := Lib.hid hne3
      have hq3 : q < g3 := by omega
      clear hcs hoth hz3 hz1 HR3 hg3 hiter hne3
      go_wp2_with (with_reducible refine wpList_store_row rfl tPiece (.tmp 5) (.tmp 20) rfl w3.heap.size c rfl rfl tPiece _ (heap_alloc_new w3 _) HI.out HO.out H1.out ?_)
      generalize (w3.alloc (.cells Tryz.zeroCells123 tPiece)).setRow w3.heap.size c = w4 at *
      rw [← HG3e.out] at *
      have hs1 : ∀ w', (Instr.slice 32 (.slice (some ⟨w.heap.size, 0, none⟩) b.length b.length) (some (.int .i64 ((i : Int) * 256))) none none).run Tryz.prog w' = .ok (.slice (some ⟨w.heap.size, 256 * i, none⟩) (b.length - 256 * i) (b.length - 256 * i)) w' := by
        intro w'
        have := run_from w' (some ⟨w.heap.size, 0, none⟩) b.length b.length (256 * i) (by have := HIN.out; omega)
        rw [cutA_some (by exact HIN.out), show ((256 * i : Nat) : Int) = (i : Int) * 256 by omega, Nat.zero_add] at this
        exact this
      have hwr : IntKind.i64.wrap ((i : Int) * 256) = (i : Int) * 256 := IntWalk.i64_in _ (by have := HIN.out; omega)
      go_still_tail 5, (by kernel_rfl)
      change wpList _ _ _ _ _ w4.drew
      have HR5 := Lib.hid (show w4.drew.heap[w.heap.size]? = _ from HR4.out)
      have HC5 := Lib.hid (show w4.drew.heap[g3]? = _ from HC4.out)
      have HG5 := Lib.hid (show RangeIs Tryz.prog tInt w4.drew q w1.heap.size get cnt _ lc3 from HG4.out.kept rfl rfl)
      have HB5 := Lib.hid (HB4.out.drew)
      have HL0 := Lib.hid HG.out.left_eq
      clear HR4 HC4 HG4 HB4 HG3 HGR HBW HW HI HO H1 HG
      generalize w4.drew = w5 at *
      obtain ⟨CS, hCS⟩ : ∃ CS, CS = (pieceF f i).take (b.length - 256 * i) := ⟨_, rfl⟩
      obtain ⟨NR, hNR⟩ : ∃ NR, NR = (outV (fun z => left z && !z.sameKey (pkey i)) f b.length).toArray := ⟨_, rfl⟩
      obtain ⟨OR, hOR⟩ : ∃ OR, OR = (outV left f b.length).toArray := ⟨_, rfl⟩
      have hspl : splice OR.toList (256 * i) CS = NR.toList := by rw [hOR, hCS, hNR]; exact outV_step HIN.out
      have hcl : CS.length = Nat.min 256 (b.length - 256 * i) := by rw [hCS, List.length_take, pieceF_length]; show min _ _ = min _ _; omega
      have hcell : ∀ j v, CS[j]? = some v → w5.cell? ((⟨g3, 0, none⟩ : Addr).add j) = some v := by
        intro j v hv
        rw [plainAdd, Nat.zero_add]
        have h1 := cell_of_row w5 g3 j _ _ _ HC5.out
        rw [h1, HCV.out]
        rw [hCS, List.getElem?_take] at hv
        split at hv
        · simpa using hv
        · cases hv
      have hone : ∀ v ∈ CS, v.oneCell' = true := by
        intro v hv
        rw [hCS] at hv
        have := List.mem_of_mem_take hv
        simp only [pieceF, List.mem_map] at this
        obtain ⟨_, _, rfl⟩ := this
        rfl
      have hfit : 256 * i + CS.length ≤ OR.size := by rw [hcl, hOR, List.size_toArray, outV_length]; have := HIN.out; show _ + min _ _ ≤ _; omega
      have HR6 := Lib.hid (show w5.heap[w.heap.size]? = some (.cells OR 5 (0, 0)) by rw [hOR]; exact HR5.out)
      have HCELL := Lib.hid hcell
      have HONE := Lib.hid hone
      have HFIT := Lib.hid hfit
      have HCL := Lib.hid hcl
      have HSPL := Lib.hid hspl
      have HNR := Lib.hid hNR
      clear hcell hone hfit hcl hs1 hwr hspl hNR hOR hCS HR5
      go_wp2_with (with_reducible refine wpList_copy_named rfl (.tmp 24) (.tmp 25) 32 32 rfl 5 Tryz.underlying32 u8size w.heap.size (256 * i) (b.length - 256 * i) (b.length - 256 * i) ⟨g3, 0, none⟩ 256 256 rfl rfl OR 5 HR6.out CS HCL.out HCELL.out HFIT.out HONE.out _ rfl NR HSPL.out ?_; go_frame)
      go_roundw
      case rel =>
        refine ⟨_, lc3, HG5.out.kept (setRow_other _ _ _ _ (by omega)) (setRow_other _ _ _ _ (by have := HZ.out; omega)), ?_, below_setRow HB5.out (Nat.le_refl _) _⟩
        rw [setRow_heap _ _ _ _ _ _ HR6.out, HNR.out, HKL.out]
      case measure =>
        rw [(HG5.out.kept (setRow_other _ _ _ _ (by omega)) (setRow_other _ _ _ _ (by have := HZ.out; omega))).left_eq, HL0.out]
        exact HLT.out
set_option maxRecDepth 100000 in
set_option maxHeartbeats 1000000 in
theorem fbytes_none (X : Nat) (b : Bs) (w : World) (hx : w.heap[X]? = some (.cells #[.int .i64 (b.length : Nat), .map none] tFile (0, 0))) (hb : b.length ≤ 4194304) (hf : FileAt w none b) :
    Calls Tryz.prog 55 #[.pointer (some ⟨X, 0, none⟩)] w (Gives b w) := by
  have hc0 : w.cell? ⟨X, 0, none⟩ = some (.int .i64 (b.length : Nat)) := by rw [cell_of_row w X 0 _ _ _ hx]; rfl
  have hlx := row_lt hx
  have hmk := run_zeros w b.length _ rfl (by omega)
  obtain ⟨w1, hw1⟩ : ∃ w1, w1 = w.alloc (.cells (List.replicate b.length (.int .u8 0)).toArray 5) := ⟨_, rfl⟩
  rw [← hw1] at hmk
  have hx1 : w1.heap[X]? = some (.cells #[.int .i64 (b.length : Nat), .map none] tFile (0, 0)) := by rw [hw1, heap_alloc_old _ _ hlx]; exact hx
  have hc1 : w1.cell? ⟨X, 1, none⟩ = some (.map none) := by rw [cell_of_row _ X 1 _ _ _ hx1]; rfl
  have hr1 : w1.heap[w.heap.size]? = some (.cells (List.replicate b.length (.int .u8 0)).toArray 5 (0, 0)) := by rw [hw1]; exact heap_alloc_new w _
  have hb1 : Below w.heap.size w w1 := by rw [hw1]; exact (Below.refl _ _).alloc (Nat.le_refl _) _
  have hfin : Gives b w (.returned (.slice (some ⟨w.heap.size, 0, none⟩) b.length b.length)) (w1.alloc (.mapIter none 0 #[] 0)) := by
    refine ⟨_, rfl, ⟨by rw [bvs_length, Nat.mul_one], .inr ⟨w.heap.size, b.length, _, rfl, Nat.le_refl _, (heap_alloc_old _ _ (row_lt hr1)).trans hr1, Nat.le_refl _, by unfold maxLen; omega, by rw [List.size_toArray, List.length_replicate, Nat.mul_one], ?_⟩⟩, hb1.alloc hb1.size _⟩
    rw [zeros_nil hf, Nat.mul_one, List.take_of_length_le (by rw [bvs_length]; exact Nat.le_refl _)]
  have HFIN := Lib.hid hfin
  have hrg := run_range_nilMap (P := Tryz.prog) w1 tPM tInt tPiece Tryz.underlying97
  have hnx : ∀ ty, (Instr.next (.pointer (some ⟨w1.heap.size, 0, none⟩)) false ty).run Tryz.prog (w1.alloc (.mapIter none 0 #[] 0)) = _ := fun ty => run_next_nilMap w1 ty 0 0 #[]
  clear hx hx1 hw1 hr1 hb1 hf hfin
  go_enter Tryz.func55, Tryz.ntmps55
  go_wp2
  refine wp_loop_rounds 1 ?_
  rw [rounds_succ]
  go_wp2
  go_ret
  exact HFIN.out
/-- A file's bytes, as a list of the call's own. -/
theorem fbytes_any (X : Nat) (mb : Option Nat) (b : Bs) (w : World) (hx : w.heap[X]? = some (.cells #[.int .i64 (b.length : Nat), .map mb] tFile (0, 0))) (hb : b.length ≤ 4194304) (hf : FileAt w mb b) :
    Calls Tryz.prog 55 #[.pointer (some ⟨X, 0, none⟩)] w (Gives b w) := by
  cases mb with
  | none => exact fbytes_none X b w hx hb hf
  | some q => exact fbytes_some X q b w hx hb hf
end Go.Proofs.YtnjifhbooikdbaaGreatDoor.Dk
