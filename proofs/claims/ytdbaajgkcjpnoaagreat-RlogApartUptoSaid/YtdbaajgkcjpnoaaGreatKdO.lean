/- Arguments as values of a kind: whatever reads as data of a type is a value of its kind, in cells that were there; its bytes are few. Nothing here speaks of one law. -/
import Derived.Test.YtdbaajgkcjpnoaaGreatGC
import Derived.Test.YtdbaajgkcjpnoaaGreatGD
import Derived.Deep.Slices
namespace Go.Proofs.YtdbaajgkcjpnoaaGreat.Kd
open Go.ChangeShapes Go.WideShapes Go.ChangeAt Go.RowKit Go.Deep By CoP Co Mo

/-- What reads as data of type t is a value of kind k. -/
def Opens (H : Type) (enc : TypeId × Value → H) (W : World) (k : Kd) (t : TypeId) : Prop := ∀ (fuel : Nat) (cs : List Value) (x : DataW H × List MemPlace), DataW.trod enc Tryz.prog W 0 (fun _ => true) true fuel t cs = some x →
  (∀ q ∈ x.2, q.block < W.heap.size) → Rows.uptoBulk x.1 ≤ 1048576 → ∃ d, k.rep W (Old W) cs d ∧ (k.put d).length ≤ 9 * Rows.uptoBulk x.1
section
variable {H : Type} {enc : TypeId × Value → H} {W : World}
theorem opens_num {t : TypeId} (ht : Tryz.prog.underlying t = some (.int .u64)) (lo hi : Int) : Opens H enc W (numK lo hi) t := by
  intro fuel cs x h _ _
  obtain ⟨n, rfl, rfl, hw⟩ := DataW.trod_int ht h
  have hb := Opn.wf_u64 hw
  obtain ⟨m, rfl⟩ := Int.eq_ofNat_of_zero_le hb.1
  have hm : m < 18446744073709551616 := by omega
  refine ⟨_, ⟨m, hm, rfl, rfl⟩, ?_⟩
  have := putNum_len m hm
  simpa [numK, Rows.uptoBulk] using this
theorem opens_int {t : TypeId} (ht : Tryz.prog.underlying t = some (.int .i64)) (lo hi : Int) : Opens H enc W (intK lo hi) t := by
  intro fuel cs x h _ _
  obtain ⟨n, rfl, rfl, hw⟩ := DataW.trod_int ht h
  have hb := Opn.wf_i64 hw
  refine ⟨_, ⟨n, hb.1, hb.2, rfl, rfl⟩, ?_⟩
  have := putNum_len (u64N n) (u64N_lt n)
  simpa [intK, Rows.uptoBulk] using this
theorem opens_flag {t : TypeId} (ht : Tryz.prog.underlying t = some .bool) : Opens H enc W flagK t := by
  intro fuel cs x h _ _
  obtain ⟨b, rfl, rfl⟩ := DataW.trod_bool ht h
  refine ⟨_, ⟨b, rfl, rfl⟩, ?_⟩
  have := putNum_len (flagN b) (by cases b <;> decide)
  simpa [flagK, Rows.uptoBulk] using this
theorem opens_text {t : TypeId} (ht : Tryz.prog.underlying t = some .string) (most : Int) : Opens H enc W (textK most) t := by
  intro fuel cs x h _ hb
  obtain ⟨s, rfl, rfl, hs⟩ := DataW.trod_string ht h
  simp only [Rows.uptoBulk] at hb ⊢
  have e : str s.data.toList = s := by cases s; simp [str]
  have hl : s.data.toList.length ≤ 140737488355328 := by omega
  refine ⟨.lit (.string s.data.toList), ⟨s.data.toList, by rw [e], rfl, hl⟩, ?_⟩
  have := putBytes_length s.data.toList hl
  simp only [textK]
  omega
theorem opens_bytes {t : TypeId} (ht : Tryz.prog.underlying t = some (.slice 5)) (most : Int) : Opens H enc W (bytesK most) t := by
  intro fuel cs x h hlt hbk
  rcases open_ints ht Tryz.underlying5 Opn.cellsU8 h with ⟨rfl, rfl⟩ | ⟨a, len, cap, zs, rfl, _, hl, _, hz, hx, hcell, hwz⟩
  · refine ⟨.lit (.string []), ⟨none, 0, [], rfl, rfl, Nat.le_refl _, by simp, fun h => absurd h (by simp)⟩, ?_⟩
    have := putBytes_length [] (by simp)
    simpa [bytesK, Rows.uptoBulk] using this
  · subst hx
    dsimp only at hbk ⊢
    simp only [if_true] at hz
    have hbl := Bulk.len_le (H := H) (lits .u8 (zs.take len)) (lits .u8 (zs.drop len))
    have hlen : (zs.take len).length = len := by rw [List.length_take]; omega
    have hll : (lits (H := H) .u8 (zs.take len)).length = len := by rw [lits, List.length_map, hlen]
    have hlm : ((zs.take len).map fun z => UInt8.ofNat z.toNat).length = len := by rw [List.length_map, hlen]
    refine ⟨.lit (.string ((zs.take len).map fun z => UInt8.ofNat z.toNat)), ⟨some a, cap, _, by rw [hlm], rfl, by omega, by omega, fun hn => ?_⟩, ?_⟩
    · rw [hlm] at hn
      have h0 : 0 < zs.length := by omega
      obtain ⟨b, off, spot⟩ := a
      have hspot : spot = none := by simpa [Addr.add] using World.cell?_spot (hcell 0 h0)
      subst hspot
      refine ⟨b, off, rfl, hlt (.cell b off) (MemPlace.mem_row.2 ⟨0, h0, by simp⟩), fun j x hj => ?_⟩
      simp only [List.getElem?_map, Option.map_eq_some_iff] at hj
      obtain ⟨z, hz1, rfl⟩ := hj
      have hjl : j < len := by
        have := (List.getElem?_eq_some_iff.1 hz1).1
        omega
      rw [List.getElem?_take, if_pos hjl] at hz1
      have hc := hcell j (by omega)
      rw [plainAdd] at hc
      rw [hc]
      have hmem : z ∈ zs := List.mem_of_getElem? hz1
      have hw := Opn.wf_u8 (hwz z hmem)
      have e : zs.getD j 0 = z := by simp [List.getD, hz1]
      rw [e, bv]
      simp
      omega
    · have hp := putBytes_length ((zs.take len).map fun z => UInt8.ofNat z.toNat) (by omega)
      rw [hlm] at hp
      have h1 : 1 + len ≤ Rows.uptoBulk (DataW.slice (lits (H := H) .u8 (zs.take len)) (lits .u8 (zs.drop len))) := by
        have := Bulk.count (H := H) (lits .u8 (zs.take len))
        simp only [Rows.uptoBulk]
        omega
      simp only [bytesK]
      omega
theorem bulk_snoc (l : List (DataW H)) (x : DataW H) : Rows.uptoBulkAll (l ++ [x]) = Rows.uptoBulkAll l + Rows.uptoBulk x := by
  induction l with
  | nil => simp [Rows.uptoBulkAll]
  | cons y r ih => simp only [List.cons_append, Rows.uptoBulkAll, ih]; omega
theorem gather {k : Kd} {D : Nat → DataW H} {Q : Nat → Data → Prop} : ∀ (n : Nat), (∀ i, i < n → ∃ d, Q i d ∧ (k.put d).length ≤ 9 * Rows.uptoBulk (D i)) →
    ∃ ds : List Data, ds.length = n ∧ (∀ i d, ds[i]? = some d → Q i d) ∧ (ds.flatMap k.put).length ≤ 9 * Rows.uptoBulkAll ((List.range n).map D) := by
  intro n
  induction n with
  | zero => intro _; exact ⟨[], rfl, fun i d h => by simp at h, by simp⟩
  | succ n ih =>
    intro h
    obtain ⟨ds, h1, h2, h3⟩ := ih (fun i hi => h i (by omega))
    obtain ⟨d, h4, h5⟩ := h n (Nat.lt_succ_self n)
    refine ⟨ds ++ [d], by simp [h1], fun i d' hd => ?_, ?_⟩
    · rcases Nat.lt_or_ge i ds.length with hi | hi
      · rw [List.getElem?_append_left hi] at hd
        exact h2 i d' hd
      · rw [List.getElem?_append_right hi] at hd
        have h6 : i - ds.length = 0 := by
          have := (List.getElem?_eq_some_iff.1 hd).1
          simp at this
          omega
        rw [h6] at hd
        have hi2 : i = n := by omega
        subst hi2
        have : d = d' := by simpa using hd
        subst this
        exact h4
    · rw [List.range_succ, List.map_append, List.map_cons, List.map_nil, bulk_snoc, List.flatMap_append, List.length_append]
      simp only [List.flatMap_cons, List.flatMap_nil, List.append_nil]
      omega
theorem opens_list {k : Kd} {t e : TypeId} (ht : Tryz.prog.underlying t = some (.slice e)) (hC : Tryz.prog.cellsOf e = k.size) (h1 : 0 < k.size) (hk : Opens H enc W k e) (most : Int) : Opens H enc W (listK k most) t := by
  intro fuel cs x h hlt hbk
  rcases open_slice ht h with ⟨rfl, rfl⟩ | ⟨a, len, cap, m, n, D, Pl, rfl, _, hl, _, hmm, rfl, hi⟩
  · refine ⟨.agg [], ⟨none, 0, [], rfl, rfl, Nat.le_refl _, by simp, fun h => absurd h (by simp)⟩, ?_⟩
    have := putNum_len 0 (by omega)
    simpa [listK, Rows.uptoBulk] using this
  · simp only [if_true] at hmm
    subst hmm
    dsimp only at hbk ⊢
    have hbs : Rows.uptoBulkAll ((List.range len).map D) + 1 ≤ Rows.uptoBulk (DataW.slice ((List.range len).map D) ((List.range (m - len)).map fun j => D (len + j))) := by
      simp only [Rows.uptoBulk]
      omega
    have hcnt := Bulk.count (H := H) ((List.range len).map D)
    rw [List.length_map, List.length_range] at hcnt
    obtain ⟨b, off, spot⟩ := a
    by_cases h0 : len = 0
    · subst h0
      refine ⟨.agg [], ⟨_, m, [], rfl, rfl, Nat.zero_le _, by simp, fun h => absurd h (by simp)⟩, ?_⟩
      have := putNum_len 0 (by omega)
      simp only [listK, List.flatMap_nil, List.append_nil, List.length_nil]
      omega
    · have hspot : spot = none := by
        obtain ⟨cs', hc, _⟩ := hi 0 (by omega)
        obtain ⟨_, hcl, hat⟩ := World.cells?_some hc
        rw [hC] at hat hcl
        have hx := hat 0 h1
        rw [List.getElem?_eq_getElem (by omega)] at hx
        simpa [Addr.add] using World.cell?_spot hx
      subst hspot
      have hb : b < W.heap.size := hlt (.cell b off) (List.mem_append_left _ (MemPlace.mem_row.2 ⟨0, by rw [hC]; exact Nat.mul_pos (by omega) h1, by simp⟩))
      obtain ⟨ds, h2, h3, h4⟩ := gather (k := k) (D := D) (Q := fun i d => ∃ vs, k.rep W (Old W) vs d ∧ Rd W b (off + i * k.size) vs) len (fun i hil => by
        obtain ⟨cs', hc, htr⟩ := hi i (by omega)
        have hbi : Rows.uptoBulk (D i) ≤ 1048576 := by
          have := Bulk.mem_le (H := H) (l := (List.range len).map D) (List.mem_map.2 ⟨i, List.mem_range.2 hil, rfl⟩)
          omega
        obtain ⟨d, h5, h6⟩ := hk n cs' (D i, Pl i) htr (fun q hq => hlt q (List.mem_append_right _ (List.mem_flatMap.2 ⟨i, List.mem_range.2 (by omega), hq⟩))) hbi
        refine ⟨d, ⟨cs', h5, fun j v hv => ?_⟩, h6⟩
        obtain ⟨_, hcl, hat⟩ := World.cells?_some hc
        have hj := (List.getElem?_eq_some_iff.1 hv).1
        have := hat j (by omega)
        rw [hC] at this
        rw [plainAdd, plainAdd, hv] at this
        exact this)
      refine ⟨.agg ds, ⟨_, m, ds, by rw [h2], rfl, by omega, by omega, fun _ => ⟨b, off, rfl, hb, h3⟩⟩, ?_⟩
      have := putNum_len ds.length (by omega)
      simp only [listK, List.length_append]
      omega
/-- The fields of a struct, each of its kind. -/
def OpensAll (H : Type) (enc : TypeId × Value → H) (W : World) : List Kd → Nat → List Field → Prop
  | [], _, fs => fs = []
  | k :: ks, off, fs => ∃ f fs2, fs = f :: fs2 ∧ f.offset = off ∧ Tryz.prog.cellsOf f.type = k.size ∧ Opens H enc W k f.type ∧ OpensAll H enc W ks (off + k.size) fs2
theorem opens_fields (n : Nat) (cs : List Value) : ∀ (ks : List Kd) (off : Nat) (fs : List Field) (xs : List (DataW H × List MemPlace)), OpensAll H enc W ks off fs → xs.length = fs.length →
    (∀ (i : Nat) (f : Field), fs[i]? = some f → DataW.trod enc Tryz.prog W 0 (fun _ => true) true n f.type ((cs.drop f.offset).take (Tryz.prog.cellsOf f.type)) = xs[i]?) → cs.length = off + (zeroAll ks).length →
    (∀ q ∈ xs.flatMap (·.2), q.block < W.heap.size) → Rows.uptoBulkAll (xs.map (·.1)) ≤ 1048576 → ∃ ds, RepAll W (Old W) ks (cs.drop off) ds ∧ (putsAll ks ds).length ≤ 9 * Rows.uptoBulkAll (xs.map (·.1)) := by
  intro ks
  induction ks with
  | nil =>
    intro off fs xs hO hx _ hl _ _
    refine ⟨[], ⟨List.drop_eq_nil_of_le (by simp [zeroAll] at hl; omega), rfl⟩, by simp [putsAll]⟩
  | cons k ks ih =>
    rintro off fs xs ⟨f, fs2, rfl, hoff, hC, hk, hrest⟩ hx hf hl hlt hbk
    cases xs with
    | nil => simp at hx
    | cons x xs =>
      simp only [List.map_cons, Rows.uptoBulkAll] at hbk
      have h0 := hf 0 f rfl
      rw [hoff, hC] at h0
      obtain ⟨d, h1, h2⟩ := hk n _ x h0 (fun q hq => hlt q (by rw [List.flatMap_cons]; exact List.mem_append_left _ hq)) (by omega)
      have hz : (zeroAll (k :: ks)).length = k.size + (zeroAll ks).length := by simp [zeroAll, Kd.size]
      obtain ⟨ds, h3, h4⟩ := ih (off + k.size) fs2 xs hrest (by simpa using hx) (fun i g hg => by simpa using hf (i + 1) g (by simpa using hg)) (by omega)
        (fun q hq => hlt q (by rw [List.flatMap_cons]; exact List.mem_append_right _ hq)) (by omega)
      refine ⟨d :: ds, ⟨(cs.drop off).take k.size, cs.drop (off + k.size), d, ds, ?_, rfl, h1, h3⟩, ?_⟩
      · rw [← List.drop_drop, List.take_append_drop]
      · simp only [putsAll, List.length_append, List.map_cons, Rows.uptoBulkAll]
        omega
theorem opens_rec {ks : List Kd} {t : TypeId} {fs : Array Field} (tied : List Data → Bool) (ht : Tryz.prog.underlying t = some (.struct fs)) (hC : Tryz.prog.cellsOf t = (zeroAll ks).length) (hk : OpensAll H enc W ks 0 fs.toList) : Opens H enc W (recK ks tied) t := by
  intro fuel cs x h hlt hbk
  obtain ⟨xs, n, _, rfl, hcs, hlen, hf⟩ := DataW.trod_struct ht h
  simp only [Rows.uptoBulk] at hbk
  obtain ⟨ds, h1, h2⟩ := opens_fields n cs ks 0 fs.toList xs hk (by simpa using hlen) (fun i f hi => hf i f (by simpa using hi)) (by omega) hlt (by omega)
  rw [List.drop_zero] at h1
  refine ⟨.agg ds, ⟨ds, rfl, h1⟩, ?_⟩
  simp only [recK, Rows.uptoBulk]
  omega
theorem opens_loose {k : Kd} {t : TypeId} (h : Opens H enc W k t) : Opens H enc W (looseK k) t := h
end
end Go.Proofs.YtdbaajgkcjpnoaaGreat.Kd
