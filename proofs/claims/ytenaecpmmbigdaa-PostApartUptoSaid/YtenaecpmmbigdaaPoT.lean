/- Acts on a post that come in as an argument. -/
import Derived.Test.YtenaecpmmbigdaaPoS
import Derived.Test.YtenaecpmmbigdaaGD
import Derived.Deep.Slices
namespace Go.Proofs.Ytenaecpmmbigdaa.Po
open Go.ChangeShapes Go.WideShapes Go.ChangeAt Go.RowKit Go.Deep By

abbrev AC := Option Addr × Nat
def aCells (a : A8) (p : AC) : List Value := [.int .i64 a.kind, .int .i64 a.a, .int .i64 a.b, .slice p.1 a.d.length p.2]
structure ActOk (a : A8) : Prop where
  data : a.d.length ≤ 1048576
def LiesA (w : World) (B : Nat) (A : Option Addr) (l : List A8) : Prop :=
  0 < l.length → ∃ g o, A = some ⟨g, o, none⟩ ∧ g < B ∧ ∀ k x, l[k]? = some x → ∃ p : AC, (∀ j u, (aCells x p)[j]? = some u → w.cell? ⟨g, o + k * 4 + j, none⟩ = some u) ∧ x.d.length ≤ p.2 ∧ Lies w B p.1 x.d
def ActsOk (l : List A8) : Prop := ∀ x ∈ l, ActOk x
theorem LiesA.at_ {w : World} {B : Nat} {A : Option Addr} {l : List A8} (h : LiesA w B A l) {k : Nat} {x : A8} (hx : l[k]? = some x) : ∃ g o Ax cx, A = some ⟨g, o, none⟩ ∧ g < B ∧ w.cell? ⟨g, o + k * 4, none⟩ = some (.int .i64 x.kind) ∧ w.cell? ⟨g, o + k * 4 + 1, none⟩ = some (.int .i64 x.a) ∧ w.cell? ⟨g, o + k * 4 + 2, none⟩ = some (.int .i64 x.b) ∧ w.cell? ⟨g, o + k * 4 + 3, none⟩ = some (.slice Ax x.d.length cx) ∧ Lies w B Ax x.d := by
  have hk := (List.getElem?_eq_some_iff.1 hx).1
  obtain ⟨g, o, e, hg, hc⟩ := h (by omega)
  obtain ⟨p, h1, h2, h3⟩ := hc k _ hx
  exact ⟨g, o, p.1, p.2, e, hg, h1 0 _ rfl, h1 1 _ rfl, h1 2 _ rfl, h1 3 _ rfl, h3⟩
theorem LiesA.below {w w' : World} {B : Nat} {A : Option Addr} {l : List A8} (h : LiesA w B A l) (hb : Below B w w') : LiesA w' B A l := fun hn => by
  obtain ⟨g, o, e, hg, hc⟩ := h hn
  refine ⟨g, o, e, hg, fun k x hx => ?_⟩
  obtain ⟨p, h1, h2, h3⟩ := hc k x hx
  exact ⟨p, fun j u hu => (hb.cell (p := ⟨g, o + k * 4 + j, none⟩) hg).trans (h1 j u hu), h2, h3.below hb⟩
theorem actCells : Try.prog.cellsOf tAct = 4 := by kernel_rfl
theorem cellsI : Try.prog.cellsOf 3 = 1 := by kernel_rfl
theorem cellsB : Try.prog.cellsOf 33 = 1 := by kernel_rfl
set_option maxRecDepth 100000 in
/-- An act that is read. -/
theorem act_open {H : Type} {enc : TypeId × Value → H} {W : World} {fuel : Nat} {cs : List Value} {x : DataW H × List MemPlace} (h : DataW.trod enc Try.prog W 0 (fun _ => true) true fuel tAct cs = some x) (hlt : ∀ q ∈ x.2, q.block < W.heap.size) (hbk : Rows.uptoBulk x.1 ≤ 1048576) :
    ∃ (a : A8) (p : AC), cs = aCells a p ∧ a.d.length ≤ p.2 ∧ Lies W W.heap.size p.1 a.d ∧ ActOk a := by
  obtain ⟨xs, n, _, rfl, hcs, hlen, hf⟩ := DataW.trod_struct Try.underlying35 h
  rw [actCells] at hcs
  have hl5 : xs.length = 4 := by simpa using hlen
  obtain ⟨c0, c1, c2, c3, rfl⟩ : ∃ c0 c1 c2 c3, cs = [c0, c1, c2, c3] := by
    rcases cs with _ | ⟨c0, _ | ⟨c1, _ | ⟨c2, _ | ⟨c3, _ | ⟨c5, r⟩⟩⟩⟩⟩ <;> simp at hcs
    exact ⟨c0, c1, c2, c3, rfl⟩
  obtain ⟨x0, x2, x4, x3, rfl⟩ : ∃ x0 x2 x4 x3, xs = [x0, x2, x4, x3] := by
    rcases xs with _ | ⟨c0, _ | ⟨c1, _ | ⟨c2, _ | ⟨c3, _ | ⟨c5, r⟩⟩⟩⟩⟩ <;> simp at hl5
    exact ⟨c0, c1, c2, c3, rfl⟩
  have h0 : DataW.trod enc Try.prog W 0 (fun _ => true) true n 3 (([c0, c1, c2, c3].drop 0).take (Try.prog.cellsOf 3)) = some x0 := hf 0 _ rfl
  have h1 : DataW.trod enc Try.prog W 0 (fun _ => true) true n 3 (([c0, c1, c2, c3].drop 1).take (Try.prog.cellsOf 3)) = some x2 := hf 1 _ rfl
  have h2 : DataW.trod enc Try.prog W 0 (fun _ => true) true n 3 (([c0, c1, c2, c3].drop 2).take (Try.prog.cellsOf 3)) = some x4 := hf 2 _ rfl
  have h3 : DataW.trod enc Try.prog W 0 (fun _ => true) true n 33 (([c0, c1, c2, c3].drop 3).take (Try.prog.cellsOf 33)) = some x3 := hf 3 _ rfl
  rw [cellsI] at h0 h1 h2
  rw [cellsB] at h3
  simp only [List.drop_zero, List.drop_succ_cons, List.take_succ_cons, List.take_zero] at h0 h1 h2 h3
  obtain ⟨k0, e0, rfl, w0⟩ := DataW.trod_int Try.underlying3 h0
  obtain ⟨k1, e1, rfl, w1⟩ := DataW.trod_int Try.underlying3 h1
  obtain ⟨k2, e2, rfl, w2⟩ := DataW.trod_int Try.underlying3 h2
  injection e0 with e0
  injection e1 with e1
  injection e2 with e2
  subst e0 e1 e2
  have hx3 : Rows.uptoBulk x3.1 ≤ 1048576 := by
    simp only [List.map_cons, List.map_nil, Rows.uptoBulk, Rows.uptoBulkAll] at hbk
    omega
  have hl3 : ∀ q ∈ x3.2, q.block < W.heap.size := fun q hq => hlt q (by simp [hq])
  rcases open_ints Try.underlying33 Try.underlying5 Opn.cellsU8 h3 with ⟨e3, _⟩ | ⟨ad, len, cap, zs, e3, _, hl, _, hz, hx, hcell, hwz⟩
  · injection e3 with e3
    subst e3
    refine ⟨⟨k0, k1, k2, []⟩, (none, 0), rfl, Nat.le_refl _, Lies.empty _ _ _, ⟨Nat.zero_le _⟩⟩
  · injection e3 with e3
    subst e3 hx
    dsimp only at hx3 hl3
    simp only [if_true] at hz
    have hbl := Bulk.len_le (H := H) (lits .u8 (zs.take len)) (lits .u8 (zs.drop len))
    have hlen2 : (zs.take len).length = len := by rw [List.length_take]; omega
    have hll : (lits (H := H) .u8 (zs.take len)).length = len := by rw [lits, List.length_map, hlen2]
    have hlm : ((zs.take len).map fun z => UInt8.ofNat z.toNat).length = len := by rw [List.length_map, hlen2]
    refine ⟨⟨k0, k1, k2, (zs.take len).map fun z => UInt8.ofNat z.toNat⟩, (some ad, cap), ?_, by show List.length _ ≤ cap; rw [hlm]; exact hl, fun hn => ?_, ⟨by show List.length _ ≤ _; rw [hlm]; omega⟩⟩
    · show _ = [Value.int .i64 k0, .int .i64 k1, .int .i64 k2, .slice (some ad) ((zs.take len).map fun z => UInt8.ofNat z.toNat).length cap]
      rw [hlm]
    · have hn : 0 < ((zs.take len).map fun z => UInt8.ofNat z.toNat).length := hn
      rw [hlm] at hn
      have h0' : 0 < zs.length := by omega
      obtain ⟨b, off, spot⟩ := ad
      have hspot : spot = none := by simpa [Addr.add] using World.cell?_spot (hcell 0 h0')
      subst hspot
      refine ⟨b, off, rfl, hl3 (.cell b off) (MemPlace.mem_row.2 ⟨0, h0', by simp⟩), fun j x hj => ?_⟩
      have hj : ((zs.take len).map fun z => UInt8.ofNat z.toNat)[j]? = some x := hj
      simp only [List.getElem?_map, Option.map_eq_some_iff] at hj
      obtain ⟨z, hz1, rfl⟩ := hj
      have hjl : j < len := by
        have := (List.getElem?_eq_some_iff.1 hz1).1
        omega
      rw [List.getElem?_take, if_pos hjl] at hz1
      have hc := hcell j (by omega)
      rw [plainAdd] at hc
      rw [hc]
      have hmem : z ∈ zs := List.mem_of_getElem? hz1
      have hw := Opn.wf_u8 (hwz z hmem)
      have e : zs.getD j 0 = z := by simp [List.getD, hz1]
      rw [e, bv]
      simp
      omega
set_option maxRecDepth 100000 in
/-- Acts that come in as an argument. -/
theorem acts_open {H : Type} {enc : TypeId × Value → H} {v : Value} {d : DataW H} {p : List MemPlace} {W : World} {base : Nat} (hv : Value.okWide Try.prog W .any base 22 v)
    (h : DataW.Trod enc Try.prog W 0 (fun _ => true) true 22 v d p) (hlt : ∀ x ∈ p, x.block < W.heap.size) (hbk : Rows.uptoBulk d ≤ 1048576) :
    ∃ (A : Option Addr) (c : Nat) (l : List A8), v = .slice A l.length c ∧ LiesA W W.heap.size A l ∧ ActsOk l ∧ l.length ≤ 1048576 := by
  obtain ⟨a0, len0, cap0, rfl⟩ := okWide_slice Try.underlying22 hv
  obtain ⟨fuel, hf⟩ := h
  rcases open_slice Try.underlying22 hf with ⟨hcs, _⟩ | ⟨a, len, cap, m, n, D, Pl, hcs, _, hl, _, hmm, hx, hi⟩
  · simp [Value.cells] at hcs
    obtain ⟨rfl, rfl, rfl⟩ := hcs
    exact ⟨none, 0, [], rfl, fun h => absurd h (by simp), fun x hx => (by cases hx), Nat.zero_le _⟩
  · simp [Value.cells] at hcs
    obtain ⟨rfl, rfl, rfl⟩ := hcs
    simp only [Prod.mk.injEq] at hx
    obtain ⟨rfl, rfl⟩ := hx
    simp only [if_true] at hmm
    subst hmm
    rw [actCells] at hi hlt
    have hcnt := Bulk.len_le (H := H) ((List.range len0).map D) ((List.range (m - len0)).map fun j => D (len0 + j))
    rw [List.length_map, List.length_range] at hcnt
    have hD : ∀ i, i < len0 → Rows.uptoBulk (D i) ≤ 1048576 := fun i hil => by
      have := Bulk.mem_le (H := H) (l := (List.range len0).map D) (List.mem_map.2 ⟨i, List.mem_range.2 hil, rfl⟩)
      simp only [Rows.uptoBulk] at hbk
      omega
    have hall : ∀ i, i < len0 → ∃ (x : A8) (q : AC), W.cells? 0 (a.add (i * 4)) 4 = some (aCells x q) ∧ x.d.length ≤ q.2 ∧ Lies W W.heap.size q.1 x.d ∧ ActOk x := fun i hil => by
      obtain ⟨cs', hc, htr⟩ := hi i (by omega)
      obtain ⟨x, q, e, h1, h2, h3⟩ := act_open htr (fun q hq => hlt q (List.mem_append_right _ (List.mem_flatMap.2 ⟨i, List.mem_range.2 (by omega), hq⟩))) (hD i hil)
      exact ⟨x, q, e ▸ hc, h1, h2, h3⟩
    obtain ⟨l, hll, hlx⟩ : ∃ l : List A8, l.length = len0 ∧ ∀ i x, l[i]? = some x → ∃ q : AC, W.cells? 0 (a.add (i * 4)) 4 = some (aCells x q) ∧ x.d.length ≤ q.2 ∧ Lies W W.heap.size q.1 x.d ∧ ActOk x := by
      refine ⟨(List.range len0).pmap (fun i hi => Classical.choose (hall i hi)) (fun i hi => List.mem_range.1 hi), by simp, fun i x hx => ?_⟩
      have hil : i < len0 := by simpa using (List.getElem?_eq_some_iff.1 hx).1
      have e : x = Classical.choose (hall i hil) := by
        rw [List.getElem?_eq_getElem (by simpa using hil)] at hx
        injection hx with hx
        rw [← hx]
        simp
      rw [e]
      exact Classical.choose_spec (hall i hil)
    refine ⟨_, m, l, by rw [hll], fun hn => ?_, fun x hx => ?_, by omega⟩
    · have hn0 : 0 < len0 := by omega
      obtain ⟨q0, hc0, _⟩ := hlx 0 _ (List.getElem?_eq_getElem hn)
      obtain ⟨b, off, spot⟩ := a
      have hspot : spot = none := by
        obtain ⟨_, hcl, hat⟩ := World.cells?_some hc0
        have hx := hat 0 (by decide)
        rw [show (aCells _ q0)[0]? = some _ from rfl] at hx
        simpa [Addr.add] using World.cell?_spot hx
      subst hspot
      refine ⟨b, off, rfl, hlt (.cell b off) (List.mem_append_left _ (MemPlace.mem_row.2 ⟨0, by omega, by simp⟩)), fun k x hx => ?_⟩
      obtain ⟨q, hc, h1, h2, _⟩ := hlx k x hx
      refine ⟨q, fun j u hu => ?_, h1, h2⟩
      obtain ⟨_, hcl, hat⟩ := World.cells?_some hc
      have hj : j < 4 := by have := (List.getElem?_eq_some_iff.1 hu).1; simpa [aCells] using this
      have := hat j hj
      rw [plainAdd, plainAdd, hu] at this
      exact this
    · obtain ⟨i, hi2, rfl⟩ := List.getElem_of_mem hx
      obtain ⟨q, _, _, _, h4⟩ := hlx i _ (List.getElem?_eq_getElem hi2)
      exact h4
end Go.Proofs.Ytenaecpmmbigdaa.Po
