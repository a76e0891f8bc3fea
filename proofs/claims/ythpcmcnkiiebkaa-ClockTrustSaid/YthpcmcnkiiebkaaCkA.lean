/- Package clock as plain values: what the true time is, what each clock shows; what clocks are in memory, and the reference's. Nothing here speaks of one law. -/
import Derived.Test.YthpcmcnkiiebkaaEA
import Derived.Test.YthpcmcnkiiebkaaSumP
import Derived.Deep.CutBlock
import Derived.Laws.Rows
import Derived.Deep.RegionLaw
import Derived.Deep.RegionHeld3
namespace Go.Proofs.Ythpcmcnkiiebkaa.Ck
open Go.RowKit Go.Maps By Mp SumP

theorem row_lt {w : World} {g : Nat} {o : Obj} (h : w.heap[g]? = some o) : g < w.heap.size := (Array.getElem?_eq_some_iff.1 h).1
/-- Gives a value, all memory as it was but for new blocks. -/
def RetB (v : Value) (w : World) (e : Ending) (w' : World) : Prop := e = .returned v ∧ Below w.heap.size w w'
/-- w' is w but for blocks of M, and new ones. -/
structure Kept (M : Nat → Prop) (w w' : World) : Prop where
  os : w'.os = w.os
  tape : w'.tape = w.tape
  output : w'.output = w.output
  size : w.heap.size ≤ w'.heap.size
  block : ∀ b, b < w.heap.size → ¬ M b → w'.heap[b]? = w.heap[b]?
theorem Kept.refl (M : Nat → Prop) (w : World) : Kept M w w := ⟨rfl, rfl, rfl, Nat.le_refl _, fun _ _ _ => rfl⟩
theorem Kept.step {M M1 : Nat → Prop} {w w1 w2 : World} (h : Kept M w w1) (k : Kept M1 w1 w2) (hm : ∀ b, b < w.heap.size → M1 b → M b) : Kept M w w2 :=
  ⟨k.os.trans h.os, k.tape.trans h.tape, k.output.trans h.output, Nat.le_trans h.size k.size, fun b hb hn => (k.block b (Nat.lt_of_lt_of_le hb h.size) (fun e => hn (hm b hb e))).trans (h.block b hb hn)⟩
theorem Kept.trans {M : Nat → Prop} {w w1 w2 : World} (h : Kept M w w1) (k : Kept M w1 w2) : Kept M w w2 := h.step k fun _ _ e => e
theorem Kept.mono {M M' : Nat → Prop} {w w1 : World} (h : Kept M w w1) (hm : ∀ b, b < w.heap.size → M b → M' b) : Kept M' w w1 := ⟨h.os, h.tape, h.output, h.size, fun b hb hn => h.block b hb (fun e => hn (hm b hb e))⟩
theorem Kept.below {M : Nat → Prop} {w w1 : World} (h : Kept M w w1) {B : Nat} (hB : B ≤ w.heap.size) (hm : ∀ b, M b → B ≤ b) : Below B w w1 := ⟨h.os, h.tape, h.output, h.size, fun b hb => h.block b (Nat.lt_of_lt_of_le hb hB) (fun e => Nat.not_lt_of_le (hm b e) hb)⟩
theorem Kept.of_below {M : Nat → Prop} {w w1 : World} (h : Below w.heap.size w w1) : Kept M w w1 := ⟨h.os, h.tape, h.output, h.size, fun b hb _ => h.block b hb⟩
theorem Kept.alloc {M : Nat → Prop} {w w1 : World} (h : Kept M w w1) (o : Obj) : Kept M w (w1.alloc o) := h.step (M1 := M) (Kept.of_below ((Below.refl _ _).alloc (Nat.le_refl _) o)) (fun _ _ e => e)
theorem Kept.setCell {M : Nat → Prop} {w w1 : World} (h : Kept M w w1) {p : Addr} (hp : p.block < w.heap.size → M p.block) (u : Value) : Kept M w (w1.setCell p u) :=
  h.step (M1 := fun b => b = p.block) ⟨rfl, rfl, rfl, by simp [World.setCell], fun b _ hn => Below.heap_setCell w1 p u b hn⟩ (fun b hb e => by subst e; exact hp hb)
theorem Kept.setRow {M : Nat → Prop} {w w1 : World} (h : Kept M w w1) {g : Nat} (hp : g < w.heap.size → M g) (cs : Array Value) : Kept M w (w1.setRow g cs) :=
  h.step (M1 := fun b => b = g) ⟨rfl, rfl, rfl, by simp [World.setRow], fun b _ hn => setRow_other w1 g b cs hn⟩ (fun b hb e => by subst e; exact hp hb)


/-! ### Clocks as plain values -/
abbrev top : Int := 1152921504606846976
/-- Clocks: so many nodes and edges; what each shows, nodes first; the drift; the true time; was one moved alone? -/
structure C9 where
  nodes : Nat
  edges : Nat
  t : List Int
  rho : Int
  real : Int
  moved : Bool
/-- The place of an end. -/
def atF (N M : Nat) (e : Int) : Int := if 1 ≤ e ∧ e ≤ (N : Int) then e - 1 else if e ≤ -1 ∧ -(M : Int) ≤ e then (N : Int) - e - 1 else -1
structure C9.Ok (c : C9) : Prop where
  n1 : 1 ≤ c.nodes
  n2 : c.nodes ≤ 16
  m : c.edges ≤ 16
  len : c.t.length = c.nodes + c.edges
  ts : ∀ x ∈ c.t, 0 ≤ x ∧ x ≤ top
  rho : 0 ≤ c.rho ∧ c.rho ≤ 500000
  real : 0 ≤ c.real ∧ c.real ≤ top
theorem atF_in {N M : Nat} {e : Int} (h : 0 ≤ atF N M e) : atF N M e < (N : Int) + M ∧ (1 ≤ e ∧ e ≤ (N : Int) ∧ atF N M e = e - 1 ∨ e ≤ -1 ∧ -(M : Int) ≤ e ∧ atF N M e = (N : Int) - e - 1) := by
  unfold atF at *
  split at h
  · rename_i h1; rw [if_pos h1]; omega
  · rename_i h1
    rw [if_neg h1]
    split at h
    · rename_i h2; rw [if_pos h2]; omega
    · omega
theorem atF_out {N M : Nat} {e : Int} (h : atF N M e < 0) : atF N M e = -1 ∧ ¬ (1 ≤ e ∧ e ≤ (N : Int)) ∧ ¬ (e ≤ -1 ∧ -(M : Int) ≤ e) := by
  unfold atF at *
  split at h
  · omega
  · rename_i h1
    rw [if_neg h1]
    split at h
    · omega
    · rename_i h2; rw [if_neg h2]; exact ⟨rfl, h1, h2⟩
/-- What an end's clock shows. -/
def C9.time (c : C9) (e : Int) : Int := c.t.getD (atF c.nodes c.edges e).toNat 0
theorem C9.Ok.time {c : C9} (h : c.Ok) {e : Int} (he : 0 ≤ atF c.nodes c.edges e) : c.t[(atF c.nodes c.edges e).toNat]? = some (c.time e) ∧ 0 ≤ c.time e ∧ c.time e ≤ top := by
  have h1 := (atF_in he).1
  have h2 := h.len
  have hl : (atF c.nodes c.edges e).toNat < c.t.length := by omega
  have h3 : c.t[(atF c.nodes c.edges e).toNat]? = some (c.time e) := by
    unfold C9.time
    rw [List.getD_eq_getElem?_getD, List.getElem?_eq_getElem hl]; rfl
  exact ⟨h3, h.ts _ (List.mem_of_getElem? h3)⟩
/-- The first of the bits of an end's place. -/
def bitAt (N i : Nat) : Nat := if i < N then 4 * i else 4 * (i - N + 8) % 64
theorem bitAt_lt {N i : Nat} (h : N ≤ 16) : bitAt N i < 64 := by unfold bitAt; split <;> omega
/-- Four bits of the draw. -/
def dr (draw : Int) (b : Nat) : Int := draw / 2 ^ b % 16
theorem dr_in (draw : Int) (b : Nat) : 0 ≤ dr draw b ∧ dr draw b ≤ 15 := by unfold dr; omega
def stepF (n rho d : Int) : Int := leastF n rho + (mostF n rho - leastF n rho) * d / 15
theorem step_prod {n rho d : Int} (h : TameT n rho) (h0 : 0 ≤ d) (h1 : d ≤ 15) : leastF n rho ≤ mostF n rho ∧ 0 ≤ (mostF n rho - leastF n rho) * d ∧ (mostF n rho - leastF n rho) * d ≤ (mostF n rho - leastF n rho) * 15 := by
  have h2 := least_in h
  have h3 := most_in h
  have h4 : leastF n rho ≤ mostF n rho := by omega
  exact ⟨h4, Int.mul_nonneg (by omega) h0, Int.mul_le_mul_of_nonneg_left h1 (by omega)⟩
theorem step_in {n rho d : Int} (h : TameT n rho) (h0 : 0 ≤ d) (h1 : d ≤ 15) : leastF n rho ≤ stepF n rho d ∧ stepF n rho d ≤ mostF n rho ∧ 0 ≤ stepF n rho d ∧ stepF n rho d ≤ 1649267441664 := by
  have h2 := least_in h
  have h3 := most_in h
  have h4 := step_prod h h0 h1
  unfold stepF
  generalize (mostF n rho - leastF n rho) * d = p at *
  omega
def nextT (c : C9) (n draw : Int) : List Int := c.t.mapIdx fun i x => x + stepF n c.rho (dr draw (bitAt c.nodes i))
theorem nextT_length (c : C9) (n draw : Int) : (nextT c n draw).length = c.t.length := by simp [nextT]
theorem nextT_at (c : C9) (n draw : Int) {i : Nat} {x : Int} (h : c.t[i]? = some x) : (nextT c n draw)[i]? = some (x + stepF n c.rho (dr draw (bitAt c.nodes i))) := by
  simp [nextT, h]
def overP (c : C9) (n draw : Int) : Prop := top < c.real + n ∨ ∃ x ∈ nextT c n draw, top < x
instance (c : C9) (n draw : Int) : Decidable (overP c n draw) := inferInstanceAs (Decidable (_ ∨ _))
def okN (n : Int) : Prop := 0 ≤ n ∧ n ≤ 1099511627776
instance (n : Int) : Decidable (okN n) := inferInstanceAs (Decidable (_ ∧ _))
/-- What Pass answers, and the clocks behind it. -/
def passE (c : C9) (n draw : Int) : Int := if ¬ okN n then 1 else if overP c n draw then 3 else 0
def passC (c : C9) (n draw : Int) : C9 := if ¬ okN n then c else if overP c n draw then c else { c with t := nextT c n draw, real := c.real + n }
/-- What Tick answers, and the clocks behind it. -/
def tickE (c : C9) (e n : Int) : Int := if atF c.nodes c.edges e < 0 ∨ ¬ okN n then 1 else if top < c.time e + n then 3 else 0
def tickC (c : C9) (e n : Int) : C9 := if atF c.nodes c.edges e < 0 ∨ ¬ okN n then c else if top < c.time e + n then c else { c with t := c.t.set (atF c.nodes c.edges e).toNat (c.time e + n), moved := c.moved || decide (0 < n) }
theorem C9.Ok.tame {c : C9} (h : c.Ok) {n : Int} (hn : okN n) : TameT n c.rho := ⟨hn.1, hn.2, h.rho.1, h.rho.2⟩
theorem C9.Ok.pass {c : C9} (h : c.Ok) (n draw : Int) : (passC c n draw).Ok := by
  unfold passC
  split
  · exact h
  · rename_i hn
    have hn : okN n := Decidable.not_not.1 hn
    split
    · exact h
    · rename_i ho
      have h1 : ¬ top < c.real + n := fun e => ho (.inl e)
      have h2 : ∀ x ∈ nextT c n draw, ¬ top < x := fun x hx e => ho (.inr ⟨x, hx, e⟩)
      refine ⟨h.n1, h.n2, h.m, (nextT_length c n draw).trans h.len, fun x hx => ?_, h.rho, ?_⟩
      · have h3 := h2 x hx
        obtain ⟨i, hi⟩ := List.getElem?_of_mem hx
        have hil : i < c.t.length := by
          have := (List.getElem?_eq_some_iff.1 hi).1
          rwa [nextT_length] at this
        have h4 := nextT_at c n draw (List.getElem?_eq_getElem hil)
        have h4 : x = c.t[i] + stepF n c.rho (dr draw (bitAt c.nodes i)) := Option.some.inj (hi.symm.trans h4)
        have h5 := h.ts _ (List.getElem_mem hil)
        have h6 := dr_in draw (bitAt c.nodes i)
        have h7 := step_in (h.tame hn) h6.1 h6.2
        omega
      · have := h.real
        obtain ⟨n0, n1⟩ := hn
        show 0 ≤ c.real + n ∧ c.real + n ≤ top
        omega
theorem C9.Ok.tick {c : C9} (h : c.Ok) (e n : Int) : (tickC c e n).Ok := by
  unfold tickC
  split
  · exact h
  · rename_i hn
    split
    · exact h
    · rename_i ho
      have hat : 0 ≤ atF c.nodes c.edges e := by
        have : ¬ atF c.nodes c.edges e < 0 := fun e => hn (.inl e)
        omega
      have hk : okN n := Decidable.not_not.1 fun e => hn (.inr e)
      refine ⟨h.n1, h.n2, h.m, by simpa using h.len, fun x hx => ?_, h.rho, h.real⟩
      rcases List.mem_or_eq_of_mem_set hx with hx | rfl
      · exact h.ts x hx
      · have := (h.time hat).2
        obtain ⟨n0, n1⟩ := hk
        omega
theorem passC_nodes (c : C9) (n draw : Int) : (passC c n draw).nodes = c.nodes ∧ (passC c n draw).edges = c.edges ∧ (passC c n draw).rho = c.rho ∧ (passC c n draw).moved = c.moved := by
  unfold passC
  split
  · exact ⟨rfl, rfl, rfl, rfl⟩
  · split
    · exact ⟨rfl, rfl, rfl, rfl⟩
    · exact ⟨rfl, rfl, rfl, rfl⟩
/-- Clocks that begin. -/
def begun (N M : Nat) (rho : Int) : C9 := ⟨N, M, List.replicate (N + M) 0, rho, 0, false⟩
theorem begun_ok {N M : Nat} {rho : Int} (h1 : 1 ≤ N) (h2 : N ≤ 16) (h3 : M ≤ 16) (h4 : 0 ≤ rho) (h5 : rho ≤ 500000) : (begun N M rho).Ok :=
  ⟨h1, h2, h3, by simp [begun], fun x hx => by rw [(List.mem_replicate.1 hx).2]; decide, ⟨h4, h5⟩, ⟨Int.le_refl _, by show (0 : Int) ≤ top; decide⟩⟩

/-! ### In memory -/
abbrev tClk : TypeId := 52
abbrev tRef : TypeId := 55
abbrev tInt : TypeId := 3
abbrev tI64 : TypeId := 2
abbrev tMap : TypeId := 50
theorem keyI : Keyed Try.prog tInt := int_keyed Try.underlying3
theorem ptrTest (w : World) (a : Option Addr) : (binOp .eql 23 (.pointer a) (.pointer none)).run Try.prog w = .ok (.bool a.isNone) w := by
  cases a with
  | none => kernel_rfl
  | some a => kernel_rfl
theorem ptrTestN (w : World) (a : Option Addr) : (binOp .neq 23 (.pointer a) (.pointer none)).run Try.prog w = .ok (.bool a.isSome) w := by
  cases a with
  | none => kernel_rfl
  | some a => kernel_rfl
def iv (x : Int) : Value := .int .i64 x
/-- What the map of clocks answers. -/
def getT (N M : Nat) (t : List Int) : Lit → Option Value
  | .int .i64 e => if 0 ≤ atF N M e then (t[(atF N M e).toNat]?).map iv else none
  | _ => none
abbrev ekey (e : Int) : Lit := .int .i64 e
theorem ekey_same (a b : Int) : (ekey a).sameKey (ekey b) = decide (a = b) := by
  simp [Lit.sameKey]
theorem getT_key {N M : Nat} {t : List Int} {l : Lit} {v : Value} (h : getT N M t l = some v) : ∃ e x, l = ekey e ∧ 0 ≤ atF N M e ∧ t[(atF N M e).toNat]? = some x ∧ v = iv x := by
  unfold getT at h
  split at h
  · rename_i e
    split at h
    · rename_i h1
      rw [Option.map_eq_some_iff] at h
      obtain ⟨x, h2, rfl⟩ := h
      exact ⟨e, x, rfl, h1, h2, rfl⟩
    · cases h
  · cases h
theorem key_fits {e : Int} (h0 : -9223372036854775808 ≤ e) (h1 : e ≤ 9223372036854775807) : keyOf Try.prog tInt (.int .i64 e) = some (ekey e) :=
  keyOf_int_mk Try.underlying3 (by
    simp only [Lit.wf, Bool.and_eq_true, decide_eq_true_eq]
    exact ⟨by simp [IntKind.min, IntKind.signed, IntKind.bits]; omega, by simp [IntKind.max, IntKind.signed, IntKind.bits]; omega⟩)
/-- There are few ends. -/
theorem few {w : World} {q n : Nat} {get : Lit → Option Value} (h : MapIs Try.prog tInt w q get n) (hk : ∀ l v, WideAt.IsKeyLit l → get l = some v → ∃ e : Int, l = ekey e ∧ -16 ≤ e ∧ e ≤ 16) : n ≤ 33 := by
  obtain ⟨D, h1, h2, h3⟩ := h
  obtain ⟨es, rfl, hp, hkey⟩ := World.ownsMap.entries h1 keyI
  have hin : ∀ p ∈ es, ∃ e : Int, p.1 = ekey e ∧ -16 ≤ e ∧ e ≤ 16 := by
    intro p hp
    have hs := (h3 p.1 (hkey p hp)).1
    have hh : Maps.has (DataW.map es) p.1 = true := List.any_eq_true.2 ⟨p, hp, WideAt.sameKey_self (hkey p hp)⟩
    rw [hh] at hs
    obtain ⟨v, hv⟩ := Option.isSome_iff_exists.1 hs.symm
    exact hk p.1 v (hkey p hp) hv
  have hl : (es.map fun p => match p.1 with | .int _ z => (z + 16).toNat | _ => 0).length ≤ 33 := by
    apply pigeon
    · rw [List.Nodup, List.pairwise_map]
      refine List.Pairwise.imp_of_mem (fun {a b} ha hb hab => ?_) hp
      obtain ⟨i, hi, _⟩ := hin a ha
      obtain ⟨j, hj, _⟩ := hin b hb
      rw [hi, hj] at hab ⊢
      show (i + 16).toNat ≠ (j + 16).toNat
      exact fun e => hab (by rw [show i = j by omega])
    · intro x hx
      obtain ⟨p, hp, rfl⟩ := List.mem_map.1 hx
      obtain ⟨i, hi, h1, h2⟩ := hin p hp
      rw [hi]
      show (i + 16).toNat < 33
      omega
  rw [List.length_map] at hl
  rw [← h2]
  exact hl
/-- The clocks' map in memory. -/
def TimesAt (w : World) (b : Nat) (N M : Nat) (t : List Int) : Prop := ∃ k, MapIs Try.prog tInt w b (getT N M t) k
theorem TimesAt.keep {w w' : World} {b N M : Nat} {t : List Int} (h : TimesAt w b N M t) (hb : w'.heap[b]? = w.heap[b]?) : TimesAt w' b N M t := by
  obtain ⟨k, h⟩ := h
  exact ⟨k, h.keep hb⟩
theorem TimesAt.lt {w : World} {b N M : Nat} {t : List Int} (h : TimesAt w b N M t) : b < w.heap.size := by
  obtain ⟨k, h⟩ := h
  exact h.lt
theorem getT_few {N M : Nat} (hN : N ≤ 16) (hM : M ≤ 16) {t : List Int} (l : Lit) (v : Value) (h : getT N M t l = some v) : ∃ e : Int, l = ekey e ∧ -16 ≤ e ∧ e ≤ 16 := by
  obtain ⟨e, x, rfl, h1, h2, _⟩ := getT_key h
  have := atF_in h1
  exact ⟨e, rfl, by omega, by omega⟩
/-- Clocks in memory; S: the blocks that they may write. -/
structure CAt (w : World) (g : Nat) (c : C9) (b : Nat) (S : Nat → Prop) : Prop where
  row : w.heap[g]? = some (.cells #[.map (some b), .int .i64 c.real, .int .i64 c.rho, .bool c.moved] tClk (0, 0))
  map : TimesAt w b c.nodes c.edges c.t
  sg : S g
  sb : S b
  lt : ∀ b, S b → b < w.heap.size
  ok : c.Ok
def ClkIs (w : World) (g : Nat) (c : C9) (S : Nat → Prop) : Prop := ∃ b, CAt w g c b S
/-- The reference's clocks in memory. -/
structure RAt (w : World) (g : Nat) (c : C9) (q : Nat) (S : Nat → Prop) : Prop where
  row : w.heap[g]? = some (.cells #[.int .i64 (c.nodes : Nat), .int .i64 (c.edges : Nat), .int .i64 c.rho, .slice (some ⟨q, 0, none⟩) (c.nodes + c.edges) (c.nodes + c.edges), .int .i64 c.real, .bool c.moved] tRef (0, 0))
  times : w.heap[q]? = some (.cells (c.t.map iv).toArray tI64 (0, 0))
  sg : S g
  sq : S q
  lt : ∀ b, S b → b < w.heap.size
  ok : c.Ok
def RefIs (w : World) (g : Nat) (c : C9) (S : Nat → Prop) : Prop := ∃ q, RAt w g c q S
section
variable {w w' : World} {g b q : Nat} {c : C9} {S : Nat → Prop}
theorem CAt.keep (h : CAt w g c b S) (hb : ∀ b, S b → w'.heap[b]? = w.heap[b]?) (hz : w.heap.size ≤ w'.heap.size) : CAt w' g c b S :=
  ⟨(hb g h.sg).trans h.row, h.map.keep (hb b h.sb), h.sg, h.sb, fun b e => Nat.lt_of_lt_of_le (h.lt b e) hz, h.ok⟩
theorem RAt.keep (h : RAt w g c q S) (hb : ∀ b, S b → w'.heap[b]? = w.heap[b]?) (hz : w.heap.size ≤ w'.heap.size) : RAt w' g c q S :=
  ⟨(hb g h.sg).trans h.row, (hb q h.sq).trans h.times, h.sg, h.sq, fun b e => Nat.lt_of_lt_of_le (h.lt b e) hz, h.ok⟩
theorem ClkIs.keep (h : ClkIs w g c S) (hb : ∀ b, S b → w'.heap[b]? = w.heap[b]?) (hz : w.heap.size ≤ w'.heap.size) : ClkIs w' g c S := by
  obtain ⟨b, h⟩ := h
  exact ⟨b, h.keep hb hz⟩
theorem RefIs.keep (h : RefIs w g c S) (hb : ∀ b, S b → w'.heap[b]? = w.heap[b]?) (hz : w.heap.size ≤ w'.heap.size) : RefIs w' g c S := by
  obtain ⟨b, h⟩ := h
  exact ⟨b, h.keep hb hz⟩
theorem ClkIs.lt (h : ClkIs w g c S) : ∀ b, S b → b < w.heap.size := by
  obtain ⟨b, h⟩ := h
  exact h.lt
theorem RefIs.lt (h : RefIs w g c S) : ∀ b, S b → b < w.heap.size := by
  obtain ⟨b, h⟩ := h
  exact h.lt
theorem ClkIs.ok (h : ClkIs w g c S) : c.Ok := by
  obtain ⟨b, h⟩ := h
  exact h.ok
theorem RefIs.ok (h : RefIs w g c S) : c.Ok := by
  obtain ⟨b, h⟩ := h
  exact h.ok
theorem CAt.below (h : CAt w g c b S) (hb : Below w.heap.size w w') : CAt w' g c b S := h.keep (fun b hs => hb.block b (h.lt b hs)) hb.size
theorem RAt.below (h : RAt w g c q S) (hb : Below w.heap.size w w') : RAt w' g c q S := h.keep (fun b hs => hb.block b (h.lt b hs)) hb.size
theorem ClkIs.below (h : ClkIs w g c S) (hb : Below w.heap.size w w') : ClkIs w' g c S := h.keep (fun b hs => hb.block b (h.lt b hs)) hb.size
theorem RefIs.below (h : RefIs w g c S) (hb : Below w.heap.size w w') : RefIs w' g c S := h.keep (fun b hs => hb.block b (h.lt b hs)) hb.size
theorem CAt.cells (h : CAt w g c b S) : w.cell? ⟨g, 0, none⟩ = some (.map (some b)) ∧ w.cell? ⟨g, 1, none⟩ = some (.int .i64 c.real) ∧ w.cell? ⟨g, 2, none⟩ = some (.int .i64 c.rho) ∧ w.cell? ⟨g, 3, none⟩ = some (.bool c.moved) :=
  ⟨by rw [cell_of_row w g 0 _ _ _ h.row]; rfl, by rw [cell_of_row w g 1 _ _ _ h.row]; rfl, by rw [cell_of_row w g 2 _ _ _ h.row]; rfl, by rw [cell_of_row w g 3 _ _ _ h.row]; rfl⟩
theorem RAt.cells (h : RAt w g c q S) : w.cell? ⟨g, 0, none⟩ = some (.int .i64 (c.nodes : Nat)) ∧ w.cell? ⟨g, 1, none⟩ = some (.int .i64 (c.edges : Nat)) ∧ w.cell? ⟨g, 2, none⟩ = some (.int .i64 c.rho) ∧
    w.cell? ⟨g, 3, none⟩ = some (.slice (some ⟨q, 0, none⟩) (c.nodes + c.edges) (c.nodes + c.edges)) ∧ w.cell? ⟨g, 4, none⟩ = some (.int .i64 c.real) ∧ w.cell? ⟨g, 5, none⟩ = some (.bool c.moved) :=
  ⟨by rw [cell_of_row w g 0 _ _ _ h.row]; rfl, by rw [cell_of_row w g 1 _ _ _ h.row]; rfl, by rw [cell_of_row w g 2 _ _ _ h.row]; rfl, by rw [cell_of_row w g 3 _ _ _ h.row]; rfl, by rw [cell_of_row w g 4 _ _ _ h.row]; rfl, by rw [cell_of_row w g 5 _ _ _ h.row]; rfl⟩
theorem RAt.cellAt (h : RAt w g c q S) {i : Nat} {x : Int} (hx : c.t[i]? = some x) : w.cell? ⟨q, i, none⟩ = some (.int .i64 x) := by
  rw [cell_of_row w q i _ _ _ h.times]
  simp [hx, iv]
theorem CAt.gb (h : CAt w g c b S) : b ≠ g := fun e => by
  obtain ⟨k, D, ⟨es, clock, hb, _⟩, _⟩ := h.map
  rw [e, h.row] at hb
  injection hb with hb
  cases hb
theorem RAt.gq (h : RAt w g c q S) : q ≠ g := fun e => by
  have h1 := h.times
  rw [e, h.row] at h1
  injection h1 with h1
  injection h1 with _ h1
  exact absurd h1 (by decide)
end
/-- What a call on clocks comes to: the answer, the clocks behind it. -/
def CStep (val : Value) (g : Nat) (c' : C9) (S : Nat → Prop) (w : World) (e : Ending) (w' : World) : Prop :=
  e = .returned val ∧ ∃ S', ClkIs w' g c' S' ∧ (∀ b, S' b → S b ∨ w.heap.size ≤ b) ∧ Kept S w w'
def RStep (val : Value) (g : Nat) (c' : C9) (S : Nat → Prop) (w : World) (e : Ending) (w' : World) : Prop :=
  e = .returned val ∧ ∃ S', RefIs w' g c' S' ∧ (∀ b, S' b → S b ∨ w.heap.size ≤ b) ∧ Kept S w w'
def Ret (v : Value) (w : World) (e : Ending) (w' : World) : Prop := e = .returned v ∧ w = w'
end Go.Proofs.Ythpcmcnkiiebkaa.Ck
