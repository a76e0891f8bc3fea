/- What of memory a call may write; bytes in given blocks; a file's pieces as a map in memory. No walk. -/
import Derived.Test.YtolomblbcljdfaaDkA
import Derived.Test.YtolomblbcljdfaaDkT
namespace Go.Proofs.Ytolomblbcljdfaa.Dk
open Go.RowKit Go.Maps By Mp

theorem row_lt {w : World} {g : Nat} {o : Obj} (h : w.heap[g]? = some o) : g < w.heap.size := (Array.getElem?_eq_some_iff.1 h).1
theorem size_setCell' (w : World) (p : Addr) (v : Value) : (w.setCell p v).heap.size = w.heap.size := by simp [World.setCell]
/-- Gives a value, all memory as it was. -/
def Ret (v : Value) (w : World) (e : Ending) (w' : World) : Prop := e = .returned v ∧ w = w'
/-- Gives a value, old memory as it was. -/
def RetB (v : Value) (w : World) (e : Ending) (w' : World) : Prop := e = .returned v ∧ Below w.heap.size w w'
/-- Gives bytes of the call's own. -/
def Gives (l : Bs) (w : World) (e : Ending) (w' : World) : Prop := ∃ v, e = .returned v ∧ Own w.heap.size w' v l ∧ Below w.heap.size w w'

/-- w' is w but for blocks of M, and new ones. -/
structure Kept (M : Nat → Prop) (w w' : World) : Prop where
  os : w'.os = w.os
  tape : w'.tape = w.tape
  output : w'.output = w.output
  size : w.heap.size ≤ w'.heap.size
  block : ∀ b, b < w.heap.size → ¬ M b → w'.heap[b]? = w.heap[b]?
theorem Kept.refl (M : Nat → Prop) (w : World) : Kept M w w := ⟨rfl, rfl, rfl, Nat.le_refl _, fun _ _ _ => rfl⟩
theorem Kept.step {M M1 : Nat → Prop} {w w1 w2 : World} (h : Kept M w w1) (k : Kept M1 w1 w2) (hm : ∀ b, b < w.heap.size → M1 b → M b) : Kept M w w2 :=
  ⟨k.os.trans h.os, k.tape.trans h.tape, k.output.trans h.output, Nat.le_trans h.size k.size, fun b hb hn => (k.block b (Nat.lt_of_lt_of_le hb h.size) (fun e => hn (hm b hb e))).trans (h.block b hb hn)⟩
theorem Kept.trans {M : Nat → Prop} {w w1 w2 : World} (h : Kept M w w1) (k : Kept M w1 w2) : Kept M w w2 := h.step k fun _ _ e => e
theorem Kept.mono {M M' : Nat → Prop} {w w1 : World} (h : Kept M w w1) (hm : ∀ b, b < w.heap.size → M b → M' b) : Kept M' w w1 := ⟨h.os, h.tape, h.output, h.size, fun b hb hn => h.block b hb (fun e => hn (hm b hb e))⟩
theorem Kept.below {M : Nat → Prop} {w w1 : World} (h : Kept M w w1) {B : Nat} (hB : B ≤ w.heap.size) (hm : ∀ b, M b → B ≤ b) : Below B w w1 := ⟨h.os, h.tape, h.output, h.size, fun b hb => h.block b (Nat.lt_of_lt_of_le hb hB) (fun e => Nat.not_lt_of_le (hm b e) hb)⟩
theorem Kept.of_below {M : Nat → Prop} {w w1 : World} (h : Below w.heap.size w w1) : Kept M w w1 := ⟨h.os, h.tape, h.output, h.size, fun b hb _ => h.block b hb⟩
theorem Kept.of_grown {M : Nat → Prop} {w w1 : World} {r : Option Nat} (h : w.grownBy w1 r) (hr : ∀ k, r = some k → k < w.heap.size → M k) : Kept M w w1 := ⟨h.os, h.tape, h.output, h.size, fun b hb hn => h.block b hb (fun e => hn (hr b e.symm hb))⟩
theorem Kept.alloc {M : Nat → Prop} {w w1 : World} (h : Kept M w w1) (o : Obj) : Kept M w (w1.alloc o) := h.step (M1 := M) (Kept.of_below ((Below.refl _ _).alloc (Nat.le_refl _) o)) (fun _ _ e => e)
theorem Kept.drew {M : Nat → Prop} {w w1 : World} (h : Kept M w w1) : Kept M w w1.drew := ⟨h.os, h.tape, h.output, h.size, h.block⟩
theorem Kept.drewN {M : Nat → Prop} {w w1 : World} (h : Kept M w w1) (q : Nat) : Kept M w (w1.drewN q) := ⟨h.os, h.tape, h.output, h.size, h.block⟩
theorem Kept.setCell {M : Nat → Prop} {w w1 : World} (h : Kept M w w1) {p : Addr} (hp : p.block < w.heap.size → M p.block) (u : Value) : Kept M w (w1.setCell p u) :=
  h.step (M1 := fun b => b = p.block) ⟨rfl, rfl, rfl, by simp [World.setCell], fun b _ hn => Below.heap_setCell w1 p u b hn⟩ (fun b hb e => by subst e; exact hp hb)
theorem Kept.setRow {M : Nat → Prop} {w w1 : World} (h : Kept M w w1) {g : Nat} (hp : g < w.heap.size → M g) (cs : Array Value) : Kept M w (w1.setRow g cs) :=
  h.step (M1 := fun b => b = g) ⟨rfl, rfl, rfl, by simp [World.setRow], fun b _ hn => setRow_other w1 g b cs hn⟩ (fun b hb e => by subst e; exact hp hb)
theorem Kept.turned {M : Nat → Prop} {w w1 w2 : World} (h : Kept M w w1) {q : Nat} (ht : w1.mapTurned w2 q) (hp : q < w.heap.size → M q) : Kept M w w2 :=
  h.step (M1 := fun b => b = q) ⟨ht.grown.os, ht.grown.tape, ht.grown.output, ht.grown.size, fun b _ hn => turned_other ht hn⟩ (fun b hb e => by subst e; exact hp hb)
/-- Bytes that lie in blocks of S. -/
def LiesS (w : World) (S : Nat → Prop) (A : Option Addr) (l : List UInt8) : Prop :=
  0 < l.length → ∃ g o, A = some ⟨g, o, none⟩ ∧ S g ∧ ∀ j x, l[j]? = some x → w.cell? ⟨g, o + j, none⟩ = some (bv x)
theorem LiesS.keep {w w' : World} {S S' : Nat → Prop} {A : Option Addr} {l : List UInt8} (h : LiesS w S A l) (hb : ∀ b, S b → w'.heap[b]? = w.heap[b]?) (hs : ∀ b, S b → S' b) : LiesS w' S' A l := fun hn => by
  obtain ⟨g, o, e, hg, hc⟩ := h hn
  exact ⟨g, o, e, hs g hg, fun j x hx => (World.cell?_of_block (w := w) (hb g hg)).trans (hc j x hx)⟩
theorem LiesS.lies {w : World} {S : Nat → Prop} {A : Option Addr} {l : List UInt8} (h : LiesS w S A l) {B : Nat} (hB : ∀ b, S b → b < B) : Lies w B A l := fun hn => by
  obtain ⟨g, o, e, hg, hc⟩ := h hn
  exact ⟨g, o, e, hB g hg, hc⟩
theorem LiesS.of {w : World} {B : Nat} {A : Option Addr} {l : List UInt8} (h : Lies w B A l) : LiesS w (fun b => b < B) A l := h
theorem LiesS.own {base : Nat} {w : World} {A : Option Addr} {n c : Nat} {l : List UInt8} (h : Own base w (.slice A n c) l) : LiesS w (fun b => base ≤ b ∧ b < w.heap.size) A l := fun hn => by
  obtain ⟨A', c', e, _, _, _, hr, hb⟩ := h.form
  simp only [Value.slice.injEq] at e
  obtain ⟨rfl, rfl, rfl⟩ := e
  obtain ⟨g, o, rfl, hg, hc⟩ := hr hn
  obtain ⟨g', e', hb1, hb2, _⟩ := own_head h hn
  injection e' with e'
  injection e' with e1 e2
  subst e1 e2
  exact ⟨_, _, rfl, ⟨hb1, hb2⟩, hc⟩

/-- The pieces of a file of which byte j is f j. -/
def pieceF (f : Nat → UInt8) (i : Nat) : List Value := (List.range 256).map fun j => bv (f (256 * i + j))
theorem pieceF_length (f : Nat → UInt8) (i : Nat) : (pieceF f i).length = 256 := by simp [pieceF]
theorem pieceF_get (f : Nat → UInt8) (i j : Nat) (h : j < 256) : (pieceF f i)[j]? = some (bv (f (256 * i + j))) := by simp [pieceF, h]
theorem pieceF_one (f : Nat → UInt8) (i : Nat) : (pieceF f i).toArray.all (·.oneCell') = true := by
  rw [Array.all_eq_true_iff_forall_mem]
  intro v hv
  simp only [pieceF, List.mem_toArray, List.mem_map] at hv
  obtain ⟨j, _, rfl⟩ := hv
  rfl
theorem pieceF_congr {f g : Nat → UInt8} {i : Nat} (h : ∀ j, j < 256 → f (256 * i + j) = g (256 * i + j)) : pieceF f i = pieceF g i := by
  unfold pieceF
  apply List.map_congr_left
  intro j hj
  rw [h j (List.mem_range.1 hj)]
theorem pieceF_zero {f : Nat → UInt8} {i : Nat} (h : ∀ j, j < 256 → f (256 * i + j) = 0) : (pieceF f i).toArray = zeroP := by
  apply Array.ext'
  show pieceF f i = (Array.replicate 256 (.int .u8 0)).toList
  rw [Array.toList_replicate]
  apply List.ext_getElem?
  intro j
  by_cases hj : j < 256
  · rw [pieceF_get f i j hj, List.getElem?_replicate, if_pos hj, h j hj]; rfl
  · rw [List.getElem?_eq_none (by rw [pieceF_length]; omega), List.getElem?_replicate, if_neg hj]
def pkey (i : Nat) : Lit := .int .i64 (i : Int)
/-- What the map of pieces answers. -/
def PcSays (get : Lit → Option Value) (f : Nat → UInt8) (L : Nat) : Prop :=
  (∀ l v, WideAt.IsKeyLit l → get l = some v → ∃ i : Nat, l = pkey i ∧ 256 * i < L ∧ v = .agg (pieceF f i).toArray) ∧ ∀ i, get (pkey i) = none → ∀ j, j < 256 → f (256 * i + j) = 0
/-- Block q is the map of the pieces of a file of less than L bytes. -/
def PcAt (w : World) (q : Nat) (f : Nat → UInt8) (L : Nat) : Prop := ∃ get n, MapIs Try.prog tInt w q get n ∧ PcSays get f L
theorem PcAt.keep {w w' : World} {q L : Nat} {f : Nat → UInt8} (h : PcAt w q f L) (hb : w'.heap[q]? = w.heap[q]?) : PcAt w' q f L := by
  obtain ⟨get, n, h1, h2⟩ := h
  exact ⟨get, n, h1.keep hb, h2⟩
theorem PcAt.lt {w : World} {q L : Nat} {f : Nat → UInt8} (h : PcAt w q f L) : q < w.heap.size := by
  obtain ⟨get, n, h1, _⟩ := h
  exact h1.lt
theorem PcAt.congr {w : World} {q L L' : Nat} {f g : Nat → UInt8} (h : PcAt w q f L) (hL : L ≤ L') (e : ∀ j, f j = g j) : PcAt w q g L' := by
  obtain ⟨get, n, h1, h2, h3⟩ := h
  refine ⟨get, n, h1, fun l v hl hv => ?_, fun i hi j hj => by rw [← e]; exact h3 i hi j hj⟩
  obtain ⟨i, r1, r2, r3⟩ := h2 l v hl hv
  exact ⟨i, r1, by omega, by rw [r3, pieceF_congr (fun j _ => e _)]⟩
theorem pkey_same {i j : Nat} : (pkey i).sameKey (pkey j) = decide (i = j) := by
  simp [pkey, Lit.sameKey]
  omega
/-- There are no more pieces than bytes. -/
theorem pc_small {w : World} {q n L : Nat} {get : Lit → Option Value} (h : MapIs Try.prog tInt w q get n) (hk : ∀ l v, WideAt.IsKeyLit l → get l = some v → ∃ i : Nat, l = pkey i ∧ 256 * i < L) : n ≤ L := by
  obtain ⟨D, h1, h2, h3⟩ := h
  obtain ⟨es, rfl, hp, hkey⟩ := World.ownsMap.entries h1 keyI
  have hin : ∀ p ∈ es, ∃ i : Nat, p.1 = pkey i ∧ 256 * i < L := by
    intro p hp
    have hs := (h3 p.1 (hkey p hp)).1
    have hh : Maps.has (DataW.map es) p.1 = true := List.any_eq_true.2 ⟨p, hp, WideAt.sameKey_self (hkey p hp)⟩
    rw [hh] at hs
    obtain ⟨v, hv⟩ := Option.isSome_iff_exists.1 hs.symm
    exact hk p.1 v (hkey p hp) hv
  have hl : (es.map fun p => match p.1 with | .int _ z => z.toNat | _ => 0).length ≤ L := by
    apply pigeon
    · rw [List.Nodup, List.pairwise_map]
      refine List.Pairwise.imp_of_mem (fun {a b} ha hb hab => ?_) hp
      obtain ⟨i, hi, _⟩ := hin a ha
      obtain ⟨j, hj, _⟩ := hin b hb
      rw [hi, hj] at hab ⊢
      simp only [pkey, Int.toNat_natCast]
      exact fun e => hab (by rw [e])
    · intro x hx
      obtain ⟨p, hp, rfl⟩ := List.mem_map.1 hx
      obtain ⟨i, hi, hl⟩ := hin p hp
      rw [hi]
      simp only [pkey, Int.toNat_natCast]
      omega
  rw [List.length_map] at hl
  rw [← h2]
  exact hl
/-- A file's bytes, in pieces. -/
def FileAt (w : World) (mb : Option Nat) (b : Bs) : Prop :=
  match mb with
  | none => ∀ j, b.getD j 0 = 0
  | some q => PcAt w q (fun j => b.getD j 0) b.length
theorem FileAt.keep {w w' : World} {mb : Option Nat} {b : Bs} (h : FileAt w mb b) (hb : ∀ q, mb = some q → w'.heap[q]? = w.heap[q]?) : FileAt w' mb b := by
  cases mb with
  | none => exact h
  | some q => exact PcAt.keep h (hb q rfl)
theorem FileAt.lt {w : World} {q : Nat} {b : Bs} (h : FileAt w (some q) b) : q < w.heap.size := PcAt.lt h
def fileV (b : Bs) (mb : Option Nat) : Value := .agg #[.int .i64 (b.length : Nat), .map mb]
/-- What a map of files answers. -/
def fsGet (F : Fs) (pb : Bs → Option Nat) : Lit → Option Value
  | .string n => (fget F n).map fun b => fileV b (pb n)
  | _ => none
/-- Files in memory: a map at bm, each file's pieces at pb of its name; the blocks are all different ones. -/
structure FilesAt (w : World) (bm : Option Nat) (F : Fs) (pb : Bs → Option Nat) : Prop where
  none : bm = none → F = []
  map : ∀ q, bm = some q → MapIs Try.prog tStr w q (fsGet F pb) F.length
  file : ∀ n b, fget F n = some b → FileAt w (pb n) b
  apart : ∀ n m b c q, fget F n = some b → fget F m = some c → pb n = some q → pb m = some q → n = m
  own : ∀ n b q, fget F n = some b → pb n = some q → bm ≠ some q
/-- The blocks of files. -/
def foot (bm : Option Nat) (F : Fs) (pb : Bs → Option Nat) (q : Nat) : Prop := bm = some q ∨ ∃ n b, fget F n = some b ∧ pb n = some q
theorem FilesAt.keep {w w' : World} {bm : Option Nat} {F : Fs} {pb : Bs → Option Nat} (h : FilesAt w bm F pb) (hb : ∀ q, foot bm F pb q → w'.heap[q]? = w.heap[q]?) : FilesAt w' bm F pb :=
  ⟨h.none, fun q hq => (h.map q hq).keep (hb q (.inl hq)), fun n b hn => (h.file n b hn).keep (fun q hq => hb q (.inr ⟨n, b, hn, hq⟩)), h.apart, h.own⟩
theorem FilesAt.lt {w : World} {bm : Option Nat} {F : Fs} {pb : Bs → Option Nat} (h : FilesAt w bm F pb) {q : Nat} (hq : foot bm F pb q) : q < w.heap.size := by
  rcases hq with hq | ⟨n, b, hn, hq⟩
  · exact (h.map q hq).lt
  · have := h.file n b hn
    rw [hq] at this
    exact FileAt.lt this
end Go.Proofs.Ytolomblbcljdfaa.Dk
