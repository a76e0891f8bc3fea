/- Package wal: segments as plain data and in memory; next, start, size, as contracts of calls. -/
import Derived.Test.YtnjifhbooikdbaaGreatDoorDkH
import Derived.Deep.RegionHeld3
namespace Go.Proofs.YtnjifhbooikdbaaGreatDoor.Wa
open Go.RowKit Go.Maps By Mp Dk

abbrev tLog : TypeId := 49
abbrev tSeg : TypeId := 59
abbrev tSegs : TypeId := 47
abbrev tLab : TypeId := 56
abbrev tInts : TypeId := 57
/-- A segment. -/
structure Seg where
  era : Nat
  first : Nat
  base : Bool
  ends : List Nat
def Seg.next (s : Seg) : Nat := s.first + s.ends.length
def Seg.start (s : Seg) (i : Nat) : Nat := if i = s.first then 0 else s.ends[i - s.first - 1]?.getD 0
def Seg.size (s : Seg) : Nat := s.start s.next
/-- Its cells; itself as a value. -/
abbrev segC (s : Seg) (A : Option Addr) (c : Nat) : Array Value := #[.int .u64 (s.era : Nat), .int .u64 (s.first : Nat), .bool s.base, .slice A s.ends.length c]
abbrev segV (s : Seg) (A : Option Addr) (c : Nat) : Value := .agg (segC s A c)
/-- Numbers in memory. -/
def LiesI (w : World) (B : Nat) (A : Option Addr) (l : List Nat) : Prop := 0 < l.length → ∃ g o, A = some ⟨g, o, none⟩ ∧ g < B ∧ ∀ j x, l[j]? = some x → w.cell? ⟨g, o + j, none⟩ = some (.int .i64 (x : Nat))
theorem LiesI.keep {w w' : World} {B : Nat} {A : Option Addr} {l : List Nat} (h : LiesI w B A l) (hk : ∀ b, b < B → w'.heap[b]? = w.heap[b]?) : LiesI w' B A l := fun hn => by
  obtain ⟨g, o, e, hg, hc⟩ := h hn
  exact ⟨g, o, e, hg, fun j x hx => (World.cell?_of_block (w := w) (hk g hg)).trans (hc j x hx)⟩
theorem LiesI.more {w : World} {B B' : Nat} {A : Option Addr} {l : List Nat} (h : LiesI w B A l) (hB : B ≤ B') : LiesI w B' A l := fun hn => by
  obtain ⟨g, o, e, hg, hc⟩ := h hn
  exact ⟨g, o, e, Nat.lt_of_lt_of_le hg hB, hc⟩
theorem LiesI.below {w w' : World} {B : Nat} {A : Option Addr} {l : List Nat} (h : LiesI w B A l) (hb : Below B w w') : LiesI w' B A l := h.keep fun b hb' => hb.block b hb'
set_option maxHeartbeats 400000 in
theorem seg_next_any (s : Seg) (A : Option Addr) (c : Nat) (w : World) (h : s.next < 18446744073709551616) (hl : s.ends.length ≤ 9223372036854775807) : Calls Tryz.prog 22 #[segV s A c] w (RetB (.int .u64 (s.next : Nat)) w) := by
  obtain ⟨era, first, base, ends⟩ := s
  unfold Seg.next at h ⊢
  dsimp only [segV, segC] at h hl ⊢
  go_enter Tryz.func22, Tryz.ntmps22
  go_wp2
  go_ret
  exact ⟨rfl, (Below.refl _ _).alloc (Nat.le_refl _) _⟩
set_option maxHeartbeats 400000 in
theorem seg_start_any (s : Seg) (A : Option Addr) (c i : Nat) (w : World) (h1 : s.first ≤ i) (h2 : i ≤ s.next) (h : s.next < 18446744073709551616) (hl : s.ends.length ≤ 9223372036854775807) (he : LiesI w w.heap.size A s.ends) : Calls Tryz.prog 31 #[segV s A c, .int .u64 (i : Nat)] w (RetB (.int .i64 (s.start i : Nat)) w) := by
  obtain ⟨era, first, base, ends⟩ := s
  unfold Seg.next at h h2
  unfold Seg.start
  dsimp only [segV, segC] at h1 h2 h hl he ⊢
  by_cases hi : i = first
  · subst hi
    rw [if_pos rfl]
    go_enter Tryz.func31, Tryz.ntmps31
    go_wp2
    go_ret
    exact ⟨rfl, (Below.refl _ _).alloc (Nat.le_refl _) _⟩
  · rw [if_neg hi]
    obtain ⟨g, o, rfl, hg, hc⟩ := he (by omega)
    obtain ⟨k, hk⟩ : ∃ k, k = i - first - 1 := ⟨_, rfl⟩
    have hkl : k < ends.length := by omega
    have hx := hc k ends[k] (List.getElem?_eq_getElem hkl)
    rw [← hk, List.getElem?_eq_getElem hkl, Option.getD_some]
    obtain ⟨x, hx'⟩ : ∃ x, x = ends[k] := ⟨_, rfl⟩
    rw [← hx'] at hx ⊢
    obtain rfl : i = first + 1 + k := by omega
    have hxa : (w.alloc (.cells #[.int .u64 (era : Nat), .int .u64 (first : Nat), .bool base, .slice (some ⟨g, o, none⟩) ends.length c] 59)).cell? ⟨g, o + k, none⟩ = some (.int .i64 (x : Nat)) := (World.cell?_alloc_lt w _ ⟨g, o + k, none⟩ hg).trans hx
    rw [show o + k = o + (first + 1 + k - first - 1) by omega] at hxa
    clear hc hk hx' hx
    go_enter Tryz.func31, Tryz.ntmps31
    go_wp2
    go_ret
    exact ⟨rfl, (Below.refl _ _).alloc (Nat.le_refl _) _⟩
/-- Behind a box of a segment: its cells in all later worlds. -/
theorem box_cells {w1 w' : World} {g : Nat} {s : Seg} {A : Option Addr} {c : Nat} (h : w1.heap[g]? = some (.cells (segC s A c) tSeg (0, 0))) (hb : Below w1.heap.size w1 w') : w'.cell? ⟨g, 0, none⟩ = some (.int .u64 (s.era : Nat)) ∧ w'.cell? ⟨g, 1, none⟩ = some (.int .u64 (s.first : Nat)) ∧ w'.cell? ⟨g, 2, none⟩ = some (.bool s.base) ∧ w'.cell? ⟨g, 3, none⟩ = some (.slice A s.ends.length c) := by
  have h' := (hb.block g (row_lt h)).trans h
  exact ⟨by rw [cell_of_row w' g 0 _ _ _ h']; rfl, by rw [cell_of_row w' g 1 _ _ _ h']; rfl, by rw [cell_of_row w' g 2 _ _ _ h']; rfl, by rw [cell_of_row w' g 3 _ _ _ h']; rfl⟩
set_option maxHeartbeats 1000000 in
theorem seg_size_any (s : Seg) (A : Option Addr) (c : Nat) (w : World) (h : s.next < 18446744073709551616) (hl : s.ends.length ≤ 9223372036854775807) (he : LiesI w w.heap.size A s.ends) : Calls Tryz.prog 21 #[segV s A c] w (RetB (.int .i64 (s.size : Nat)) w) := by
  unfold Seg.size
  have hst : ∀ w', Below w.heap.size w w' → Calls Tryz.prog 31 #[segV s A c, .int .u64 (s.next : Nat)] w' (RetB (.int .i64 (s.start s.next : Nat)) w') := fun w' hb => seg_start_any s A c s.next w' (Nat.le_add_right _ _) (Nat.le_refl _) h hl ((he.below hb).more hb.size)
  have hnx : ∀ w', Calls Tryz.prog 22 #[segV s A c] w' (RetB (.int .u64 (s.next : Nat)) w') := fun w' => seg_next_any s A c w' h hl
  have hrow := heap_alloc_new w (.cells (segC s A c) tSeg)
  have hb1 : Below w.heap.size w (w.alloc (.cells (segC s A c) tSeg)) := (Below.refl _ _).alloc (Nat.le_refl _) _
  obtain ⟨w1, hw1⟩ : ∃ w1, w1 = w.alloc (.cells (segC s A c) tSeg) := ⟨_, rfl⟩
  rw [← hw1] at hrow hb1
  have HALL := Lib.hid (fun (w' : World) (hb : Below w1.heap.size w1 w') => box_cells hrow hb)
  have HST := Lib.hid hst
  have HNX := Lib.hid hnx
  have HB1 := Lib.hid hb1
  have HW1 := Lib.hid hw1
  obtain ⟨n, hn⟩ : ∃ n, n = s.next := ⟨_, rfl⟩
  obtain ⟨z, hz⟩ : ∃ z, z = s.start s.next := ⟨_, rfl⟩
  rw [← hn] at hz HST HNX ⊢
  rw [← hz] at HST ⊢
  clear hst hnx hrow hb1 h hl he hn hz
  obtain ⟨era, first, base, ends⟩ := s
  dsimp only [segV, segC] at HALL HST HNX HW1 ⊢
  go_enter Tryz.func21, Tryz.ntmps21
  go_upto_region 1 with fail
  rw [← HW1.out]
  clear hw1 HW1
  go_region_held3 (fun w' => w'.cell? ⟨w.heap.size, 0, none⟩ = some (.int .u64 (era : Nat)) ∧ w'.cell? ⟨w.heap.size, 1, none⟩ = some (.int .u64 (first : Nat)) ∧ w'.cell? ⟨w.heap.size, 2, none⟩ = some (.bool base) ∧ w'.cell? ⟨w.heap.size, 3, none⟩ = some (.slice A ends.length c))
    (first
      | with_reducible assumption
      | exact HALL.out _ (Below.refl _ _)
      | exact HALL.out _ (Below.refl _ _).drew
      | exact HALL.out _ HB2.out
      | exact HALL.out _ HB4.out)
    (first
      | (go_at_call 22; refine (HNX.out _).mono ?_; rintro e w2 ⟨rfl, hb2⟩
         have HB2 := Lib.hid (show Below w1.heap.size w1 w2 from By.ext (Below.refl _ _).drew hb2)
         clear hb2)
      | (go_at_call 31; refine (HST.out _ (By.ext HB1.out HB2.out)).mono ?_; rintro e w3 ⟨rfl, hb3⟩
         have HB3 := Lib.hid (By.ext (By.ext HB1.out HB2.out) hb3)
         have HB4 := Lib.hid (By.ext HB2.out hb3)
         clear hb3))
  go_wp2
  go_ret
  exact ⟨rfl, HB3.out⟩
end Go.Proofs.YtnjifhbooikdbaaGreatDoor.Wa
