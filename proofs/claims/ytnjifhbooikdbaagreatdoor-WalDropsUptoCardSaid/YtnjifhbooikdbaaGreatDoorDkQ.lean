/- Package disk's files.clone, as a contract of a call: the walk. -/
import Derived.Test.YtnjifhbooikdbaaGreatDoorDkO
import Derived.Deep.RegionHeld3
namespace Go.Proofs.YtnjifhbooikdbaaGreatDoor.Dk
open Go.RowKit Go.Maps By Mp

abbrev tFiles : TypeId := 43
/-- Behind some rounds of the copying. -/
def CloneMid (q qn gb g0 r : Nat) (F : Fs) (pb : Bs → Option Nat) (w wr : World) : Prop := ∃ (left : Lit → Bool) (lc : Nat) (pb' : Bs → Option Nat), RangeIs Tryz.prog tStr wr q r (fsGet F pb) F.length left lc ∧ FilesAt wr (some qn) (doneF left F) pb' ∧ (∀ b, foot (some qn) (doneF left F) pb' b → w.heap.size ≤ b) ∧
  wr.heap[gb]? = some (.cells #[.map (some qn), .int .i64 (fsize F : Nat)] tFiles (0, 0)) ∧ wr.heap[g0]? = some (.cells #[.map none, .int .i64 0] tFiles (0, 0)) ∧ Below w.heap.size w wr
theorem emptyAt {w : World} {q : Nat} (h : MapIs Tryz.prog tStr w q (fun _ => none) 0) (pb : Bs → Option Nat) : FilesAt w (some q) [] pb :=
  ⟨fun e => (by cases e), fun q' e => by injection e with e; subst e; exact h.same (fun l hl => by cases l <;> rfl), fun n b h => (by cases h), fun n m b c q h => (by cases h), fun n b q h => (by cases h)⟩
theorem emptyFoot {q b : Nat} {pb : Bs → Option Nat} (h : foot (some q) [] pb b) : b = q := by
  rcases h with h | ⟨n, c, h, _⟩
  · injection h with h; exact h.symm
  · cases h
theorem foot_obj {w : World} {bm : Option Nat} {F : Fs} {pb : Bs → Option Nat} (h : FilesAt w bm F pb) {q : Nat} (hq : foot bm F pb q) : ∃ es c, w.heap[q]? = some (.map es c) := by
  rcases hq with hq | ⟨n, b, hn, hq⟩
  · obtain ⟨D, ⟨es, clock, hb, _⟩, _⟩ := h.map q hq
    exact ⟨_, _, hb⟩
  · have := h.file n b hn
    rw [hq] at this
    obtain ⟨get, m, ⟨D, ⟨es, clock, hb, _⟩, _⟩, _⟩ := this
    exact ⟨_, _, hb⟩
set_option maxRecDepth 100000 in
theorem keyName {n x : Bs} (h : keyOf Tryz.prog tStr (.string (str x)) = some (.string n)) : x = n := by
  obtain ⟨s, h1, h2, _⟩ := WideMaps.string_of_keyOf Tryz.underlying9 h
  injection h1 with h1
  injection h2 with h2
  rw [h2, ← h1]; rfl
theorem fsKey {F : Fs} {pb : Bs → Option Nat} {kl : Lit} {v : Value} (h : fsGet F pb kl = some v) : ∃ n b, kl = .string n ∧ fget F n = some b ∧ v = fileV b (pb n) := by
  cases kl with
  | string n =>
    simp only [fsGet, Option.map_eq_some_iff] at h
    obtain ⟨b, h1, h2⟩ := h
    exact ⟨n, b, rfl, h1, h2.symm⟩
  | _ => cases h
end Go.Proofs.YtnjifhbooikdbaaGreatDoor.Dk
