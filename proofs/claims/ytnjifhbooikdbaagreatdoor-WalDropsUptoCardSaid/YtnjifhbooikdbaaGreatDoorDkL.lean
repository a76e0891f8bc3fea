/- A disk in memory behind a change's last step; no walk. -/
import Derived.Test.YtnjifhbooikdbaaGreatDoorDkJ
namespace Go.Proofs.YtnjifhbooikdbaaGreatDoor.Dk
open Go.RowKit Go.Maps By Mp

theorem files_snoc (s : DS) (x : W1) : ({ s with unsure := s.unsure ++ [x] } : DS).files = doW s.files x := by
  unfold DS.files
  rw [List.foldl_append]
  rfl
theorem ok_snoc {s : DS} {x : W1} (h : s.Ok) (hx : OkW x) : ({ s with unsure := s.unsure ++ [x] } : DS).Ok :=
  ⟨h.up, h.fit, fun y hy => by
    rcases List.mem_append.1 hy with hy | hy
    · exact h.un y hy
    · rw [List.mem_singleton.1 hy]; exact hx, h.room, h.fuse⟩
/-- A block of bytes is none of a disk's own kinds. -/
theorem u8_foot {w : World} {bm : Option Nat} {F : Fs} {pb : Bs → Option Nat} (h : FilesAt w bm F pb) {b : Nat} (hb : U8 w b) : ¬ foot bm F pb b := fun hq => by
  obtain ⟨cs, fr, he⟩ := hb
  exact foot_map h hq he
theorem change_end {w w5 w6 : World} {g : Nat} {s : DS} {S : Nat → Prop} {bm sm : Option Nat} {pb ps : Bs → Option Nat} {v5 : Value} {x : W1} (hx : OkW x) (hok : s.Ok) (hlt : ∀ b, S b → b < w.heap.size) (hsg : S g) (hsc : ∀ q, foot bm s.files pb q → S q) (hss : ∀ q, foot sm s.sure ps q → S q)
    (hsep : ∀ q, foot bm s.files pb q → foot sm s.sure ps q → False)
    (hr5 : w5.heap[g]? = some (.cells (diskC bm (fsize s.files) sm (fsize s.sure) v5 s.room s.fuse s.down) tDisk (0, 0))) (hu5 : WsAt w5 0 (fun b => (S b ∨ w.heap.size ≤ b) ∧ U8 w5 b) v5 (s.unsure ++ [x])) (hv5 : ∀ b, v5.ownBlock = some b → S b ∨ w.heap.size ≤ b)
    (hf5 : FilesAt w5 bm s.files pb) (hs5 : FilesAt w5 sm s.sure ps) (hk5 : Kept S w w5) (hdo : DidDo g 0 (diskC bm (fsize s.files) sm (fsize s.sure) v5 s.room s.fuse s.down) tDisk bm s.files pb x w5.drew w6) :
    DStep (.int .i64 0) g { s with unsure := s.unsure ++ [x] } S w (.returned (.int .i64 0)) w6 := by
  obtain ⟨bm', pb', hrow6, hf6, hft6, hk6⟩ := hdo
  have hz5 : w5.heap.size ≤ w6.heap.size := hk6.size
  have hz0 : w.heap.size ≤ w5.heap.size := hk5.size
  have hkeep : ∀ b, b < w5.heap.size → b ≠ g → ¬ foot bm s.files pb b → w6.heap[b]? = w5.heap[b]? := fun b hb h1 h2 => hk6.block b hb (fun e => e.elim h1 h2)
  have hsne : ∀ q, foot sm s.sure ps q → q ≠ g := fun q hq e => foot_map hs5 hq (e ▸ hr5)
  obtain ⟨ac, hac1, hac2, hac3⟩ := hu5
  have hv5ty : ∀ b, v5.ownBlock = some b → ∃ cur, w5.heap[b]? = some (.cells cur tWrite (0, 0)) := fun b hb => ownsRow_type hac2 hb
  have hvb : ∀ b, v5.ownBlock = some b → b < w5.heap.size ∧ b ≠ g ∧ ¬ foot bm s.files pb b := fun b hb => by
    obtain ⟨cur, hc⟩ := hv5ty b hb
    refine ⟨row_lt hc, fun e => ?_, fun hq => foot_map hf5 hq hc⟩
    rw [e, hr5] at hc
    injection hc with hc
    injection hc with _ hc
    exact tDisk_neW hc
  have h8 : ∀ b, U8 w5 b → b < w5.heap.size ∧ b ≠ g ∧ ¬ foot bm s.files pb b := fun b hb => by
    refine ⟨?_, fun e => ?_, u8_foot hf5 hb⟩
    · obtain ⟨cs, fr, he⟩ := hb; exact row_lt he
    · obtain ⟨cs, fr, he⟩ := hb
      rw [e, hr5] at he
      injection he with he
      injection he with _ he
      exact tDisk_ne8 he
  refine ⟨rfl, fun b => S b ∨ (w.heap.size ≤ b ∧ b < w6.heap.size), ⟨bm', sm, pb', ps, v5, ⟨?_, ?_, ?_, ?_, ?_, ?_, ?_, ?_, ?_, ?_, ?_⟩⟩, ?_, ?_⟩
  · rw [files_snoc]; exact hrow6
  · rw [files_snoc]; exact hf6
  · exact hs5.keep (fun q hq => hkeep q (hs5.lt hq) (hsne q hq) (fun h => hsep q h hq))
  · have hu : WsAt w5 0 (fun b => (S b ∨ w.heap.size ≤ b) ∧ U8 w5 b) v5 (s.unsure ++ [x]) := ⟨ac, hac1, hac2, hac3⟩
    refine hu.keep (fun b hb => ?_) (fun b hb => ?_) (fun b hb => ⟨?_, ?_⟩)
    · obtain ⟨h1, h2, h3⟩ := hvb b hb
      exact hkeep b h1 h2 h3
    · obtain ⟨h1, h2, h3⟩ := h8 b hb.2
      exact hkeep b h1 h2 h3
    · rcases hb.1 with h | h
      · exact .inl h
      · exact .inr ⟨h, Nat.lt_of_lt_of_le (h8 b hb.2).1 hz5⟩
    · obtain ⟨h1, h2, h3⟩ := h8 b hb.2
      exact u8_keep hb.2 (hkeep b h1 h2 h3)
  · intro q hq hq2
    rw [files_snoc] at hq
    rcases hft6 q hq with h | h
    · exact hsep q h hq2
    · exact Nat.not_lt_of_le h (hs5.lt hq2)
  · exact .inl hsg
  · intro q hq
    rw [files_snoc] at hq
    rcases hft6 q hq with h | h
    · exact .inl (hsc q h)
    · exact .inr ⟨Nat.le_trans hz0 h, hf6.lt hq⟩
  · exact fun q hq => .inl (hss q hq)
  · intro b hb
    rcases hv5 b hb with h | h
    · exact .inl h
    · exact .inr ⟨h, Nat.lt_of_lt_of_le (hvb b hb).1 hz5⟩
  · rintro b (h | h)
    · exact Nat.lt_of_lt_of_le (hlt b h) (Nat.le_trans hz0 hz5)
    · exact h.2
  · exact ok_snoc hok hx
  · rintro b (h | h)
    · exact .inl h
    · exact .inr h.1
  · refine (hk5.drew).step hk6 ?_
    rintro b _ (h | h)
    · exact h ▸ hsg
    · exact hsc b h
end Go.Proofs.YtnjifhbooikdbaaGreatDoor.Dk
