/- Package disk's Copy, as a contract of a call. -/
import Derived.Test.YtnjifhbooikdbaaGreatDoorDkZ
namespace Go.Proofs.YtnjifhbooikdbaaGreatDoor.Dk
open Go.RowKit Go.Maps By Mp

/-- A copy of files was made, above w's memory, in the world wx. -/
def GotF (w wx : World) (F : Fs) (bm : Option Nat) (pb : Bs → Option Nat) : Prop := FilesAt wx bm F pb ∧ ∀ q, foot bm F pb q → w.heap.size ≤ q
theorem GotF.below {w wx wy : World} {F : Fs} {bm : Option Nat} {pb : Bs → Option Nat} (h : GotF w wx F bm pb) (hb : Below wx.heap.size wx wy) : GotF w wy F bm pb := ⟨h.1.keep (fun q hq => hb.block q (h.1.lt hq)), h.2⟩
def GotW (w wx : World) (v : Value) (l : List W1) : Prop := WsAt wx w.heap.size (fun b => w.heap.size ≤ b ∧ b < wx.heap.size ∧ U8 wx b) v l
theorem GotW.below {w wx wy : World} {v : Value} {l : List W1} (h : GotW w wx v l) (hb : Below wx.heap.size wx wy) : GotW w wy v l := by
  unfold GotW at h ⊢
  refine h.keep (fun b hv => ?_) (fun b hs => hb.block b hs.2.1) (fun b hs => ⟨hs.1, Nat.lt_of_lt_of_le hs.2.1 hb.size, u8_keep hs.2.2 (hb.block b hs.2.1)⟩)
  obtain ⟨ac, _, ho, _⟩ := h
  exact hb.block b (ownsRow_lt ho hv).2
theorem gotF_new {w wa wx : World} {F : Fs} {bm : Option Nat} {pb : Bs → Option Nat} (hb : Below w.heap.size w wa) (hf : FilesAt wx bm F pb) (hft : ∀ q, foot bm F pb q → wa.heap.size ≤ q) : GotF w wx F bm pb := ⟨hf, fun q hq => Nat.le_trans hb.size (hft q hq)⟩
theorem gotW_new {w wa wx : World} {v : Value} {l : List W1} (hb : Below w.heap.size w wa) (h : WsAt wx wa.heap.size (New8 wa wx) v l) : GotW w wx v l := by
  obtain ⟨ac, h1, h2, h3⟩ := h
  have h0 : WsAt wx w.heap.size (New8 wa wx) v l := ⟨ac, h1, ownsRow_base h2 hb.size, h3⟩
  exact h0.keep (fun _ _ => rfl) (fun _ _ => rfl) (fun b hs => ⟨Nat.le_trans hb.size hs.1, hs.2.1, hs.2.2⟩)
/-- Gives a disk of the call's own that is s. -/
def GivesC (s : DS) (w : World) (e : Ending) (w' : World) : Prop := ∃ (g : Nat) (S : Nat → Prop), e = .returned (.pointer (some ⟨g, 0, none⟩)) ∧ DiskAt w' g s S ∧ (∀ b, S b → w.heap.size ≤ b) ∧ Below w.heap.size w w'
theorem copied {w wx : World} {s : DS} {bm sm : Option Nat} {pb ps : Bs → Option Nat} {v : Value} (hok : s.Ok) (hb : Below w.heap.size w wx) (h1 : GotF w wx s.files bm pb) (h2 : GotF w wx s.sure sm ps) (h3 : GotW w wx v s.unsure) (hsep : ∀ q, foot bm s.files pb q → foot sm s.sure ps q → False) :
    GivesC s w (.returned (.pointer (some ⟨wx.heap.size, 0, none⟩))) (wx.alloc (.cells (diskC bm (fsize s.files) sm (fsize s.sure) v s.room s.fuse s.down) tDisk)) := by
  have hz := hb.size
  have hold : ∀ b, b < wx.heap.size → (wx.alloc (.cells (diskC bm (fsize s.files) sm (fsize s.sure) v s.room s.fuse s.down) tDisk)).heap[b]? = wx.heap[b]? := fun b hb => heap_alloc_old _ _ hb
  have hzz : (wx.alloc (.cells (diskC bm (fsize s.files) sm (fsize s.sure) v s.room s.fuse s.down) tDisk)).heap.size = wx.heap.size + 1 := World.size_alloc _ _
  obtain ⟨ac, ha, ho, hd⟩ := h3
  have hvb : ∀ b, v.ownBlock = some b → w.heap.size ≤ b ∧ b < wx.heap.size := fun b hb => ownsRow_lt ho hb
  refine ⟨wx.heap.size, fun b => w.heap.size ≤ b ∧ b < wx.heap.size + 1, rfl, ⟨bm, sm, pb, ps, v, ⟨heap_alloc_new wx _, ?_, ?_, ?_, hsep, ⟨hz, by omega⟩, ?_, ?_, ?_, ?_, hok⟩⟩, fun b hb => hb.1, hb.alloc hz _⟩
  · exact h1.1.keep (fun q hq => hold q (h1.1.lt hq))
  · exact h2.1.keep (fun q hq => hold q (h2.1.lt hq))
  · have h0 : WsAt wx 0 (fun b => w.heap.size ≤ b ∧ b < wx.heap.size ∧ U8 wx b) v s.unsure := ⟨ac, ha, ownsRow_base ho (Nat.zero_le _), hd⟩
    exact h0.keep (fun b hb => hold b (hvb b hb).2) (fun b hs => hold b hs.2.1) (fun b hs => ⟨⟨hs.1, by omega⟩, u8_keep hs.2.2 (hold b hs.2.1)⟩)
  · intro q hq
    have := h1.1.lt hq
    exact ⟨h1.2 q hq, by omega⟩
  · intro q hq
    have := h2.1.lt hq
    exact ⟨h2.2 q hq, by omega⟩
  · intro b hb
    have := hvb b hb
    exact ⟨this.1, by omega⟩
  · intro b hb
    rw [hzz]; exact hb.2
end Go.Proofs.YtnjifhbooikdbaaGreatDoor.Dk
