/- Package disk's Copy, as a contract of a call. -/
import Derived.Test.YtcfnfphnjkllcaaDkZ
namespace Go.Proofs.Ytcfnfphnjkllcaa.Dk
open Go.RowKit Go.Maps By Mp

/-- A copy of files was made, above w's memory, in the world wx. -/
def GotF (w wx : World) (F : Fs) (bm : Option Nat) (pb : Bs → Option Nat) : Prop := FilesAt wx bm F pb ∧ ∀ q, foot bm F pb q → w.heap.size ≤ q
theorem GotF.below {w wx wy : World} {F : Fs} {bm : Option Nat} {pb : Bs → Option Nat} (h : GotF w wx F bm pb) (hb : Below wx.heap.size wx wy) : GotF w wy F bm pb := ⟨h.1.keep (fun q hq => hb.block q (h.1.lt hq)), h.2⟩
def GotW (w wx : World) (v : Value) (l : List W1) : Prop := WsAt wx w.heap.size (fun b => w.heap.size ≤ b ∧ b < wx.heap.size ∧ U8 wx b) v l
theorem GotW.below {w wx wy : World} {v : Value} {l : List W1} (h : GotW w wx v l) (hb : Below wx.heap.size wx wy) : GotW w wy v l := by
  unfold GotW at h ⊢
  refine h.keep (fun b hv => ?_) (fun b hs => hb.block b hs.2.1) (fun b hs => ⟨hs.1, Nat.lt_of_lt_of_le hs.2.1 hb.size, u8_keep hs.2.2 (hb.block b hs.2.1)⟩)
  obtain ⟨ac, _, ho, _⟩ := h
  exact hb.block b (ownsRow_lt ho hv).2
theorem gotF_new {w wa wx : World} {F : Fs} {bm : Option Nat} {pb : Bs → Option Nat} (hb : Below w.heap.size w wa) (hf : FilesAt wx bm F pb) (hft : ∀ q, foot bm F pb q → wa.heap.size ≤ q) : GotF w wx F bm pb := ⟨hf, fun q hq => Nat.le_trans hb.size (hft q hq)⟩
theorem gotW_new {w wa wx : World} {v : Value} {l : List W1} (hb : Below w.heap.size w wa) (h : WsAt wx wa.heap.size (New8 wa wx) v l) : GotW w wx v l := by
  obtain ⟨ac, h1, h2, h3⟩ := h
  have h0 : WsAt wx w.heap.size (New8 wa wx) v l := ⟨ac, h1, ownsRow_base h2 hb.size, h3⟩
  exact h0.keep (fun _ _ => rfl) (fun _ _ => rfl) (fun b hs => ⟨Nat.le_trans hb.size hs.1, hs.2.1, hs.2.2⟩)
/-- Gives a disk of the call's own that is s. -/
def GivesC (s : DS) (w : World) (e : Ending) (w' : World) : Prop := ∃ (g : Nat) (S : Nat → Prop), e = .returned (.pointer (some ⟨g, 0, none⟩)) ∧ DiskAt w' g s S ∧ (∀ b, S b → w.heap.size ≤ b) ∧ Below w.heap.size w w'
theorem copied {w wx : World} {s : DS} {bm sm : Option Nat} {pb ps : Bs → Option Nat} {v : Value} (hok : s.Ok) (hb : Below w.heap.size w wx) (h1 : GotF w wx s.files bm pb) (h2 : GotF w wx s.sure sm ps) (h3 : GotW w wx v s.unsure) (hsep : ∀ q, foot bm s.files pb q → foot sm s.sure ps q → False) :
    GivesC s w (.returned (.pointer (some ⟨wx.heap.size, 0, none⟩))) (wx.alloc (.cells (diskC bm (fsize s.files) sm (fsize s.sure) v s.room s.fuse s.down) tDisk)) := by
  have hz := hb.size
  have hold : ∀ b, b < wx.heap.size → (wx.alloc (.cells (diskC bm (fsize s.files) sm (fsize s.sure) v s.room s.fuse s.down) tDisk)).heap[b]? = wx.heap[b]? := fun b hb => heap_alloc_old _ _ hb
  have hzz : (wx.alloc (.cells (diskC bm (fsize s.files) sm (fsize s.sure) v s.room s.fuse s.down) tDisk)).heap.size = wx.heap.size + 1 := World.size_alloc _ _
  obtain ⟨ac, ha, ho, hd⟩ := h3
  have hvb : ∀ b, v.ownBlock = some b → w.heap.size ≤ b ∧ b < wx.heap.size := fun b hb => ownsRow_lt ho hb
  refine ⟨wx.heap.size, fun b => w.heap.size ≤ b ∧ b < wx.heap.size + 1, rfl, ⟨bm, sm, pb, ps, v, ⟨heap_alloc_new wx _, ?_, ?_, ?_, hsep, ⟨hz, by omega⟩, ?_, ?_, ?_, ?_, hok⟩⟩, fun b hb => hb.1, hb.alloc hz _⟩
  · exact h1.1.keep (fun q hq => hold q (h1.1.lt hq))
  · exact h2.1.keep (fun q hq => hold q (h2.1.lt hq))
  · have h0 : WsAt wx 0 (fun b => w.heap.size ≤ b ∧ b < wx.heap.size ∧ U8 wx b) v s.unsure := ⟨ac, ha, ownsRow_base ho (Nat.zero_le _), hd⟩
    exact h0.keep (fun b hb => hold b (hvb b hb).2) (fun b hs => hold b hs.2.1) (fun b hs => ⟨⟨hs.1, by omega⟩, u8_keep hs.2.2 (hold b hs.2.1)⟩)
  · intro q hq
    have := h1.1.lt hq
    exact ⟨h1.2 q hq, by omega⟩
  · intro q hq
    have := h2.1.lt hq
    exact ⟨h2.2 q hq, by omega⟩
  · intro b hb
    have := hvb b hb
    exact ⟨this.1, by omega⟩
  · intro b hb
    rw [hzz]; exact hb.2
set_option maxRecDepth 100000 in
set_option maxHeartbeats 4000000 in
theorem copy_any (g : Nat) (s : DS) (S : Nat → Prop) (w : World) (h : DiskAt w g s S) (hcnt : s.cnt ≤ 68719476736) : Calls Try.prog 12 #[.pointer (some ⟨g, 0, none⟩)] w (GivesC s w) := by
  obtain ⟨bm, sm, pb, ps, v, h⟩ := h
  have HOK := Lib.hid h.ok
  have q1 := ptrTest
  obtain ⟨A, c, hv, _⟩ := h.un.form
  have hlg := row_lt h.row
  have hlen : s.files.length ≤ 68719476736 := Nat.le_trans (files_le h.ok) hcnt
  have hall : ∀ w', Below w.heap.size w w' → Below w.heap.size w w' ∧ w'.cell? ⟨g, 4, none⟩ = some v ∧ w'.cell? ⟨g, 5, none⟩ = some (.int .i64 s.room) ∧ w'.cell? ⟨g, 6, none⟩ = some (.int .i64 s.fuse) ∧ w'.cell? ⟨g, 7, none⟩ = some (.bool s.down) := fun w' hb => by
    have h1 := (hb.block g hlg).trans h.row
    exact ⟨hb, by rw [cell_of_row w' g 4 _ _ _ h1]; rfl, by rw [cell_of_row w' g 5 _ _ _ h1]; rfl, by rw [cell_of_row w' g 6 _ _ _ h1]; rfl, by rw [cell_of_row w' g 7 _ _ _ h1]; rfl⟩
  have hc1 : ∀ w', Below w.heap.size w w' → Calls Try.prog 33 #[.pointer (some ⟨g, 0, none⟩)] w' (GivesFs s.files w') := fun w' hb =>
    fclone_any g 0 bm _ tDisk s.files pb w' ((hb.block g hlg).trans h.row) ⟨rfl, rfl⟩ (h.cur.keep (fun q hq => hb.block q (h.cur.lt hq))) (up_all h.ok.up) (fit_all h.ok.fit h.ok.un) hlen
  have hc2 : ∀ w', Below w.heap.size w w' → Calls Try.prog 33 #[.pointer (some ⟨g, 2, none⟩)] w' (GivesFs s.sure w') := fun w' hb =>
    fclone_any g 2 sm _ tDisk s.sure ps w' ((hb.block g hlg).trans h.row) ⟨rfl, rfl⟩ (h.sure.keep (fun q hq => hb.block q (h.sure.lt hq))) h.ok.up h.ok.fit (by unfold DS.cnt at hcnt; omega)
  have hc3 : ∀ w', Below w.heap.size w w' → Calls Try.prog 34 #[v] w' (GivesW s.unsure w') := fun w' hb =>
    cloneWrites_any v 0 (fun b => S b ∧ U8 w b) s.unsure w' (h.un.keep (fun b hq => hb.block b (h.lt b (h.subv b hq))) (fun b hq => hb.block b (h.lt b hq.1)) (fun _ h => h)) (fun b hq => Nat.lt_of_lt_of_le (h.lt b hq.1) hb.size) (by unfold DS.cnt at hcnt; omega) h.ok.un
  have HALL := Lib.hid hall
  have HC1 := Lib.hid hc1
  have HC2 := Lib.hid hc2
  have HC3 := Lib.hid hc3
  clear h hcnt hlen hall hc1 hc2 hc3 hlg
  subst hv
  go_enter Try.func12, Try.ntmps12
  go_upto_region 3 with fail
  have HB0 := Lib.hid (show Below w.heap.size w w.drew from (Below.refl _ _).drew)
  have HT1 := Lib.hid trivial
  go_region_held3 (fun w' => Below w.heap.size w w' ∧ w'.cell? ⟨g, 4, none⟩ = some (.slice A s.unsure.length c) ∧ w'.cell? ⟨g, 5, none⟩ = some (.int .i64 s.room) ∧ w'.cell? ⟨g, 6, none⟩ = some (.int .i64 s.fuse) ∧ w'.cell? ⟨g, 7, none⟩ = some (.bool s.down))
    (first
      | assumption
      | exact HALL.out _ HB0.out
      | exact HALL.out _ HB1.out
      | exact HALL.out _ HB2.out
      | exact HALL.out _ HB3.out
      | exact HALL.out _ (HB3.out.alloc HB3.out.size _))
    (first
      | (go_at_call 33; clear HT1; refine (HC1.out _ HB0.out).mono ?_; rintro e wx ⟨bn, pn, rfl, hf, hft, hbx⟩
         have HF1 := Lib.hid (gotF_new HB0.out hf hft)
         have HB1 := Lib.hid (By.ext HB0.out hbx)
         clear hf hft hbx)
      | (go_at_call 33; refine (HC2.out _ HB1.out).mono ?_; rintro e wy ⟨sn, qn, rfl, hf, hft, hbx⟩
         have HF2 := Lib.hid (gotF_new HB1.out hf hft)
         have HG1 := Lib.hid (HF1.out.below hbx)
         have HSEP := Lib.hid (fun q (hq : foot bn s.files pn q) h2 => Nat.not_lt_of_le (hft q h2) (HF1.out.1.lt hq))
         have HB2 := Lib.hid (By.ext HB1.out hbx)
         clear hf hft hbx)
      | (go_at_call 34; refine (HC3.out _ HB2.out).mono ?_; rintro e wz ⟨vn, rfl, hw, hbx⟩
         have HW3 := Lib.hid (gotW_new HB2.out hw)
         obtain ⟨An, cn, rfl, _⟩ := hw.form
         have HH1 := Lib.hid (HG1.out.below hbx)
         have HH2 := Lib.hid (HF2.out.below hbx)
         have HB3 := Lib.hid (By.ext HB2.out hbx)
         clear hw hbx))
  go_wp2
  go_ret
  exact copied HOK.out HB3.out HH1.out HH2.out HW3.out HSEP.out
end Go.Proofs.Ytcfnfphnjkllcaa.Dk
