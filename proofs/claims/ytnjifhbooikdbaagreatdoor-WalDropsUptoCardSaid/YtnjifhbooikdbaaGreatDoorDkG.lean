/- Package disk's do: a change is done to files, as a contract of a call. -/
import Derived.Test.YtnjifhbooikdbaaGreatDoorDkE
import Derived.Test.YtnjifhbooikdbaaGreatDoorDkF
import Derived.Test.YtnjifhbooikdbaaGreatDoorEB
import Derived.Deep.RegionLaw
import Derived.Deep.RegionHeld3
import Derived.StringKeys
import Derived.RegionTactic
namespace Go.Proofs.YtnjifhbooikdbaaGreatDoor.Dk
open Go.RowKit Go.Maps By Mp

theorem keyS_of (nm : Bs) (h : nm.length ≤ 32) : keyOf Tryz.prog tStr (.string (str nm)) = some (.string nm) := by
  have := WideMaps.keyOf_string_mk (P := Tryz.prog) Tryz.underlying9 (s := str nm) (by rw [str_size]; unfold maxLen; omega)
  rw [this]
  simp [str]
def filesC (cs : Array Value) (o : Nat) (bm : Option Nat) (used : Nat) : Prop := cs[o]? = some (.map bm) ∧ cs[o + 1]? = some (.int .i64 (used : Nat))
/-- What a lookup of a name answers. -/
def lookV (F : Fs) (pb : Bs → Option Nat) (n : Bs) : Value := .agg #[.int .i64 (flen F n : Nat), .map (if fthere F n then pb n else none)]
theorem look_any {w : World} {bm : Option Nat} {F : Fs} {pb : Bs → Option Nat} (h : FilesAt w bm F pb) {n : Bs} (hn : n.length ≤ 32) (c : Bool) :
    (Instr.lookup tFM (.map bm) (.string (str n)) c).run Tryz.prog w = .ok (if c then .tuple #[lookV F pb n, .bool (fthere F n)] else lookV F pb n) w := by
  cases bm with
  | none =>
    have := h.none rfl
    subst this
    exact look_none keyS Tryz.underlying41 (zero_file w) (keyS_of n hn) c
  | some q =>
    have h1 := (h.map q rfl).look keyS Tryz.underlying41 (zero_file w) (keyS_of n hn) c
    rw [h1]
    unfold lookV flen fthere
    simp only [fsGet]
    cases fget F n with
    | none => rfl
    | some b => rfl
theorem self_set {cs : Array Value} {o : Nat} {bm bm' : Option Nat} (h : cs[o]? = some (.map bm)) (e : bm = bm') : cs.setIfInBounds o (.map bm') = cs := by
  subst e
  apply Array.ext_getElem?
  intro j
  by_cases hj : j = o
  · subst hj
    rw [Array.getElem?_setIfInBounds_self_of_lt (Array.getElem?_eq_some_iff.1 h).1, h]
  · rw [Array.getElem?_setIfInBounds_ne (by omega)]
/-- What do leaves. -/
def DidDo (g o : Nat) (cs : Array Value) (T : TypeId) (bm : Option Nat) (F : Fs) (pb : Bs → Option Nat) (x : W1) (w w' : World) : Prop := ∃ (bm' : Option Nat) (pb' : Bs → Option Nat), w'.heap[g]? = some (.cells ((cs.setIfInBounds o (.map bm')).setIfInBounds (o + 1) (.int .i64 (fsize (doW F x) : Nat))) T (0, 0)) ∧ FilesAt w' bm' (doW F x) pb' ∧
  (∀ q, foot bm' (doW F x) pb' q → foot bm F pb q ∨ w.heap.size ≤ q) ∧ Kept (fun c => c = g ∨ foot bm F pb c) w w'
set_option maxRecDepth 100000 in
set_option maxHeartbeats 4000000 in
theorem fdo_any (g o : Nat) (cs : Array Value) (T : TypeId) (bm : Option Nat) (F : Fs) (pb : Bs → Option Nat) (x : W1) (A : Option Addr) (c : Nat) (w : World)
    (hg : w.heap[g]? = some (.cells cs T (0, 0))) (hcs : filesC cs o bm (fsize F)) (hf : FilesAt w bm F pb) (hup : Up F) (hfit : Fit F) (hlen : F.length ≤ 68719476736) (hx : OkW x) (hc : x.data.length ≤ c)
    (S : Nat → Prop) (hS : ∀ b, S b → b ≠ g ∧ b < w.heap.size) (hd : LiesS w S A x.data) :
    Calls Tryz.prog 75 #[.pointer (some ⟨g, o, none⟩), wV x.kind x.name (x.off : Nat) A x.data.length c] w (Does (DidDo g o cs T bm F pb x w)) := by
  unfold wV
  obtain ⟨w0, hw0⟩ : ∃ w0, w0 = w.alloc (.cells #[.int .i64 (x.kind : Nat), .string (str x.name), .int .i64 (x.off : Nat), .slice A x.data.length c] 90) := ⟨_, rfl⟩
  have hlg := row_lt hg
  have hg0 : w0.heap[g]? = some (.cells cs T (0, 0)) := by rw [hw0, heap_alloc_old _ _ hlg]; exact hg
  have hxr : w0.heap[w.heap.size]? = some (.cells #[.int .i64 (x.kind : Nat), .string (str x.name), .int .i64 (x.off : Nat), .slice A x.data.length c] 90 (0, 0)) := by rw [hw0]; exact heap_alloc_new w _
  have hz0 : w0.heap.size = w.heap.size + 1 := by rw [hw0]; simp
  have hf0 : FilesAt w0 bm F pb := hf.keep (fun q hq => by rw [hw0, heap_alloc_old _ _ (hf.lt hq)])
  have hk0 : Kept (fun c => c = g ∨ foot bm F pb c) w w0 := by rw [hw0]; exact (Kept.refl _ _).alloc _
  have hc0 : w0.cell? ⟨g, o, none⟩ = some (.map bm) := by rw [cell_of_row w0 g o _ _ _ hg0]; exact hcs.1
  have hc1 : w0.cell? ⟨g, o + 1, none⟩ = some (.int .i64 (fsize F : Nat)) := by rw [cell_of_row w0 g (o + 1) _ _ _ hg0]; exact hcs.2
  have hx1 : w0.cell? ⟨w.heap.size, 1, none⟩ = some (.string (str x.name)) := by rw [cell_of_row w0 _ 1 _ _ _ hxr]; rfl
  have hlk0 := look_any (w := w0.drew) (hf0.keep (fun _ _ => rfl)) hx.2.2.2 false
  have hfa : FilesAt (w0.alloc (.cells #[.int .i64 0, .map none] tFile)).drew bm F pb := hf0.keep (fun q hq => heap_alloc_old w0 _ (hf0.lt hq))
  have hlk1 := look_any hfa hx.2.2.2 false
  simp only [Bool.false_eq_true, if_false] at hlk0 hlk1
  unfold lookV at hlk0 hlk1
  have hlt0 : w.heap.size < w0.heap.size := by omega
  have hlg0 : g < w0.heap.size := by omega
  obtain ⟨fl, hfl⟩ : ∃ fl : Nat, fl = flen F x.name := ⟨_, rfl⟩
  obtain ⟨pm, hpm⟩ : ∃ pm, pm = if fthere F x.name then pb x.name else none := ⟨_, rfl⟩
  rw [← hfl, ← hpm] at hlk0 hlk1
  have HOLD0 := Lib.hid (show ∀ k, k < w.heap.size → w0.heap[k]? = w.heap[k]? from fun k hk => by rw [hw0]; exact heap_alloc_old _ _ hk)
  have HW0 := Lib.hid hw0
  have HLG := Lib.hid hlg
  have HF := Lib.hid hf
  have HZ0 := Lib.hid hz0
  have HFL := Lib.hid hfl
  have HPM := Lib.hid hpm
  clear hw0 hz0 hfl hpm
  go_enter Tryz.func75, Tryz.ntmps75
  go_upto_region 1 with fail
  rw [← HW0.out]
  clear HW0
  obtain ⟨g4, hg4⟩ : ∃ g4, g4 = w0.heap.size := ⟨_, rfl⟩
  have HG4 := Lib.hid hg4
  have hK1 : ∀ c0, Kept (fun c => c = g ∨ foot bm F pb c) w ((w0.alloc c0).drew) := fun c0 => (hk0.alloc c0).drew
  have hrow4 : ∀ c0, (w0.alloc c0).drew.heap[w0.heap.size]? = some c0 := fun c0 => heap_alloc_new w0 c0
  have hsz4 : ∀ c0, (w0.alloc c0).drew.heap.size = w0.heap.size + 1 := fun c0 => by show (w0.alloc c0).heap.size = _; simp
  have hoth4 : ∀ c0 k, k < w0.heap.size → (w0.alloc c0).drew.heap[k]? = w0.heap[k]? := fun c0 k hk => heap_alloc_old w0 c0 hk
  have HK1 := Lib.hid hK1
  have HR4 := Lib.hid hrow4
  have HSZ4 := Lib.hid hsz4
  have HO4 := Lib.hid hoth4
  have HF0 := Lib.hid hf0
  have HG0 := Lib.hid hg0
  have HXR := Lib.hid hxr
  have HCS := Lib.hid hcs
  have HS := Lib.hid hS
  have HD := Lib.hid hd
  clear hg4 hK1 hrow4 hsz4 hoth4 hfa hf0 hg0 hxr hf hg hcs hk0 hS hd
  go_cut [4] (fun s wx => s = .pointer (some ⟨g4, 0, none⟩) ∧ wx.heap[g4]? = some (.cells #[.int .i64 (fl : Nat), .map pm] tFile (0, 0)) ∧ (∀ k, k < g4 → wx.heap[k]? = w0.heap[k]?) ∧ wx.heap.size = g4 + 1 ∧ Kept (fun c => c = g ∨ foot bm F pb c) w wx)
  case first =>
    go_region
    all_goals
      go_wp2
      go_meet
      rw [HG4.out]
      exact ⟨rfl, HR4.out _, HO4.out _, HSZ4.out _, HK1.out _⟩
  obtain ⟨rfl, hr4, hkeep, hsz, hkw⟩ := hcut
  obtain ⟨w2, rfl⟩ : ∃ w2, w2 = wc := ⟨_, rfl⟩
  have hgg := HG4.out
  have hz0 := HZ0.out
  have hg2 := (hkeep g (by omega)).trans HG0.out
  have hx2 := (hkeep w.heap.size (by omega)).trans HXR.out
  have hf2 : FilesAt w2 bm F pb := HF0.out.keep (fun q hq => hkeep q (by have := HF0.out.lt hq; omega))
  have hbeh : behind fl x ≤ 4194304 := by
    have h1 := bytesOf_le hfit x.name
    have h2 : fl = (bytesOf F x.name).length := HFL.out
    obtain ⟨_, _, h3, _⟩ := hx
    unfold behind
    split
    · omega
    · split <;> omega
  have hfl2 : fl ≤ 4194304 := by
    have h1 := bytesOf_le hfit x.name
    have h2 : fl = (bytesOf F x.name).length := HFL.out
    omega
  have hsize := size_doW hup (And.intro hx.1 hx.2.1)
  rw [← HFL.out] at hsize
  have hfs := fsize_le hfit
  have hfle : fl ≤ fsize F := by rw [HFL.out]; exact flen_le F x.name
  obtain ⟨us, hus⟩ : ∃ us, us = fsize F := ⟨_, rfl⟩
  obtain ⟨us', hus'⟩ : ∃ us', us' = fsize (doW F x) := ⟨_, rfl⟩
  obtain ⟨bh, hbh⟩ : ∃ bh, bh = behind fl x := ⟨_, rfl⟩
  rw [← hus, ← hus', ← hbh] at hsize
  rw [← hus] at hfle hfs hc1
  rw [← hbh] at hbeh
  have hub : us ≤ 288230376151711744 := by omega
  have hcsz : cs[o + 1]? = some (.int .i64 (us : Nat)) := by rw [hus]; exact HCS.out.2
  have hcA : w2.cell? ⟨g, o + 1, none⟩ = some (.int .i64 (us : Nat)) := by rw [cell_of_row w2 g _ _ _ _ hg2]; exact hcsz
  have hcB : w2.cell? ⟨g4, 0, none⟩ = some (.int .i64 (fl : Nat)) := by rw [cell_of_row w2 g4 _ _ _ _ hr4]; rfl
  have hx20 : w2.cell? ⟨w.heap.size, 0, none⟩ = some (.int .i64 (x.kind : Nat)) := by rw [cell_of_row w2 _ 0 _ _ _ hx2]; rfl
  have hx21 : w2.cell? ⟨w.heap.size, 1, none⟩ = some (.string (str x.name)) := by rw [cell_of_row w2 _ 1 _ _ _ hx2]; rfl
  have hx22 : w2.cell? ⟨w.heap.size, 2, none⟩ = some (.int .i64 (x.off : Nat)) := by rw [cell_of_row w2 _ 2 _ _ _ hx2]; rfl
  have hx23 : w2.cell? ⟨w.heap.size, 3, none⟩ = some (.slice A x.data.length c) := by rw [cell_of_row w2 _ 3 _ _ _ hx2]; rfl
  have hw1 : IntKind.i64.wrap ((bh : Int) - (fl : Int)) = (bh : Int) - (fl : Int) := IntWalk.i64_in _ (by omega)
  have hw2 : IntKind.i64.wrap ((us : Int) + ((bh : Int) - (fl : Int))) = (us' : Int) := by
    rw [show (us : Int) + ((bh : Int) - (fl : Int)) = (us' : Int) by omega]
    exact IntWalk.i64_in _ (by omega)
  have HKW2 := Lib.hid (show ∀ k, k < w.heap.size → w2.heap[k]? = w.heap[k]? from fun k hk => (hkeep k (by omega)).trans (HOLD0.out k hk))
  have HG2 := Lib.hid hg2
  have HX2 := Lib.hid hx2
  have HF2 := Lib.hid hf2
  have HR2 := Lib.hid hr4
  have HSZ2 := Lib.hid hsz
  have HK2 := Lib.hid hkw
  have HUS := Lib.hid hus
  have HUS2 := Lib.hid hus'
  have HBH := Lib.hid hbh
  have hw2f : w2.frozen? ⟨g, o + 1, none⟩ = false := frozen_of_row w2 g _ _ _ hg2
  clear hkeep hg2 hx2 hf2 hr4 hsz hkw hus hus' hbh hsize hfs hfle hcsz hz0 hgg hc0 hc1 hx1 hlk0 hlk1 HG0 HXR HF0 HR4 HSZ4 HO4 HK1 hlg hlt0 hlg0
  go_wp2
  go_cut [4] (fun s wx => s = .pointer (some ⟨g4, 0, none⟩) ∧ wx.heap[g]? = some (.cells (cs.setIfInBounds (o + 1) (.int .i64 (us' : Nat))) T (0, 0)) ∧ (∀ k, k ≠ g → k < w2.heap.size → wx.heap[k]? = w2.heap[k]?) ∧ Kept (fun c => c = g ∨ foot bm F pb c) w wx)
  case first =>
    have HCL := Lib.hid (fun w' => HBH.out ▸ sizeBehind_any fl x A c w' ⟨hx.1, hx.2.1⟩ (by have := hx.2.2.1; omega))
    go_region_law (go_simp; go_at_call 95; refine (HCL.out _).mono ?_; rintro e w3 ⟨rfl, hb3⟩
                   have hg3 := (hb3.block g (row_lt (show w2.drew.heap[g]? = _ from HG2.out))).trans (show w2.drew.heap[g]? = _ from HG2.out)
                   have hr3 := (hb3.block g4 (row_lt (show w2.drew.heap[g4]? = _ from HR2.out))).trans (show w2.drew.heap[g4]? = _ from HR2.out)
                   have hcA3 : w3.cell? ⟨g, o + 1, none⟩ = some (.int .i64 (us : Nat)) := by rw [cell_of_row w3 g _ _ _ _ hg3, HUS.out]; exact HCS.out.2
                   have hcB3 : w3.cell? ⟨g4, 0, none⟩ = some (.int .i64 (fl : Nat)) := by rw [cell_of_row w3 g4 _ _ _ _ hr3]; rfl
                   have hf3 : w3.frozen? ⟨g, o + 1, none⟩ = false := frozen_of_row w3 g _ _ _ hg3
                   have HG3 := Lib.hid hg3
                   have HB3 := Lib.hid hb3
                   clear hg3 hr3 hb3)
    all_goals
      go_wp2
      go_meet
      exact ⟨rfl, heap_setCell_same w3 g (o + 1) _ _ _ HG3.out, fun k hk hlt => (heap_setCell_other w3 ⟨g, o + 1, none⟩ k _ hk).trans (HB3.out.block k hlt), (HK2.out.drew.trans (Kept.of_below HB3.out)).setCell (p := ⟨g, o + 1, none⟩) (fun _ => .inl rfl) _⟩
  obtain ⟨rfl, hgw, hkeep, hkw⟩ := hcut
  obtain ⟨w3, rfl⟩ : ∃ w3, w3 = wc := ⟨_, rfl⟩
  clear hw1 hw2 hcA hcB hx20 hx21 hx22 hx23 hw2f
  have hgg : g4 = w0.heap.size := HG4.out
  have hz0 : w0.heap.size = w.heap.size + 1 := HZ0.out
  have hsz2 : w2.heap.size = g4 + 1 := HSZ2.out
  have hgl := row_lt HG2.out
  have hlg : g < w.heap.size := HLG.out
  have hne4 : g4 ≠ g := by omega
  have hx3 : w3.heap[w.heap.size]? = some (.cells #[.int .i64 (x.kind : Nat), .string (str x.name), .int .i64 (x.off : Nat), .slice A x.data.length c] 90 (0, 0)) := (hkeep w.heap.size (by omega) (by omega)).trans HX2.out
  have hr3 : w3.heap[g4]? = some (.cells #[.int .i64 (fl : Nat), .map pm] tFile (0, 0)) := (hkeep g4 hne4 (by omega)).trans HR2.out
  have hfg : ∀ q, foot bm F pb q → q ≠ g := fun q hq e => foot_map HF2.out hq (e ▸ HG2.out)
  have hf3 : FilesAt w3 bm F pb := HF2.out.keep (fun q hq => hkeep q (hfg q hq) (HF2.out.lt hq))
  have hpm : pm = if fthere F x.name = true then pb x.name else none := HPM.out
  have hfl : fl = flen F x.name := HFL.out
  have hfile : FileAt w3 pm (bytesOf F x.name) := by
    unfold bytesOf
    rw [hpm]
    unfold fthere
    cases hc : fget F x.name with
    | none => exact fun j => rfl
    | some b => exact hf3.file _ b hc
  have hpmf : ∀ q, pm = some q → pb x.name = some q ∧ ∃ b, fget F x.name = some b := by
    intro q hq
    rw [hpm] at hq
    unfold fthere at hq
    cases hc : fget F x.name with
    | none => rw [hc] at hq; cases hq
    | some b => rw [hc] at hq; exact ⟨hq, b, rfl⟩
  have hbl : fl = (bytesOf F x.name).length := hfl
  have hbm : (bytesOf F x.name).length ≤ 4194304 := bytesOf_le hfit x.name
  have hd3 : LiesS w3 (fun b => S b ∧ ∃ cs t fr, w.heap[b]? = some (.cells cs t fr)) A x.data := HD.out.cells.keep (fun b hb => (hkeep b ((HS.out b hb.1).1) (by have := (HS.out b hb.1).2; omega)).trans (HKW2.out b (HS.out b hb.1).2)) (fun _ h => h)
  have hk12 : x.kind = 1 ∨ x.kind = 2 ∨ x.kind = 3 := by have := hx.1; have := hx.2.1; omega
  have hc0 : w3.cell? ⟨w.heap.size, 0, none⟩ = some (.int .i64 (x.kind : Nat)) := by rw [cell_of_row w3 _ 0 _ _ _ hx3]; rfl
  have hc1 : w3.cell? ⟨w.heap.size, 1, none⟩ = some (.string (str x.name)) := by rw [cell_of_row w3 _ 1 _ _ _ hx3]; rfl
  have hc2 : w3.cell? ⟨w.heap.size, 2, none⟩ = some (.int .i64 (x.off : Nat)) := by rw [cell_of_row w3 _ 2 _ _ _ hx3]; rfl
  have hc3 : w3.cell? ⟨w.heap.size, 3, none⟩ = some (.slice A x.data.length c) := by rw [cell_of_row w3 _ 3 _ _ _ hx3]; rfl
  have hcg : w3.cell? ⟨g, o, none⟩ = some (.map bm) := by
    rw [cell_of_row w3 g o _ _ _ hgw, Array.getElem?_setIfInBounds_ne (by omega)]; exact HCS.out.1
  have hkeepf : ∀ q, foot bm F pb q → q ≠ g4 := fun q hq e => foot_map hf3 hq (e ▸ hr3)
  have HW3F := Lib.hid (show ∀ q, foot bm F pb q → w3.heap[q]? = w.heap[q]? from fun q hq => (hkeep q (hfg q hq) (HF2.out.lt hq)).trans (HKW2.out q (HF.out.lt hq)))
  have HSQ := Lib.hid (show ∀ b, (S b ∧ ∃ cs t fr, w.heap[b]? = some (.cells cs t fr)) → b ≠ g4 ∧ pm ≠ some b ∧ b < w3.heap.size from fun b hb => by
    obtain ⟨h1, cs', t', fr', h2⟩ := hb
    have h3 := HS.out b h1
    have hz := hkw.size
    refine ⟨by omega, fun e => ?_, by omega⟩
    obtain ⟨h4, b', h5⟩ := hpmf b e
    exact foot_map HF.out (.inr ⟨_, b', h5, h4⟩) h2)
  have HX3 := Lib.hid hx3
  have HR3 := Lib.hid hr3
  have HF3 := Lib.hid hf3
  have HG3 := Lib.hid hgw
  have HK3 := Lib.hid hkw
  have HKF := Lib.hid hkeepf
  have HFG := Lib.hid hfg
  have HPMF := Lib.hid hpmf
  have HFI := Lib.hid hfile
  have HD3 := Lib.hid hd3
  have HBL := Lib.hid hbl
  have HNE := Lib.hid hne4
  have HBM := Lib.hid hbm
  clear hkeep hgw hkw hx3 hr3 hf3 hfg hpmf hfile hd3 hbl hne4 hbm hpm hfl hgg hz0 hsz2 hgl hkeepf HX2 HR2 HF2 HG2 HK2
  rcases hk12 with hk | hk | hk
  · have d1 : ((x.kind : Int) == 1) = true := by rw [hk]; rfl
    have H := fput_any g4 pm x.off (bytesOf F x.name) A x.data.length c x.data w3 (HBL.out ▸ HR3.out) rfl hc HBM.out hx.2.2.1 HFI.out (fun b => S b ∧ ∃ cs t fr, w.heap[b]? = some (.cells cs t fr)) HSQ.out HD3.out
    have HC := Lib.hid H
    have HDO := Lib.hid (show doW F x = fput x.name (putB (bytesOf F x.name) x.off x.data) F by unfold doW; rw [if_neg (by omega), if_neg (by omega)])
    clear H hk
    go_wp2_with fail
    refine HC.out.mono ?_
    rintro e w4 ⟨rfl, q', hq', hr4, hf4, hk4⟩
    obtain ⟨nb, hnb⟩ : ∃ nb, nb = putB (bytesOf F x.name) x.off x.data := ⟨_, rfl⟩
    obtain ⟨pm', hpm'⟩ : ∃ pm', pm' = some q' := ⟨_, rfl⟩
    have HPQ := Lib.hid (show ∀ q, pm' = some q → (pb x.name = some q ∧ ∃ b, fget F x.name = some b) ∨ w.heap.size ≤ q from fun q hq => by
      rw [hpm'] at hq
      injection hq with hq
      subst hq
      rcases hq' with h | ⟨_, h⟩
      · exact .inl (HPMF.out _ h)
      · exact .inr (Nat.le_trans HK3.out.size h))
    rw [← hnb] at hr4 hf4 HDO
    rw [← hpm'] at hr4 hf4
    clear hnb hpm' hq' HC
    have hlg : g < w.heap.size := HLG.out
    have hgg : g4 = w0.heap.size := HG4.out
    have hz0 : w0.heap.size = w.heap.size + 1 := HZ0.out
    have hfo4 : ∀ q, foot bm F pb q → (∀ n b, n ≠ x.name → fget F n = some b → pb n = some q → w4.heap[q]? = w3.heap[q]?) := by
      intro q hq n b hn hb hpq
      refine hk4.block q (HF3.out.lt hq) ?_
      rintro (e | e)
      · exact HKF.out q hq e
      · obtain ⟨h1, b', h2⟩ := HPMF.out q e
        exact hn (HF3.out.apart n x.name b b' q hb h2 hpq h1)
    have hbm4 : ∀ q, bm = some q → w4.heap[q]? = w3.heap[q]? := by
      intro q hq
      refine hk4.block q (HF3.out.lt (.inl hq)) ?_
      rintro (e | e)
      · exact HKF.out q (.inl hq) e
      · obtain ⟨h1, b', h2⟩ := HPMF.out q e
        exact HF3.out.own x.name b' q h2 h1 hq
    have hxw3 := row_lt HX3.out
    have hne3 : pm ≠ some g ∧ pm ≠ some w.heap.size := by
      constructor
      · intro e
        obtain ⟨h1, b', h2⟩ := HPMF.out _ e
        exact HFG.out g (.inr ⟨_, b', h2, h1⟩) rfl
      · intro e
        obtain ⟨h1, b', h2⟩ := HPMF.out _ e
        exact foot_map HF3.out (.inr ⟨_, b', h2, h1⟩) HX3.out
    have hg4w : w4.heap[g]? = some (.cells (cs.setIfInBounds (o + 1) (.int .i64 (us' : Nat))) T (0, 0)) := (hk4.block g (row_lt HG3.out) (fun e => e.elim (fun e => HNE.out e.symm) hne3.1)).trans HG3.out
    have hx4 : w4.heap[w.heap.size]? = some (.cells #[.int .i64 (x.kind : Nat), .string (str x.name), .int .i64 (x.off : Nat), .slice A x.data.length c] 90 (0, 0)) := (hk4.block _ hxw3 (fun e => e.elim (fun e => by omega) hne3.2)).trans HX3.out
    have hk5 : Kept (fun c => c = g ∨ foot bm F pb c) w w4 := HK3.out.step hk4 (by
      rintro b hb (e | e)
      · omega
      · obtain ⟨h1, b', h2⟩ := HPMF.out b e
        exact .inr (.inr ⟨_, b', h2, h1⟩))
    have hnm : x.name.length ≤ 32 := hx.2.2.2
    have hcs1 : (cs.setIfInBounds (o + 1) (.int .i64 (us' : Nat)))[o]? = some (.map bm) := by rw [Array.getElem?_setIfInBounds_ne (by omega)]; exact HCS.out.1
    have hw4z := hk5.size
    have HM : Hid (∃ (qm : Nat) (wl : World), (bm = some qm ∨ (bm = none ∧ w.heap.size ≤ qm ∧ pm' ≠ some qm)) ∧ wl.heap[g]? = some (.cells ((cs.setIfInBounds o (.map (some qm))).setIfInBounds (o + 1) (.int .i64 (us' : Nat))) T (0, 0)) ∧ MapIs Tryz.prog tStr wl qm (fsGet F pb) F.length ∧ (∀ k, k ≠ g → k < w4.heap.size → wl.heap[k]? = w4.heap[k]?) ∧ Kept (fun c => c = g ∨ foot bm F pb c) w wl ∧ qm ≠ g ∧
        (bm.isNone = false → wl = w4) ∧ (bm.isNone = true → wl = (w4.setCell ⟨g, o, none⟩ (.map (some w4.heap.size))).alloc (.map #[] 0))) := by
      cases hb : bm with
      | some qm =>
        rw [hb] at hcs1
        have hq := HF3.out.map qm hb
        refine ⟨qm, w4, .inl rfl, ?_, hq.keep (hbm4 qm hb), fun _ _ _ => rfl, hb ▸ hk5, HFG.out qm (.inl hb), fun _ => rfl, fun h => (by cases h)⟩
        rw [hg4w]
        congr 2
        apply Array.ext_getElem?
        intro j
        by_cases hj : j = o + 1
        · subst hj
          rw [Array.getElem?_setIfInBounds, Array.getElem?_setIfInBounds, Array.size_setIfInBounds, if_pos rfl, if_pos rfl]
        · rw [Array.getElem?_setIfInBounds_ne (by omega), Array.getElem?_setIfInBounds_ne (by omega)]
          by_cases hjo : j = o
          · subst hjo
            have h0 := HCS.out.1
            rw [hb] at h0
            have hlt : j < cs.size := (Array.getElem?_eq_some_iff.1 h0).1
            rw [Array.getElem?_setIfInBounds_self_of_lt hlt, h0]
          · rw [Array.getElem?_setIfInBounds_ne (by omega)]
      | none =>
        rw [hb] at hcs1
        have hF := HF3.out.none hb
        have hxa := heap_setCell_same w4 g o _ _ (.map (some w4.heap.size)) hg4w
        have hmd := MapIs.made (w4.setCell ⟨g, o, none⟩ (.map (some w4.heap.size))) Tryz.prog tStr
        rw [size_setCell'] at hmd
        refine ⟨w4.heap.size, _, .inr ⟨rfl, hw4z, ?_⟩, ?_, ?_, ?_, ?_, by omega, fun h => (by cases h), fun _ => rfl⟩
        · intro e
          have h1 := hf4
          rw [e] at h1
          have := FileAt.lt h1
          omega
        · rw [heap_alloc_old _ _ (row_lt hxa), hxa]
          congr 2
          rw [Array.setIfInBounds_comm _ _ (by omega)]
        · rw [hF]
          refine hmd.same (fun l hl => ?_)
          cases l <;> rfl
        · intro k hk hlt
          rw [heap_alloc_old _ _ (by rw [size_setCell']; exact hlt)]
          exact heap_setCell_other w4 ⟨g, o, none⟩ k _ hk
        · have h := (hk5.setCell (p := ⟨g, o, none⟩) (fun _ => .inl rfl) (.map (some w4.heap.size))).alloc (.map #[] 0)
          rw [hb] at h
          exact h
    obtain ⟨qm, wl, hqm, hgl, hml, hol, hkl, hqg, hwl, hwl2⟩ := HM.out
    have HQM := Lib.hid hqm
    have HGL := Lib.hid hgl
    have HML := Lib.hid hml
    have HOL := Lib.hid hol
    have HKL := Lib.hid hkl
    have HQG := Lib.hid hqg
    have HWL := Lib.hid hwl
    have HWL2 := Lib.hid hwl2
    have hlt4 := row_lt hr4
    have hltx := row_lt hx4
    have HR4' := Lib.hid ((hol g4 HNE.out hlt4).trans hr4)
    have HX4' := Lib.hid ((hol w.heap.size (by omega) hltx).trans hx4)
    have HFO := Lib.hid hfo4
    have HF4 := Lib.hid hf4
    have HW4Z := Lib.hid hw4z
    have qT : ∀ (w : World) (r : Option Nat), (binOp .eql tFM (.map r) (.map none)).run Tryz.prog w = .ok (.bool r.isNone) w := fun w r => run_eql_map_nil w _ _ _ r Tryz.underlying41
    have hmm := @run_makeMap Tryz.prog
    have hcg4 : w4.cell? ⟨g, o, none⟩ = some (.map bm) := by rw [cell_of_row w4 g o _ _ _ hg4w]; exact hcs1
    have hfg4 : w4.frozen? ⟨g, o, none⟩ = false := frozen_of_row w4 g o _ _ hg4w
    have hlg4 : g < w4.heap.size := row_lt hg4w
    clear hqm hgl hml hol hkl hqg hwl hwl2 HM hlt4 hltx hfo4 hbm4 hxw3 hne3 hg4w hx4 hk5 hw4z hcs1 hf4 hr4 hk4 hlg hgg hz0 hc0 hc1 hc2 hc3 hcg hfl2 hbeh hub
    cases hN : bm.isNone
    all_goals
      go_upto_region 12 with fail
      first | rw [← HWL.out hN] | rw [← HWL2.out hN] | (go_outline; fail "wl")
      clear qT hmm hN HWL HWL2 hcg4 hfg4 hlg4
      have hl0 : wl.cell? ⟨g, o, none⟩ = some (.map (some qm)) := by
        rw [cell_of_row wl g o _ _ _ HGL.out, Array.getElem?_setIfInBounds_ne (by omega), Array.getElem?_setIfInBounds_self_of_lt (Array.getElem?_eq_some_iff.1 HCS.out.1).1]
      have hl1 : wl.cell? ⟨w.heap.size, 1, none⟩ = some (.string (str x.name)) := by rw [cell_of_row wl _ 1 _ _ _ HX4'.out]; rfl
      have hl2 : wl.cell? ⟨g4, 0, none⟩ = some (.int .i64 (nb.length : Nat)) := by rw [cell_of_row wl _ 0 _ _ _ HR4'.out]; rfl
      have hl3 : wl.cell? ⟨g4, 1, none⟩ = some (.map pm') := by rw [cell_of_row wl _ 1 _ _ _ HR4'.out]; rfl
      go_still_tail 7, (by kernel_rfl)
      change wpList _ _ _ _ _ wl.drew
      have HML2 := Lib.hid (show MapIs Tryz.prog tStr wl.drew qm (fsGet F pb) F.length from HML.out.keep rfl)
      have HSL : Hid (F.length < maxLen) := Lib.hid (by unfold maxLen; omega)
      have HKEY := Lib.hid (keyS_of x.name hnm)
      clear hl0 hl1 hl2 hl3
      go_wp2_with (at_mapUpdate; refine wpList_put rfl (.tmp 60) (.tmp 62) (.tmp 63) tFM rfl tStr tFile keyS Tryz.underlying41 qm F.length (fsGet F pb) rfl HML2.out HSL.out _ (fileV nb pm') _ rfl rfl HKEY.out ?_; intro w6 hm6 hturn)
      go_end0
      have hgl2 : w6.heap[g]? = wl.heap[g]? := (turned_other hturn (fun e => HQG.out e.symm) : w6.heap[g]? = wl.drew.heap[g]?)
      have hget : (fsGet F pb (.string x.name)).isSome = (fget F x.name).isSome := by simp [fsGet]
      rw [hget] at hm6
      have hput := files_put HF.out hup (name := x.name) (nb := nb) (pm' := pm') (qm := qm)
        (fun n b q hn hb hpq => by
          have hfq : foot bm F pb q := .inr ⟨n, b, hb, hpq⟩
          have hlt := HF.out.lt hfq
          have hz : w.heap.size ≤ w4.heap.size := HW4Z.out
          have hq1 : q ≠ qm := by
            rintro rfl
            rcases HQM.out with h | ⟨_, h, _⟩
            · exact HF.out.own n b q hb hpq h
            · omega
          exact (((turned_other hturn hq1 : w6.heap[q]? = wl.drew.heap[q]?).trans (HOL.out q (HFG.out q hfq) (by omega))).trans (HFO.out q hfq n b hn hb hpq)).trans (HW3F.out q hfq))
        (HF4.out.keep (fun q hq => by
          have h1 := HF4.out
          rw [hq] at h1
          have hlt := FileAt.lt h1
          have hq1 : q ≠ qm := by
            rintro rfl
            rcases HQM.out with h | ⟨_, _, h⟩
            · rcases HPQ.out q hq with ⟨h2, b', h3⟩ | h2
              · exact HF.out.own x.name b' q h3 h2 h
              · have := HF.out.lt (.inl h : foot bm F pb q); omega
            · exact h hq
          have hqg : q ≠ g := by
            rcases HPQ.out q hq with ⟨h2, b', h3⟩ | h2
            · exact HFG.out q (.inr ⟨_, b', h3, h2⟩)
            · have : g < w.heap.size := HLG.out
              omega
          exact (turned_other hturn hq1 : w6.heap[q]? = wl.drew.heap[q]?).trans (HOL.out q hqg hlt)))
        hm6 HPQ.out HQM.out
      exact ⟨rfl, some qm, (fun n => if n = x.name then pm' else pb n), by rw [hgl2, HGL.out, HUS2.out], by rw [HDO.out]; exact hput.1, by rw [HDO.out]; exact hput.2, HKL.out.drew.turned hturn (fun h => HQM.out.elim (fun e => .inr (.inl e)) (fun e => absurd h (by have := e.2.1; omega)))⟩
  · have d1 : ((x.kind : Int) == 1) = false := by rw [hk]; rfl
    have d2 : ((x.kind : Int) == 2) = true := by rw [hk]; rfl
    have H := fcut_any g4 pm (fl : Nat) (bytesOf F x.name) x.off w3 HR3.out HBM.out (by have := hx.2.2.1; omega) HFI.out
    have HC := Lib.hid H
    have HDO := Lib.hid (show doW F x = fput x.name (cutB (bytesOf F x.name) x.off) F by unfold doW; rw [if_neg (by omega), if_pos hk])
    clear H hk
    go_wp2_with fail
    refine HC.out.mono ?_
    rintro e w4 ⟨rfl, hr4, hf4, hk4⟩
    obtain ⟨nb, hnb⟩ : ∃ nb, nb = cutB (bytesOf F x.name) x.off := ⟨_, rfl⟩
    obtain ⟨pm', hpm'⟩ : ∃ pm', pm' = pm := ⟨_, rfl⟩
    have HPQ := Lib.hid (show ∀ q, pm' = some q → (pb x.name = some q ∧ ∃ b, fget F x.name = some b) ∨ w.heap.size ≤ q from fun q hq => .inl (HPMF.out q (hpm' ▸ hq)))
    rw [← hnb] at hr4 hf4 HDO
    have hr4 : w4.heap[g4]? = some (.cells #[.int .i64 (nb.length : Nat), .map pm'] tFile (0, 0)) := hpm' ▸ hr4
    have hf4 : FileAt w4 pm' nb := hpm' ▸ hf4
    clear hnb hpm' HC
    have hlg : g < w.heap.size := HLG.out
    have hgg : g4 = w0.heap.size := HG4.out
    have hz0 : w0.heap.size = w.heap.size + 1 := HZ0.out
    have hfo4 : ∀ q, foot bm F pb q → (∀ n b, n ≠ x.name → fget F n = some b → pb n = some q → w4.heap[q]? = w3.heap[q]?) := by
      intro q hq n b hn hb hpq
      refine hk4.block q (HF3.out.lt hq) ?_
      rintro (e | e)
      · exact HKF.out q hq e
      · obtain ⟨h1, b', h2⟩ := HPMF.out q e
        exact hn (HF3.out.apart n x.name b b' q hb h2 hpq h1)
    have hbm4 : ∀ q, bm = some q → w4.heap[q]? = w3.heap[q]? := by
      intro q hq
      refine hk4.block q (HF3.out.lt (.inl hq)) ?_
      rintro (e | e)
      · exact HKF.out q (.inl hq) e
      · obtain ⟨h1, b', h2⟩ := HPMF.out q e
        exact HF3.out.own x.name b' q h2 h1 hq
    have hxw3 := row_lt HX3.out
    have hne3 : pm ≠ some g ∧ pm ≠ some w.heap.size := by
      constructor
      · intro e
        obtain ⟨h1, b', h2⟩ := HPMF.out _ e
        exact HFG.out g (.inr ⟨_, b', h2, h1⟩) rfl
      · intro e
        obtain ⟨h1, b', h2⟩ := HPMF.out _ e
        exact foot_map HF3.out (.inr ⟨_, b', h2, h1⟩) HX3.out
    have hg4w : w4.heap[g]? = some (.cells (cs.setIfInBounds (o + 1) (.int .i64 (us' : Nat))) T (0, 0)) := (hk4.block g (row_lt HG3.out) (fun e => e.elim (fun e => HNE.out e.symm) hne3.1)).trans HG3.out
    have hx4 : w4.heap[w.heap.size]? = some (.cells #[.int .i64 (x.kind : Nat), .string (str x.name), .int .i64 (x.off : Nat), .slice A x.data.length c] 90 (0, 0)) := (hk4.block _ hxw3 (fun e => e.elim (fun e => by omega) hne3.2)).trans HX3.out
    have hk5 : Kept (fun c => c = g ∨ foot bm F pb c) w w4 := HK3.out.step hk4 (by
      rintro b hb (e | e)
      · omega
      · obtain ⟨h1, b', h2⟩ := HPMF.out b e
        exact .inr (.inr ⟨_, b', h2, h1⟩))
    have hnm : x.name.length ≤ 32 := hx.2.2.2
    have hcs1 : (cs.setIfInBounds (o + 1) (.int .i64 (us' : Nat)))[o]? = some (.map bm) := by rw [Array.getElem?_setIfInBounds_ne (by omega)]; exact HCS.out.1
    have hw4z := hk5.size
    have HM : Hid (∃ (qm : Nat) (wl : World), (bm = some qm ∨ (bm = none ∧ w.heap.size ≤ qm ∧ pm' ≠ some qm)) ∧ wl.heap[g]? = some (.cells ((cs.setIfInBounds o (.map (some qm))).setIfInBounds (o + 1) (.int .i64 (us' : Nat))) T (0, 0)) ∧ MapIs Tryz.prog tStr wl qm (fsGet F pb) F.length ∧ (∀ k, k ≠ g → k < w4.heap.size → wl.heap[k]? = w4.heap[k]?) ∧ Kept (fun c => c = g ∨ foot bm F pb c) w wl ∧ qm ≠ g ∧
        (bm.isNone = false → wl = w4) ∧ (bm.isNone = true → wl = (w4.setCell ⟨g, o, none⟩ (.map (some w4.heap.size))).alloc (.map #[] 0))) := by
      cases hb : bm with
      | some qm =>
        rw [hb] at hcs1
        have hq := HF3.out.map qm hb
        refine ⟨qm, w4, .inl rfl, ?_, hq.keep (hbm4 qm hb), fun _ _ _ => rfl, hb ▸ hk5, HFG.out qm (.inl hb), fun _ => rfl, fun h => (by cases h)⟩
        rw [hg4w]
        congr 2
        apply Array.ext_getElem?
        intro j
        by_cases hj : j = o + 1
        · subst hj
          rw [Array.getElem?_setIfInBounds, Array.getElem?_setIfInBounds, Array.size_setIfInBounds, if_pos rfl, if_pos rfl]
        · rw [Array.getElem?_setIfInBounds_ne (by omega), Array.getElem?_setIfInBounds_ne (by omega)]
          by_cases hjo : j = o
          · subst hjo
            have h0 := HCS.out.1
            rw [hb] at h0
            have hlt : j < cs.size := (Array.getElem?_eq_some_iff.1 h0).1
            rw [Array.getElem?_setIfInBounds_self_of_lt hlt, h0]
          · rw [Array.getElem?_setIfInBounds_ne (by omega)]
      | none =>
        rw [hb] at hcs1
        have hF := HF3.out.none hb
        have hxa := heap_setCell_same w4 g o _ _ (.map (some w4.heap.size)) hg4w
        have hmd := MapIs.made (w4.setCell ⟨g, o, none⟩ (.map (some w4.heap.size))) Tryz.prog tStr
        rw [size_setCell'] at hmd
        refine ⟨w4.heap.size, _, .inr ⟨rfl, hw4z, ?_⟩, ?_, ?_, ?_, ?_, by omega, fun h => (by cases h), fun _ => rfl⟩
        · intro e
          have h1 := hf4
          rw [e] at h1
          have := FileAt.lt h1
          omega
        · rw [heap_alloc_old _ _ (row_lt hxa), hxa]
          congr 2
          rw [Array.setIfInBounds_comm _ _ (by omega)]
        · rw [hF]
          refine hmd.same (fun l hl => ?_)
          cases l <;> rfl
        · intro k hk hlt
          rw [heap_alloc_old _ _ (by rw [size_setCell']; exact hlt)]
          exact heap_setCell_other w4 ⟨g, o, none⟩ k _ hk
        · have h := (hk5.setCell (p := ⟨g, o, none⟩) (fun _ => .inl rfl) (.map (some w4.heap.size))).alloc (.map #[] 0)
          rw [hb] at h
          exact h
    obtain ⟨qm, wl, hqm, hgl, hml, hol, hkl, hqg, hwl, hwl2⟩ := HM.out
    have HQM := Lib.hid hqm
    have HGL := Lib.hid hgl
    have HML := Lib.hid hml
    have HOL := Lib.hid hol
    have HKL := Lib.hid hkl
    have HQG := Lib.hid hqg
    have HWL := Lib.hid hwl
    have HWL2 := Lib.hid hwl2
    have hlt4 := row_lt hr4
    have hltx := row_lt hx4
    have HR4' := Lib.hid ((hol g4 HNE.out hlt4).trans hr4)
    have HX4' := Lib.hid ((hol w.heap.size (by omega) hltx).trans hx4)
    have HFO := Lib.hid hfo4
    have HF4 := Lib.hid hf4
    have HW4Z := Lib.hid hw4z
    have qT : ∀ (w : World) (r : Option Nat), (binOp .eql tFM (.map r) (.map none)).run Tryz.prog w = .ok (.bool r.isNone) w := fun w r => run_eql_map_nil w _ _ _ r Tryz.underlying41
    have hmm := @run_makeMap Tryz.prog
    have hcg4 : w4.cell? ⟨g, o, none⟩ = some (.map bm) := by rw [cell_of_row w4 g o _ _ _ hg4w]; exact hcs1
    have hfg4 : w4.frozen? ⟨g, o, none⟩ = false := frozen_of_row w4 g o _ _ hg4w
    have hlg4 : g < w4.heap.size := row_lt hg4w
    clear hqm hgl hml hol hkl hqg hwl hwl2 HM hlt4 hltx hfo4 hbm4 hxw3 hne3 hg4w hx4 hk5 hw4z hcs1 hf4 hr4 hk4 hlg hgg hz0 hc0 hc1 hc2 hc3 hcg hfl2 hbeh hub
    cases hN : bm.isNone
    all_goals
      go_upto_region 12 with fail
      first | rw [← HWL.out hN] | rw [← HWL2.out hN] | (go_outline; fail "wl")
      clear qT hmm hN HWL HWL2 hcg4 hfg4 hlg4
      have hl0 : wl.cell? ⟨g, o, none⟩ = some (.map (some qm)) := by
        rw [cell_of_row wl g o _ _ _ HGL.out, Array.getElem?_setIfInBounds_ne (by omega), Array.getElem?_setIfInBounds_self_of_lt (Array.getElem?_eq_some_iff.1 HCS.out.1).1]
      have hl1 : wl.cell? ⟨w.heap.size, 1, none⟩ = some (.string (str x.name)) := by rw [cell_of_row wl _ 1 _ _ _ HX4'.out]; rfl
      have hl2 : wl.cell? ⟨g4, 0, none⟩ = some (.int .i64 (nb.length : Nat)) := by rw [cell_of_row wl _ 0 _ _ _ HR4'.out]; rfl
      have hl3 : wl.cell? ⟨g4, 1, none⟩ = some (.map pm') := by rw [cell_of_row wl _ 1 _ _ _ HR4'.out]; rfl
      go_still_tail 7, (by kernel_rfl)
      change wpList _ _ _ _ _ wl.drew
      have HML2 := Lib.hid (show MapIs Tryz.prog tStr wl.drew qm (fsGet F pb) F.length from HML.out.keep rfl)
      have HSL : Hid (F.length < maxLen) := Lib.hid (by unfold maxLen; omega)
      have HKEY := Lib.hid (keyS_of x.name hnm)
      clear hl0 hl1 hl2 hl3
      go_wp2_with (at_mapUpdate; refine wpList_put rfl (.tmp 60) (.tmp 62) (.tmp 63) tFM rfl tStr tFile keyS Tryz.underlying41 qm F.length (fsGet F pb) rfl HML2.out HSL.out _ (fileV nb pm') _ rfl rfl HKEY.out ?_; intro w6 hm6 hturn)
      go_end0
      have hgl2 : w6.heap[g]? = wl.heap[g]? := (turned_other hturn (fun e => HQG.out e.symm) : w6.heap[g]? = wl.drew.heap[g]?)
      have hget : (fsGet F pb (.string x.name)).isSome = (fget F x.name).isSome := by simp [fsGet]
      rw [hget] at hm6
      have hput := files_put HF.out hup (name := x.name) (nb := nb) (pm' := pm') (qm := qm)
        (fun n b q hn hb hpq => by
          have hfq : foot bm F pb q := .inr ⟨n, b, hb, hpq⟩
          have hlt := HF.out.lt hfq
          have hz : w.heap.size ≤ w4.heap.size := HW4Z.out
          have hq1 : q ≠ qm := by
            rintro rfl
            rcases HQM.out with h | ⟨_, h, _⟩
            · exact HF.out.own n b q hb hpq h
            · omega
          exact (((turned_other hturn hq1 : w6.heap[q]? = wl.drew.heap[q]?).trans (HOL.out q (HFG.out q hfq) (by omega))).trans (HFO.out q hfq n b hn hb hpq)).trans (HW3F.out q hfq))
        (HF4.out.keep (fun q hq => by
          have h1 := HF4.out
          rw [hq] at h1
          have hlt := FileAt.lt h1
          have hq1 : q ≠ qm := by
            rintro rfl
            rcases HQM.out with h | ⟨_, _, h⟩
            · rcases HPQ.out q hq with ⟨h2, b', h3⟩ | h2
              · exact HF.out.own x.name b' q h3 h2 h
              · have := HF.out.lt (.inl h : foot bm F pb q); omega
            · exact h hq
          have hqg : q ≠ g := by
            rcases HPQ.out q hq with ⟨h2, b', h3⟩ | h2
            · exact HFG.out q (.inr ⟨_, b', h3, h2⟩)
            · have : g < w.heap.size := HLG.out
              omega
          exact (turned_other hturn hq1 : w6.heap[q]? = wl.drew.heap[q]?).trans (HOL.out q hqg hlt)))
        hm6 HPQ.out HQM.out
      exact ⟨rfl, some qm, (fun n => if n = x.name then pm' else pb n), by rw [hgl2, HGL.out, HUS2.out], by rw [HDO.out]; exact hput.1, by rw [HDO.out]; exact hput.2, HKL.out.drew.turned hturn (fun h => HQM.out.elim (fun e => .inr (.inl e)) (fun e => absurd h (by have := e.2.1; omega)))⟩
  · have d1 : ((x.kind : Int) == 1) = false := by rw [hk]; rfl
    have d2 : ((x.kind : Int) == 2) = false := by rw [hk]; rfl
    have d3 : ((x.kind : Int) == 3) = true := by rw [hk]; rfl
    have HDO := Lib.hid (show doW F x = fdel x.name F by unfold doW; rw [if_pos hk])
    have hnm : x.name.length ≤ 32 := hx.2.2.2
    clear hk
    go_upto_region 9 with fail
    clear d1 d2 d3
    have HC1 := Lib.hid hc1
    have HCG := Lib.hid hcg
    have hkey := keyS_of x.name hnm
    have HKEY := Lib.hid hkey
    cases hb : bm with
    | none =>
      have hdn : ∀ (w' : World) (ty : TypeId), (Builtin.delete_ #[tFM, tStr] ty #[.map none, .string (str x.name)]).run Tryz.prog w' = .ok (.tuple #[]) w' := fun w' ty => del_none keyS Tryz.underlying41 hkey ty
      rw [hb] at hcg
      have hF := HF.out.none hb
      go_still_tail 6, (by kernel_rfl)
      change wpList _ _ _ _ _ w3.drew
      have HB := Lib.hid hb
      clear hkey hb hc0 hc1 hc2 hc3 hcg
      go_wp2
      go_end0
      have hd : fdel x.name F = F := by rw [hF]; rfl
      refine ⟨rfl, none, pb, ?_, ?_, ?_, ?_⟩
      · show w3.heap[g]? = _
        rw [HG3.out, HUS2.out, self_set HCS.out.1 HB.out]
      · rw [HDO.out, hd]
        exact (HB.out ▸ HF3.out : FilesAt w3 none F pb).keep (fun _ _ => rfl)
      · rw [HDO.out, hd]
        exact fun q hq => .inl (HB.out.symm ▸ hq)
      · exact HK3.out.drew
    | some qm =>
      rw [hb] at hcg
      go_still_tail 6, (by kernel_rfl)
      change wpList _ _ _ _ _ w3.drew
      have HM3 := Lib.hid (show MapIs Tryz.prog tStr w3.drew qm (fsGet F pb) F.length from (HF3.out.map qm hb).keep rfl)
      have HB := Lib.hid hb
      clear hkey hb hc0 hc1 hc2 hc3 hcg
      go_wp2_with (at_delete; refine wpList_del rfl (.tmp 45) (.tmp 47) tFM tStr rfl tFile keyS Tryz.underlying41 qm F.length (fsGet F pb) rfl HM3.out _ _ rfl HKEY.out ?_; intro w6 hm6 hturn)
      go_end0
      have hget : (fsGet F pb (.string x.name)).isSome = (fget F x.name).isSome := by simp [fsGet]
      rw [hget] at hm6
      have hqg : qm ≠ g := HFG.out qm (.inl HB.out)
      have hfa : FilesAt w (some qm) F pb := HB.out ▸ HF.out
      have hdel := files_del hfa hup (name := x.name)
        (fun n b q hn hpq => by
          have hfq : foot bm F pb q := .inr ⟨n, b, hn, hpq⟩
          have hq1 : q ≠ qm := by
            rintro rfl
            exact HF.out.own n b q hn hpq HB.out
          exact (turned_other hturn hq1 : w6.heap[q]? = w3.drew.heap[q]?).trans (HW3F.out q hfq)) hm6
      refine ⟨rfl, some qm, pb, ?_, by rw [HDO.out]; exact hdel.1, by rw [HDO.out]; exact fun q hq => .inl (HB.out.symm ▸ hdel.2 q hq), ?_⟩
      · rw [(turned_other hturn (fun e => hqg e.symm) : w6.heap[g]? = w3.drew.heap[g]?)]
        show w3.heap[g]? = _
        rw [HG3.out, HUS2.out, self_set HCS.out.1 HB.out]
      · exact HK3.out.drew.turned hturn (fun _ => .inr (.inl HB.out))
end Go.Proofs.YtnjifhbooikdbaaGreatDoor.Dk
