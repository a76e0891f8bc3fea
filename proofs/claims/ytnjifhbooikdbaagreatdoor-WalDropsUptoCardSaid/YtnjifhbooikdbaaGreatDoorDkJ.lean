/- Package disk's takes, as a contract of a call. -/
import Derived.Test.YtnjifhbooikdbaaGreatDoorDkI
namespace Go.Proofs.YtnjifhbooikdbaaGreatDoor.Dk
open Go.RowKit Go.Maps By Mp

theorem belowDrewN {B : Nat} {a w : World} (h : Below B a w) (q : Nat) : Below B a (w.drewN q) := ⟨h.os, h.tape, h.output, h.size, h.block⟩
/-- What a change is before it is let in. -/
def PreW (x : W1) : Prop := 1 ≤ x.kind ∧ x.kind ≤ 3 ∧ x.off ≤ 4194304 ∧ x.data.length ≤ 140737488355328 ∧ x.name.length ≤ 32 ∧ (x.kind ≠ 1 → x.data = [])
def takesE (F : Fs) (room : Int) (x : W1) : Int :=
  if fthere F x.name = false ∧ x.kind ≠ 3 ∧ 4096 ≤ F.length then 7 else if fsize F < fsize (doW F x) ∧ room < (fsize (doW F x) : Int) then 10 else 0
theorem map_len {w : World} {bm : Option Nat} {F : Fs} {pb : Bs → Option Nat} (h : FilesAt w bm F pb) (ty : TypeId) : (Builtin.len_ #[tFM] ty #[.map bm]).run Tryz.prog w = .ok (.int .i64 (F.length : Nat)) w := by
  cases bm with
  | none => rw [h.none rfl]; exact Maps.len_nil Tryz.underlying41 ty
  | some q => exact (h.map q rfl).len Tryz.underlying41 ty
theorem map_obj {w : World} {bm : Option Nat} {F : Fs} {pb : Bs → Option Nat} (h : FilesAt w bm F pb) {q : Nat} (hq : bm = some q) : ∃ es clock, w.heap[q]? = some (.map es clock) ∧ es.size = F.length := by
  obtain ⟨D, ⟨es, clock, hb, F', hs, rfl⟩, h2, _⟩ := h.map q hq
  refine ⟨es, clock, hb, ?_⟩
  rw [← h2]
  simp [Maps.size, length_sorted]
set_option maxRecDepth 100000 in
set_option maxHeartbeats 2000000 in
theorem takes_any (g : Nat) (s : DS) (S : Nat → Prop) (x : W1) (A : Option Addr) (c : Nat) (w : World) (h : DiskAt w g s S) (hx : PreW x) (hlen : s.files.length ≤ 68719476736) :
    Calls Tryz.prog 74 #[.pointer (some ⟨g, 0, none⟩), wV x.kind x.name (x.off : Nat) A x.data.length c] w (RetB (.int .i64 (takesE s.files s.room x)) w) := by
  obtain ⟨bm, sm, pb, ps, v, h⟩ := h
  obtain ⟨hc0, hc1, _, hc5, _, _, _⟩ := h.cells
  have hfit : Fit s.files := fit_all h.ok.fit h.ok.un
  have hup : Up s.files := up_all h.ok.up
  have hf := h.cur
  have hlg := row_lt h.row
  have hroom := h.ok.room
  obtain ⟨F, hF⟩ : ∃ F, F = s.files := ⟨_, rfl⟩
  rw [← hF] at hfit hup hf hlen hc1 ⊢
  have H := Lib.hid h
  clear h hF
  unfold wV
  obtain ⟨w0, hw0⟩ : ∃ w0, w0 = w.alloc (.cells #[.int .i64 (x.kind : Nat), .string (str x.name), .int .i64 (x.off : Nat), .slice A x.data.length c] tWrite) := ⟨_, rfl⟩
  have hb0 : Below w.heap.size w w0 := by rw [hw0]; exact (Below.refl _ _).alloc (Nat.le_refl _) _
  have hxr : w0.heap[w.heap.size]? = some (.cells #[.int .i64 (x.kind : Nat), .string (str x.name), .int .i64 (x.off : Nat), .slice A x.data.length c] tWrite (0, 0)) := by rw [hw0]; exact heap_alloc_new w _
  have hz0 : w0.heap.size = w.heap.size + 1 := by rw [hw0]; simp
  have hf0 : FilesAt w0 bm F pb := hf.keep (fun q hq => hb0.block q (hf.lt hq))
  have hd0 : w0.cell? ⟨g, 0, none⟩ = some (.map bm) := (hb0.cell hlg).trans hc0
  have hx1 : w0.cell? ⟨w.heap.size, 1, none⟩ = some (.string (str x.name)) := by rw [cell_of_row w0 _ 1 _ _ _ hxr]; rfl
  have hlk0 := look_any (w := w0.drew) (hf0.keep (fun _ _ => rfl)) hx.2.2.2.2.1 true
  have hfa : FilesAt (w0.alloc (.cells #[.int .i64 0, .map none] tFile)).drew bm F pb := hf0.keep (fun q hq => heap_alloc_old w0 _ (hf0.lt hq))
  have hlk1 := look_any hfa hx.2.2.2.2.1 true
  simp only [if_true] at hlk0 hlk1
  unfold lookV at hlk0 hlk1
  have hlt0 : w.heap.size < w0.heap.size := by omega
  have hlg0 : g < w0.heap.size := by omega
  obtain ⟨fl, hfl⟩ : ∃ fl : Nat, fl = flen F x.name := ⟨_, rfl⟩
  obtain ⟨th, hth⟩ : ∃ th, th = fthere F x.name := ⟨_, rfl⟩
  obtain ⟨pm, hpm⟩ : ∃ pm, pm = if fthere F x.name then pb x.name else none := ⟨_, rfl⟩
  rw [← hfl, ← hpm, ← hth] at hlk0 hlk1
  have HFL := Lib.hid hfl
  have HTH := Lib.hid hth
  have HW0 := Lib.hid hw0
  have HZ0 := Lib.hid hz0
  have HB0 := Lib.hid hb0
  have HXR := Lib.hid hxr
  have HF0 := Lib.hid hf0
  have HC1 := Lib.hid hc1
  have HC5 := Lib.hid hc5
  have HD0 := Lib.hid hd0
  clear hw0 hz0 hb0 hxr hf0 hfl hth hpm hfa hc0 hc1 hc5 hf
  go_enter Tryz.func74, Tryz.ntmps74
  go_upto_region 1 with fail
  rw [← HW0.out]
  clear HW0
  obtain ⟨g4, hg4⟩ : ∃ g4, g4 = w0.heap.size := ⟨_, rfl⟩
  have HG4 := Lib.hid hg4
  have HR4 := Lib.hid (show ∀ c0, (w0.alloc c0).drew.heap[w0.heap.size]? = some c0 from fun c0 => heap_alloc_new w0 c0)
  have HB4 := Lib.hid (show ∀ c0, Below w.heap.size w (w0.alloc c0).drew from fun c0 => (HB0.out.alloc HB0.out.size c0).drew)
  have HO4 := Lib.hid (show ∀ c0 k, k < w0.heap.size → (w0.alloc c0).drew.heap[k]? = w0.heap[k]? from fun c0 k hk => heap_alloc_old w0 c0 hk)
  clear hg4
  go_cut [5, 6] (fun s5 s6 wx => s5 = .pointer (some ⟨g4, 0, none⟩) ∧ s6 = .bool th ∧ wx.heap[g4]? = some (.cells #[.int .i64 (fl : Nat), .map pm] tFile (0, 0)) ∧ (∀ k, k < g4 → wx.heap[k]? = w0.heap[k]?) ∧ Below w.heap.size w wx)
  case first =>
    go_region
    all_goals
      go_wp2
      go_meet
      rw [HG4.out]
      exact ⟨rfl, rfl, HR4.out _, HO4.out _, HB4.out _⟩
  obtain ⟨rfl, rfl, hr4, hkeep, hbw⟩ := hcut
  obtain ⟨w2, rfl⟩ : ∃ w2, w2 = wc := ⟨_, rfl⟩
  have hgg : g4 = w0.heap.size := HG4.out
  have hz0 : w0.heap.size = w.heap.size + 1 := HZ0.out
  have hx2 : w2.heap[w.heap.size]? = some (.cells #[.int .i64 (x.kind : Nat), .string (str x.name), .int .i64 (x.off : Nat), .slice A x.data.length c] tWrite (0, 0)) := (hkeep w.heap.size (by omega)).trans HXR.out
  have hf2 : FilesAt w2 bm F pb := HF0.out.keep (fun q hq => hkeep q (by have := HF0.out.lt hq; omega))
  have hd2 : w2.cell? ⟨g, 0, none⟩ = some (.map bm) := by rw [hbw.cell hlg]; exact H.out.cells.1
  have hu2 : w2.cell? ⟨g, 1, none⟩ = some (.int .i64 (fsize F : Nat)) := by rw [hbw.cell hlg]; exact HC1.out
  have hm2 : w2.cell? ⟨g, 5, none⟩ = some (.int .i64 s.room) := by rw [hbw.cell hlg]; exact HC5.out
  have hx20 : w2.cell? ⟨w.heap.size, 0, none⟩ = some (.int .i64 (x.kind : Nat)) := by rw [cell_of_row w2 _ 0 _ _ _ hx2]; rfl
  have hlm := fun ty => map_len hf2 ty
  have HX2 := Lib.hid hx2
  have HR2 := Lib.hid hr4
  have HB2 := Lib.hid hbw
  have HF2 := Lib.hid hf2
  clear hx2 hr4 hbw hf2 hkeep hgg hz0 hlk0 hlk1 hx1 HD0 HXR HF0 HR4 HO4 HB4 HC1 HC5
  cases hct : th with
  | true =>
    subst hct
    have HT := Lib.hid (show takesE F s.room x = if fsize F < fsize (doW F x) ∧ s.room < (fsize (doW F x) : Int) then 10 else 0 by unfold takesE; rw [if_neg (fun e => by have h1 := e.1; rw [← HTH.out] at h1; cases h1)])
    go_upto_region 4 with fail
    have hfl2 : fl ≤ 4194304 := by
      have h1 := bytesOf_le hfit x.name
      have h2 : fl = (bytesOf F x.name).length := HFL.out
      omega
    have hxo : x.off + x.data.length ≤ 4611686018427387904 := by have := hx.2.2.1; have := hx.2.2.2.1; omega
    have hbh0 : behind fl x ≤ 140741783322624 := by
      have := hx.2.2.1
      have := hx.2.2.2.1
      unfold behind
      split
      · omega
      · split <;> omega
    have hsize := size_doW hup (And.intro hx.1 hx.2.1)
    rw [← HFL.out] at hsize
    have hfs := fsize_le hfit
    have hfle : fl ≤ fsize F := by rw [HFL.out]; exact flen_le F x.name
    have HCL := Lib.hid (fun w' => sizeBehind_any fl x A c w' (And.intro hx.1 hx.2.1) hxo)
    obtain ⟨us, hus⟩ : ∃ us, us = fsize F := ⟨_, rfl⟩
    obtain ⟨us', hus'⟩ : ∃ us', us' = fsize (doW F x) := ⟨_, rfl⟩
    obtain ⟨bh, hbh⟩ : ∃ bh, bh = behind fl x := ⟨_, rfl⟩
    rw [← hus, ← hus', ← hbh] at hsize
    rw [← hus] at hfle hfs hu2
    rw [← hbh] at hbh0 HCL
    have hub : us ≤ 288230376151711744 := by omega
    have hall : ∀ w', Below w2.heap.size w2 w' → (Below w2.heap.size w2 w' ∧ w'.cell? ⟨g4, 0, none⟩ = some (.int .i64 (fl : Nat)) ∧ w'.cell? ⟨w.heap.size, 0, none⟩ = some (.int .i64 (x.kind : Nat)) ∧ w'.cell? ⟨w.heap.size, 1, none⟩ = some (.string (str x.name)) ∧ w'.cell? ⟨w.heap.size, 2, none⟩ = some (.int .i64 (x.off : Nat)) ∧ w'.cell? ⟨w.heap.size, 3, none⟩ = some (.slice A x.data.length c)) := by
      intro w' hb
      have a2 := row_lt HR2.out
      have a3 := row_lt HX2.out
      refine ⟨hb, (hb.cell a2).trans ?_, (hb.cell a3).trans ?_, (hb.cell a3).trans ?_, (hb.cell a3).trans ?_, (hb.cell a3).trans ?_⟩
      · rw [cell_of_row w2 _ 0 _ _ _ HR2.out]; rfl
      · rw [cell_of_row w2 _ 0 _ _ _ HX2.out]; rfl
      · rw [cell_of_row w2 _ 1 _ _ _ HX2.out]; rfl
      · rw [cell_of_row w2 _ 2 _ _ _ HX2.out]; rfl
      · rw [cell_of_row w2 _ 3 _ _ _ HX2.out]; rfl
    have HALL := Lib.hid hall
    have hlg2 : g < w2.heap.size := Nat.lt_of_lt_of_le hlg HB2.out.size
    have hend : ∀ w3, Below w2.heap.size w2 w3 → (w3.cell? ⟨g, 1, none⟩ = some (.int .i64 (us : Nat)) ∧ w3.cell? ⟨g, 5, none⟩ = some (.int .i64 s.room)) ∧ Below w.heap.size w w3 := fun w3 hb => ⟨⟨(hb.cell hlg2).trans hu2, (hb.cell hlg2).trans hm2⟩, By.ext HB2.out hb⟩
    have HEND := Lib.hid hend
    have HSZ := Lib.hid hsize
    have HUS := Lib.hid hus
    have HUS2 := Lib.hid hus'
    clear hall hend hus hus' hbh hd2 hu2 hm2 hx20 hlm hlg2 hfs hfle
    have hw1 : IntKind.i64.wrap ((bh : Int) - (fl : Int)) = (bh : Int) - (fl : Int) := IntWalk.i64_in _ (by omega)
    clear hsize
    go_region_held3 (fun w' => Below w2.heap.size w2 w' ∧ w'.cell? ⟨g4, 0, none⟩ = some (.int .i64 (fl : Nat)) ∧ w'.cell? ⟨w.heap.size, 0, none⟩ = some (.int .i64 (x.kind : Nat)) ∧ w'.cell? ⟨w.heap.size, 1, none⟩ = some (.string (str x.name)) ∧ w'.cell? ⟨w.heap.size, 2, none⟩ = some (.int .i64 (x.off : Nat)) ∧ w'.cell? ⟨w.heap.size, 3, none⟩ = some (.slice A x.data.length c))
      (first
        | assumption
        | exact HALL.out _ (Below.refl _ _).drew
        | exact HALL.out _ HB3.out)
      (first
        | (go_at_call 95; refine (HCL.out _).mono ?_; rintro e w3 ⟨rfl, hb3⟩
           have HB3 := Lib.hid (By.ext (And.left (by assumption)) hb3)
           clear hb3))
    go_wp2
    clear hw1
    have hq := HEND.out w3 HB3.out
    obtain ⟨⟨hq1, hq5⟩, hqb⟩ := hq
    have HQB := Lib.hid hqb
    have hsz : us' + fl = us + bh := HSZ.out
    have e1 : us = fsize F := HUS.out
    have e2 : us' = fsize (doW F x) := HUS2.out
    have hw2 : IntKind.i64.wrap ((us : Int) + ((bh : Int) - (fl : Int))) = (us : Int) + ((bh : Int) - (fl : Int)) := IntWalk.i64_in _ (by omega)
    by_cases h1 : (fl : Int) < (bh : Int)
    · have d1 : decide ((0 : Int) < (bh : Int) - (fl : Int)) = true := decide_eq_true (by omega)
      have d1' : decide (fl < bh) = true := decide_eq_true (by omega)
      by_cases h2 : s.room < (us : Int) + ((bh : Int) - (fl : Int))
      · have d2 : decide (s.room < (us : Int) + ((bh : Int) - (fl : Int))) = true := decide_eq_true h2
        have HT2 := Lib.hid (show takesE F s.room x = 10 by rw [HT.out, if_pos ⟨by omega, by omega⟩])
        clear hqb hsz e1 e2 h1 h2
        go_quiet (fail)
        go_wp2
        go_ret
        exact ⟨by rw [HT2.out]; rfl, belowDrewN HQB.out _⟩
      · have d2 : decide (s.room < (us : Int) + ((bh : Int) - (fl : Int))) = false := decide_eq_false h2
        have HT2 := Lib.hid (show takesE F s.room x = 0 by rw [HT.out, if_neg (fun e => by have := e.2; omega)])
        clear hqb hsz e1 e2 h1 h2
        go_quiet (fail)
        go_wp2
        go_ret
        exact ⟨by rw [HT2.out]; rfl, belowDrewN HQB.out _⟩
    · have d1 : decide ((0 : Int) < (bh : Int) - (fl : Int)) = false := decide_eq_false (by omega)
      have d1' : decide (fl < bh) = false := decide_eq_false (by omega)
      have HT2 := Lib.hid (show takesE F s.room x = 0 by rw [HT.out, if_neg (fun e => by have := e.1; omega)])
      clear hqb hsz e1 e2 h1
      go_quiet (fail)
      go_wp2
      go_ret
      exact ⟨by rw [HT2.out]; rfl, belowDrewN HQB.out _⟩
  | false =>
    subst hct
    by_cases hk3 : x.kind = 3
    · have d3 : ((x.kind : Int) != 3) = false := by rw [hk3]; rfl
      have HT := Lib.hid (show takesE F s.room x = if fsize F < fsize (doW F x) ∧ s.room < (fsize (doW F x) : Int) then 10 else 0 by unfold takesE; rw [if_neg (fun e => e.2.1 hk3)])
      clear hk3
      go_upto_region 4 with fail
      clear d3
      have hfl2 : fl ≤ 4194304 := by
        have h1 := bytesOf_le hfit x.name
        have h2 : fl = (bytesOf F x.name).length := HFL.out
        omega
      have hxo : x.off + x.data.length ≤ 4611686018427387904 := by have := hx.2.2.1; have := hx.2.2.2.1; omega
      have hbh0 : behind fl x ≤ 140741783322624 := by
        have := hx.2.2.1
        have := hx.2.2.2.1
        unfold behind
        split
        · omega
        · split <;> omega
      have hsize := size_doW hup (And.intro hx.1 hx.2.1)
      rw [← HFL.out] at hsize
      have hfs := fsize_le hfit
      have hfle : fl ≤ fsize F := by rw [HFL.out]; exact flen_le F x.name
      have HCL := Lib.hid (fun w' => sizeBehind_any fl x A c w' (And.intro hx.1 hx.2.1) hxo)
      obtain ⟨us, hus⟩ : ∃ us, us = fsize F := ⟨_, rfl⟩
      obtain ⟨us', hus'⟩ : ∃ us', us' = fsize (doW F x) := ⟨_, rfl⟩
      obtain ⟨bh, hbh⟩ : ∃ bh, bh = behind fl x := ⟨_, rfl⟩
      rw [← hus, ← hus', ← hbh] at hsize
      rw [← hus] at hfle hfs hu2
      rw [← hbh] at hbh0 HCL
      have hub : us ≤ 288230376151711744 := by omega
      have hall : ∀ w', Below w2.heap.size w2 w' → (Below w2.heap.size w2 w' ∧ w'.cell? ⟨g4, 0, none⟩ = some (.int .i64 (fl : Nat)) ∧ w'.cell? ⟨w.heap.size, 0, none⟩ = some (.int .i64 (x.kind : Nat)) ∧ w'.cell? ⟨w.heap.size, 1, none⟩ = some (.string (str x.name)) ∧ w'.cell? ⟨w.heap.size, 2, none⟩ = some (.int .i64 (x.off : Nat)) ∧ w'.cell? ⟨w.heap.size, 3, none⟩ = some (.slice A x.data.length c)) := by
        intro w' hb
        have a2 := row_lt HR2.out
        have a3 := row_lt HX2.out
        refine ⟨hb, (hb.cell a2).trans ?_, (hb.cell a3).trans ?_, (hb.cell a3).trans ?_, (hb.cell a3).trans ?_, (hb.cell a3).trans ?_⟩
        · rw [cell_of_row w2 _ 0 _ _ _ HR2.out]; rfl
        · rw [cell_of_row w2 _ 0 _ _ _ HX2.out]; rfl
        · rw [cell_of_row w2 _ 1 _ _ _ HX2.out]; rfl
        · rw [cell_of_row w2 _ 2 _ _ _ HX2.out]; rfl
        · rw [cell_of_row w2 _ 3 _ _ _ HX2.out]; rfl
      have HALL := Lib.hid hall
      have hlg2 : g < w2.heap.size := Nat.lt_of_lt_of_le hlg HB2.out.size
      have hend : ∀ w3, Below w2.heap.size w2 w3 → (w3.cell? ⟨g, 1, none⟩ = some (.int .i64 (us : Nat)) ∧ w3.cell? ⟨g, 5, none⟩ = some (.int .i64 s.room)) ∧ Below w.heap.size w w3 := fun w3 hb => ⟨⟨(hb.cell hlg2).trans hu2, (hb.cell hlg2).trans hm2⟩, By.ext HB2.out hb⟩
      have HEND := Lib.hid hend
      have HSZ := Lib.hid hsize
      have HUS := Lib.hid hus
      have HUS2 := Lib.hid hus'
      clear hall hend hus hus' hbh hd2 hu2 hm2 hx20 hlm hlg2 hfs hfle
      have hw1 : IntKind.i64.wrap ((bh : Int) - (fl : Int)) = (bh : Int) - (fl : Int) := IntWalk.i64_in _ (by omega)
      clear hsize
      go_region_held3 (fun w' => Below w2.heap.size w2 w' ∧ w'.cell? ⟨g4, 0, none⟩ = some (.int .i64 (fl : Nat)) ∧ w'.cell? ⟨w.heap.size, 0, none⟩ = some (.int .i64 (x.kind : Nat)) ∧ w'.cell? ⟨w.heap.size, 1, none⟩ = some (.string (str x.name)) ∧ w'.cell? ⟨w.heap.size, 2, none⟩ = some (.int .i64 (x.off : Nat)) ∧ w'.cell? ⟨w.heap.size, 3, none⟩ = some (.slice A x.data.length c))
        (first
          | assumption
          | exact HALL.out _ (Below.refl _ _).drew
          | exact HALL.out _ HB3.out)
        (first
          | (go_at_call 95; refine (HCL.out _).mono ?_; rintro e w3 ⟨rfl, hb3⟩
             have HB3 := Lib.hid (By.ext (And.left (by assumption)) hb3)
             clear hb3))
      go_wp2
      clear hw1
      have hq := HEND.out w3 HB3.out
      obtain ⟨⟨hq1, hq5⟩, hqb⟩ := hq
      have HQB := Lib.hid hqb
      have hsz : us' + fl = us + bh := HSZ.out
      have e1 : us = fsize F := HUS.out
      have e2 : us' = fsize (doW F x) := HUS2.out
      have hw2 : IntKind.i64.wrap ((us : Int) + ((bh : Int) - (fl : Int))) = (us : Int) + ((bh : Int) - (fl : Int)) := IntWalk.i64_in _ (by omega)
      by_cases h1 : (fl : Int) < (bh : Int)
      · have d1 : decide ((0 : Int) < (bh : Int) - (fl : Int)) = true := decide_eq_true (by omega)
        have d1' : decide (fl < bh) = true := decide_eq_true (by omega)
        by_cases h2 : s.room < (us : Int) + ((bh : Int) - (fl : Int))
        · have d2 : decide (s.room < (us : Int) + ((bh : Int) - (fl : Int))) = true := decide_eq_true h2
          have HT2 := Lib.hid (show takesE F s.room x = 10 by rw [HT.out, if_pos ⟨by omega, by omega⟩])
          clear hqb hsz e1 e2 h1 h2
          go_quiet (fail)
          go_wp2
          go_ret
          exact ⟨by rw [HT2.out]; rfl, belowDrewN HQB.out _⟩
        · have d2 : decide (s.room < (us : Int) + ((bh : Int) - (fl : Int))) = false := decide_eq_false h2
          have HT2 := Lib.hid (show takesE F s.room x = 0 by rw [HT.out, if_neg (fun e => by have := e.2; omega)])
          clear hqb hsz e1 e2 h1 h2
          go_quiet (fail)
          go_wp2
          go_ret
          exact ⟨by rw [HT2.out]; rfl, belowDrewN HQB.out _⟩
      · have d1 : decide ((0 : Int) < (bh : Int) - (fl : Int)) = false := decide_eq_false (by omega)
        have d1' : decide (fl < bh) = false := decide_eq_false (by omega)
        have HT2 := Lib.hid (show takesE F s.room x = 0 by rw [HT.out, if_neg (fun e => by have := e.1; omega)])
        clear hqb hsz e1 e2 h1
        go_quiet (fail)
        go_wp2
        go_ret
        exact ⟨by rw [HT2.out]; rfl, belowDrewN HQB.out _⟩
    · have d3 : ((x.kind : Int) != 3) = true := by simpa using (show (x.kind : Int) ≠ 3 by omega)
      by_cases hbig : 4096 ≤ F.length
      · have HT := Lib.hid (show takesE F s.room x = 7 by unfold takesE; rw [if_pos ⟨HTH.out.symm, hk3, hbig⟩])
        have d4 : decide ((4096 : Int) ≤ (F.length : Int)) = true := decide_eq_true (by omega)
        clear hk3 hbig
        go_wp2
        go_ret
        exact ⟨by rw [HT.out]; rfl, HB2.out⟩
      · have HT := Lib.hid (show takesE F s.room x = if fsize F < fsize (doW F x) ∧ s.room < (fsize (doW F x) : Int) then 10 else 0 by unfold takesE; rw [if_neg (fun e => hbig e.2.2)])
        have d4 : decide ((4096 : Int) ≤ (F.length : Int)) = false := decide_eq_false (by omega)
        clear hk3 hbig
        go_upto_region 4 with fail
        clear d3 d4
        have hfl2 : fl ≤ 4194304 := by
          have h1 := bytesOf_le hfit x.name
          have h2 : fl = (bytesOf F x.name).length := HFL.out
          omega
        have hxo : x.off + x.data.length ≤ 4611686018427387904 := by have := hx.2.2.1; have := hx.2.2.2.1; omega
        have hbh0 : behind fl x ≤ 140741783322624 := by
          have := hx.2.2.1
          have := hx.2.2.2.1
          unfold behind
          split
          · omega
          · split <;> omega
        have hsize := size_doW hup (And.intro hx.1 hx.2.1)
        rw [← HFL.out] at hsize
        have hfs := fsize_le hfit
        have hfle : fl ≤ fsize F := by rw [HFL.out]; exact flen_le F x.name
        have HCL := Lib.hid (fun w' => sizeBehind_any fl x A c w' (And.intro hx.1 hx.2.1) hxo)
        obtain ⟨us, hus⟩ : ∃ us, us = fsize F := ⟨_, rfl⟩
        obtain ⟨us', hus'⟩ : ∃ us', us' = fsize (doW F x) := ⟨_, rfl⟩
        obtain ⟨bh, hbh⟩ : ∃ bh, bh = behind fl x := ⟨_, rfl⟩
        rw [← hus, ← hus', ← hbh] at hsize
        rw [← hus] at hfle hfs hu2
        rw [← hbh] at hbh0 HCL
        have hub : us ≤ 288230376151711744 := by omega
        have hall : ∀ w', Below w2.heap.size w2 w' → (Below w2.heap.size w2 w' ∧ w'.cell? ⟨g4, 0, none⟩ = some (.int .i64 (fl : Nat)) ∧ w'.cell? ⟨w.heap.size, 0, none⟩ = some (.int .i64 (x.kind : Nat)) ∧ w'.cell? ⟨w.heap.size, 1, none⟩ = some (.string (str x.name)) ∧ w'.cell? ⟨w.heap.size, 2, none⟩ = some (.int .i64 (x.off : Nat)) ∧ w'.cell? ⟨w.heap.size, 3, none⟩ = some (.slice A x.data.length c)) := by
          intro w' hb
          have a2 := row_lt HR2.out
          have a3 := row_lt HX2.out
          refine ⟨hb, (hb.cell a2).trans ?_, (hb.cell a3).trans ?_, (hb.cell a3).trans ?_, (hb.cell a3).trans ?_, (hb.cell a3).trans ?_⟩
          · rw [cell_of_row w2 _ 0 _ _ _ HR2.out]; rfl
          · rw [cell_of_row w2 _ 0 _ _ _ HX2.out]; rfl
          · rw [cell_of_row w2 _ 1 _ _ _ HX2.out]; rfl
          · rw [cell_of_row w2 _ 2 _ _ _ HX2.out]; rfl
          · rw [cell_of_row w2 _ 3 _ _ _ HX2.out]; rfl
        have HALL := Lib.hid hall
        have hlg2 : g < w2.heap.size := Nat.lt_of_lt_of_le hlg HB2.out.size
        have hend : ∀ w3, Below w2.heap.size w2 w3 → (w3.cell? ⟨g, 1, none⟩ = some (.int .i64 (us : Nat)) ∧ w3.cell? ⟨g, 5, none⟩ = some (.int .i64 s.room)) ∧ Below w.heap.size w w3 := fun w3 hb => ⟨⟨(hb.cell hlg2).trans hu2, (hb.cell hlg2).trans hm2⟩, By.ext HB2.out hb⟩
        have HEND := Lib.hid hend
        have HSZ := Lib.hid hsize
        have HUS := Lib.hid hus
        have HUS2 := Lib.hid hus'
        clear hall hend hus hus' hbh hd2 hu2 hm2 hx20 hlm hlg2 hfs hfle
        have hw1 : IntKind.i64.wrap ((bh : Int) - (fl : Int)) = (bh : Int) - (fl : Int) := IntWalk.i64_in _ (by omega)
        clear hsize
        go_region_held3 (fun w' => Below w2.heap.size w2 w' ∧ w'.cell? ⟨g4, 0, none⟩ = some (.int .i64 (fl : Nat)) ∧ w'.cell? ⟨w.heap.size, 0, none⟩ = some (.int .i64 (x.kind : Nat)) ∧ w'.cell? ⟨w.heap.size, 1, none⟩ = some (.string (str x.name)) ∧ w'.cell? ⟨w.heap.size, 2, none⟩ = some (.int .i64 (x.off : Nat)) ∧ w'.cell? ⟨w.heap.size, 3, none⟩ = some (.slice A x.data.length c))
          (first
            | assumption
            | exact HALL.out _ (Below.refl _ _).drew
            | exact HALL.out _ HB3.out)
          (first
            | (go_at_call 95; refine (HCL.out _).mono ?_; rintro e w3 ⟨rfl, hb3⟩
               have HB3 := Lib.hid (By.ext (And.left (by assumption)) hb3)
               clear hb3))
        go_wp2
        clear hw1
        have hq := HEND.out w3 HB3.out
        obtain ⟨⟨hq1, hq5⟩, hqb⟩ := hq
        have HQB := Lib.hid hqb
        have hsz : us' + fl = us + bh := HSZ.out
        have e1 : us = fsize F := HUS.out
        have e2 : us' = fsize (doW F x) := HUS2.out
        have hw2 : IntKind.i64.wrap ((us : Int) + ((bh : Int) - (fl : Int))) = (us : Int) + ((bh : Int) - (fl : Int)) := IntWalk.i64_in _ (by omega)
        by_cases h1 : (fl : Int) < (bh : Int)
        · have d1 : decide ((0 : Int) < (bh : Int) - (fl : Int)) = true := decide_eq_true (by omega)
          have d1' : decide (fl < bh) = true := decide_eq_true (by omega)
          by_cases h2 : s.room < (us : Int) + ((bh : Int) - (fl : Int))
          · have d2 : decide (s.room < (us : Int) + ((bh : Int) - (fl : Int))) = true := decide_eq_true h2
            have HT2 := Lib.hid (show takesE F s.room x = 10 by rw [HT.out, if_pos ⟨by omega, by omega⟩])
            clear hqb hsz e1 e2 h1 h2
            go_quiet (fail)
            go_wp2
            go_ret
            exact ⟨by rw [HT2.out]; rfl, belowDrewN HQB.out _⟩
          · have d2 : decide (s.room < (us : Int) + ((bh : Int) - (fl : Int))) = false := decide_eq_false h2
            have HT2 := Lib.hid (show takesE F s.room x = 0 by rw [HT.out, if_neg (fun e => by have := e.2; omega)])
            clear hqb hsz e1 e2 h1 h2
            go_quiet (fail)
            go_wp2
            go_ret
            exact ⟨by rw [HT2.out]; rfl, belowDrewN HQB.out _⟩
        · have d1 : decide ((0 : Int) < (bh : Int) - (fl : Int)) = false := decide_eq_false (by omega)
          have d1' : decide (fl < bh) = false := decide_eq_false (by omega)
          have HT2 := Lib.hid (show takesE F s.room x = 0 by rw [HT.out, if_neg (fun e => by have := e.1; omega)])
          clear hqb hsz e1 e2 h1
          go_quiet (fail)
          go_wp2
          go_ret
          exact ⟨by rw [HT2.out]; rfl, belowDrewN HQB.out _⟩
end Go.Proofs.YtnjifhbooikdbaaGreatDoor.Dk
