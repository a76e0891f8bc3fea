/- The laws' begin, small, as contracts of calls. | The laws' alike, as a contract of a call. -/
import Derived.Test.YtcfnfphnjkllcaaLaA
import Derived.Deep.CutRange
/-! The laws' begin, small, as contracts of calls. -/
namespace Go.Proofs.Ytcfnfphnjkllcaa.Dk
open Go.RowKit Go.Maps By Mp

def beginS (room : Int) : DS := newDS (if placeB room = true then room else 50)
def BeginPost (room : Int) (w : World) (e : Ending) (w' : World) : Prop := ∃ g r S T M, e = .returned (.tuple #[.pointer (some ⟨g, 0, none⟩), .pointer (some ⟨r, 0, none⟩)]) ∧ PairAt w' g r (beginS room) S T M ∧ (∀ b, S b ∨ T b → w.heap.size ≤ b) ∧ Below w.heap.size w w'
theorem begin_end {w w1 : World} {g : Nat} {S : Nat → Prop} {n : Int} (hn : 0 ≤ n ∧ n ≤ 4194304) (hd : DiskAt w1 g (newDS n) S) (hS : ∀ b, S b → w.heap.size ≤ b) (hb : Below w.heap.size w w1) :
    PairAt (w1.alloc (.cells #[.slice none 0 0, .slice none 0 0, .int .i64 n, .int .i64 0, .bool false] tRD)) g w1.heap.size (newDS n) S (fun b => b = w1.heap.size) (fun b => b = w1.heap.size) ∧ (∀ b, S b ∨ b = w1.heap.size → w.heap.size ≤ b) ∧ Below w.heap.size w (w1.alloc (.cells #[.slice none 0 0, .slice none 0 0, .int .i64 n, .int .i64 0, .bool false] tRD)) := by
  have h1 := hb.size
  refine ⟨⟨hd.below ((Below.refl _ _).alloc (Nat.le_refl _) _), ⟨.slice none 0 0, .slice none 0 0, heap_alloc_new w1 _, RfAt.nil _ _ _, WsAt.nil _ _ _, rfl, fun b hb => (by cases hb), fun b hb => (by cases hb), fun b hb => hb, fun b hb => by rw [hb, World.size_alloc]; omega, newDS_ok hn⟩, fun b hs ht => ?_⟩, fun b hb' => ?_, hb.alloc h1 _⟩
  · have := hd.lt.1 b hs
    have ht : b = w1.heap.size := ht
    omega
  · rcases hb' with h | h
    · exact hS b h
    · omega
set_option maxRecDepth 100000 in
set_option maxHeartbeats 1000000 in
theorem begin_any (room : Int) (w : World) : Calls Try.prog 10 #[.int .i64 room] w (BeginPost room w) := by
  cases hpl : placeB room with
  | true =>
    have hp2 : 0 ≤ room ∧ room ≤ 4194304 := by simpa [placeB] using hpl
    have HN := Lib.hid (new_any room w hpl)
    have HE := Lib.hid (show beginS room = newDS room by unfold beginS; rw [if_pos hpl])
    have d1 : decide (room < 0) = false := decide_eq_false (by omega)
    have d2 : decide (room > 4194304) = false := decide_eq_false (by omega)
    clear hpl
    go_enter Try.func10, Try.ntmps10
    go_wp2_with fail
    refine HN.out.mono ?_
    rintro e w1 ⟨g, S, rfl, hd1, hS1, hb1⟩
    have HB := Lib.hid (begin_end hp2 hd1 hS1 hb1)
    clear hd1 hS1 hb1 HN
    go_wp2
    go_ret2
    exact ⟨g, _, S, _, _, rfl, HE.out ▸ HB.out.1, HB.out.2.1, HB.out.2.2⟩
  | false =>
    have hp2 : room < 0 ∨ 4194304 < room := by
      simp [placeB] at hpl
      omega
    have HN := Lib.hid (new_any 50 w rfl)
    have HE := Lib.hid (show beginS room = newDS 50 by unfold beginS; rw [hpl, if_neg (by simp)])
    clear hpl
    by_cases hlo : room < 0
    · have d1 : decide (room < 0) = true := decide_eq_true hlo
      go_enter Try.func10, Try.ntmps10
      go_wp2_with fail
      refine HN.out.mono ?_
      rintro e w1 ⟨g, S, rfl, hd1, hS1, hb1⟩
      have HB := Lib.hid (begin_end (by decide) hd1 hS1 hb1)
      clear hd1 hS1 hb1 HN
      go_wp2
      go_ret2
      exact ⟨g, _, S, _, _, rfl, HE.out ▸ HB.out.1, HB.out.2.1, HB.out.2.2⟩
    · have d1 : decide (room < 0) = false := decide_eq_false hlo
      have d2 : decide (room > 4194304) = true := decide_eq_true (by omega)
      go_enter Try.func10, Try.ntmps10
      go_wp2_with fail
      refine HN.out.mono ?_
      rintro e w1 ⟨g, S, rfl, hd1, hS1, hb1⟩
      have HB := Lib.hid (begin_end (by decide) hd1 hS1 hb1)
      clear hd1 hS1 hb1 HN
      go_wp2
      go_ret2
      exact ⟨g, _, S, _, _, rfl, HE.out ▸ HB.out.1, HB.out.2.1, HB.out.2.2⟩
def smallB (a : A1) : Bool := decide (a.n ≤ 100000) || decide (2 < a.kind)
set_option maxRecDepth 100000 in
set_option maxHeartbeats 1000000 in
theorem small_any (a : A1) (p : AC) (w : World) : Calls Try.prog 13 #[aV a p] w (RetB (.bool (smallB a)) w) := by
  obtain ⟨kd, nm, n, d, m⟩ := a
  obtain ⟨A, c⟩ := p
  show Calls Try.prog 13 #[.agg #[.int .i64 kd, .string (str nm), .int .i64 n, .slice A d.length c, .int .u64 (m : Int)]] w (RetB (.bool (decide (n ≤ 100000) || decide (2 < kd))) w)
  obtain ⟨bb, hbb⟩ : ∃ bb, (decide (n ≤ 100000) || decide (2 < kd)) = bb := ⟨_, rfl⟩
  rw [hbb]
  have HBB := Lib.hid hbb
  clear hbb
  obtain ⟨w0, hw0⟩ : ∃ w0, w0 = w.alloc (.cells #[.int .i64 kd, .string (str nm), .int .i64 n, .slice A d.length c, .int .u64 (m : Int)] tAct) := ⟨_, rfl⟩
  have hb0 : Below w.heap.size w w0 := by rw [hw0]; exact (Below.refl _ _).alloc (Nat.le_refl _) _
  have hxr : w0.heap[w.heap.size]? = some (.cells #[.int .i64 kd, .string (str nm), .int .i64 n, .slice A d.length c, .int .u64 (m : Int)] tAct (0, 0)) := by rw [hw0]; exact heap_alloc_new w _
  have hx0 : w0.cell? ⟨w.heap.size, 0, none⟩ = some (.int .i64 kd) := by rw [cell_of_row w0 _ 0 _ _ _ hxr]; rfl
  have hx2 : w0.cell? ⟨w.heap.size, 2, none⟩ = some (.int .i64 n) := by rw [cell_of_row w0 _ 2 _ _ _ hxr]; rfl
  have HB0 := Lib.hid hb0
  have HW0 := Lib.hid hw0
  clear hb0 hxr
  go_enter Try.func13, Try.ntmps13
  go_upto_region 1 with fail
  rw [← HW0.out]
  clear hw0 HW0
  by_cases h1 : n ≤ 100000
  · have d1 : decide (n ≤ 100000) = true := decide_eq_true h1
    have HE := Lib.hid (show (decide (n ≤ 100000) || decide (2 < kd)) = true by rw [d1]; rfl)
    go_wp2
    go_ret
    rw [← HBB.out, HE.out]
    exact ⟨rfl, HB0.out⟩
  · have d1 : decide (n ≤ 100000) = false := decide_eq_false h1
    by_cases h2 : 2 < kd
    · have d2 : decide (kd > 2) = true := decide_eq_true h2
      have HE := Lib.hid (show (decide (n ≤ 100000) || decide (2 < kd)) = true by rw [d1, decide_eq_true h2]; rfl)
      go_wp2
      go_ret
      rw [← HBB.out, HE.out]
      exact ⟨rfl, HB0.out⟩
    · have d2 : decide (kd > 2) = false := decide_eq_false h2
      have HE := Lib.hid (show (decide (n ≤ 100000) || decide (2 < kd)) = false by rw [d1, decide_eq_false h2]; rfl)
      go_wp2
      go_ret
      rw [← HBB.out, HE.out]
      exact ⟨rfl, HB0.out⟩
end Go.Proofs.Ytcfnfphnjkllcaa.Dk

/-! The laws' alike, as a contract of a call. -/
namespace Go.Proofs.Ytcfnfphnjkllcaa.Dk
open Go.RowKit Go.Maps By Mp

/-- All names are names. -/
def Nmd (s : DS) : Prop := (∀ p ∈ s.sure, named p.1 = true) ∧ ∀ x ∈ s.unsure, named x.name = true
theorem nmd_doW {F : Fs} {x : W1} (h : ∀ p ∈ F, named p.1 = true) (hx : named x.name = true) : ∀ p ∈ doW F x, named p.1 = true := by
  intro p hp
  unfold doW at hp
  split at hp
  · exact h p (List.mem_filter.1 hp).1
  · rcases mem_put hp with rfl | hp
    · exact hx
    · exact h p hp
theorem nmd_all {l : List W1} : ∀ {F : Fs}, (∀ p ∈ F, named p.1 = true) → (∀ x ∈ l, named x.name = true) → ∀ p ∈ l.foldl doW F, named p.1 = true := by
  induction l with
  | nil => exact fun h _ => h
  | cons x r ih => exact fun h hx => ih (nmd_doW h (hx x (by simp))) (fun y hy => hx y (by simp [hy]))
theorem nmd_files {s : DS} (h : Nmd s) : ∀ p ∈ s.files, named p.1 = true := nmd_all h.1 h.2
theorem ret_flip {P : Program} {f : FuncId} {args : Array Value} {w : World} {v : Value} (h : Calls P f args w (Ret v w)) : Calls P f args w (fun e w' => e = .returned v ∧ w' = w) := h.mono fun _ _ h => ⟨h.1, h.2.symm⟩
theorem rfiles_at {w : World} {r : Nat} {s : DS} {T M : Nat → Prop} (h : RDAt w r s T M) (hcnt : s.cnt ≤ 68719476736) : Calls Try.prog 18 #[.pointer (some ⟨r, 0, none⟩)] w (GivesF s.files w) := by
  have hok : s.Ok := by
    obtain ⟨v, u, h⟩ := h
    exact h.ok
  obtain ⟨v, u, h⟩ := h
  exact rfiles_any r s v u T _ w h.row rfl rfl (h.sure.keep (fun _ _ => rfl) (fun _ _ => rfl) (fun _ h => h.1)) (h.un.keep (fun _ _ => rfl) (fun _ _ => rfl) (fun _ h => h.1)) h.lt hok hcnt
theorem belowAlloc {w w' : World} (h : Below w.heap.size w w') (o : Obj) : Below w.heap.size w (w'.alloc o) := h.alloc h.size o
theorem belowSet {w w' : World} (h : Below w.heap.size w w') (p : Addr) (hp : w.heap.size ≤ p.block) (u : Value) : Below w.heap.size w (w'.setCell p u) := h.setCell (p := p) hp u
theorem two_boxes (w : World) (oa ob : Obj) : ((w.alloc oa).alloc ob).drew.heap[w.heap.size]? = some oa ∧ ((w.alloc oa).alloc ob).drew.heap[w.heap.size + 1]? = some ob ∧ Below w.heap.size w ((w.alloc oa).alloc ob).drew := by
  refine ⟨?_, ?_, ((belowAlloc (belowAlloc (Below.refl _ _) _) _).drew)⟩
  · exact (heap_alloc_old (w.alloc oa) _ (by simp)).trans (heap_alloc_new w oa)
  · have h := heap_alloc_new (w.alloc oa) ob
    rw [World.size_alloc] at h
    exact h
set_option maxRecDepth 100000 in
set_option maxHeartbeats 4000000 in
theorem alike_any (g r : Nat) (s : DS) (S T M : Nat → Prop) (w : World) (hp : PairAt w g r s S T M) (hcnt : s.cnt ≤ 68719476736) (hnm : Nmd s) :
    Calls Try.prog 15 #[.pointer (some ⟨g, 0, none⟩), .pointer (some ⟨r, 0, none⟩)] w (RetB (.bool true) w) := by
  have HFI := Lib.hid (rfiles_at hp.r hcnt)
  have HP := Lib.hid hp
  have HC := Lib.hid hcnt
  have HNM := Lib.hid (nmd_files hnm)
  have HUP := Lib.hid (show Up s.files from up_all hp.d.lt.2.2.up)
  have HFLL := Lib.hid (Nat.le_trans (files_le hp.d.lt.2.2) hcnt)
  have HUN := Lib.hid (show s.unsure.length ≤ 68719476736 by unfold DS.cnt at hcnt; omega)
  have HSZ := Lib.hid (Nat.le_trans (fsize_big hp.d.lt.2.2 hcnt) (by decide : 288230376151711744 ≤ 9223372036854775807))
  clear hp hcnt hnm
  go_enter Try.func15, Try.ntmps15
  go_wp2_with fail
  refine HFI.out.mono ?_
  rintro e w1 ⟨v5, rfl, ho5, hb1⟩
  have HO5 := Lib.hid ho5
  have HB1 := Lib.hid hb1
  obtain ⟨A5, c5, rfl, _⟩ := ho5.form
  have HNA := Lib.hid (names_any g s S w1 (HP.out.below hb1).d HC.out)
  clear ho5 hb1 HFI
  go_wp2_with fail
  refine HNA.out.mono ?_
  rintro e w2 ⟨v6, rfl, ho6, hb2⟩
  have HO6 := Lib.hid ho6
  have HB2 := Lib.hid hb2
  have HB02 := Lib.hid (By.ext HB1.out hb2)
  have HUS := Lib.hid (unsure_any g s S w2 (HP.out.below (By.ext HB1.out hb2)).d HC.out)
  clear hb2 HNA
  go_wp2_with fail
  refine HUS.out.mono ?_
  rintro e w3 ⟨v7, rfl, ho7, hb3⟩
  have HO7 := Lib.hid ho7
  have HB3 := Lib.hid (By.ext HB02.out hb3)
  have HB13 := Lib.hid (HB2.out.trans (hb3.mono HB2.out.size))
  have HB23 := Lib.hid hb3
  obtain ⟨A7, c7, rfl, _⟩ := ho7.form
  obtain ⟨A6, c6, rfl⟩ := ownsRow_form ho6
  have HP3 := Lib.hid (HP.out.below HB3.out)
  obtain ⟨v, u, hrd⟩ := HP3.out.r
  have hrow := hrd.row
  have HRD := Lib.hid hrd
  obtain ⟨Au, cu, hu, _⟩ := hrd.un.form
  subst hu
  have hc1 : w3.cell? ⟨r, 1, none⟩ = some (.slice Au s.unsure.length cu) := by rw [cell_of_row w3 r 1 _ _ _ hrow]; rfl
  have hc4 : w3.cell? ⟨r, 4, none⟩ = some (.bool s.down) := by rw [cell_of_row w3 r 4 _ _ _ hrow]; rfl
  have HDN := Lib.hid (fun n => ret_flip (down_any g s S (w3.drewN n) (HP3.out.below (belowDrewN (Below.refl _ _) n)).d))
  have HUD := Lib.hid (fun n => ret_flip (used_any g s S (w3.drewN n) (HP3.out.below (belowDrewN (Below.refl _ _) n)).d))
  have HSI := Lib.hid (fun n => ret_flip (size_any (.slice A5 s.files.length c5) w.heap.size (New8 w w1) s.files (w3.drewN n) (HO5.out.keep (fun b hb => HB13.out.block b (rf_own_lt HO5.out hb).2) (fun b hb => HB13.out.block b hb.2.1) (fun _ h => h)) HSZ.out))
  clear ho6 ho7 hb3 hrd hrow HUS
  go_upto_region 4 with fail
  go_quiet (first
    | (go_at_call 22; exact Calls.quiet_of_same (HDN.out _))
    | (go_at_call 26; exact Calls.quiet_of_same (HUD.out _))
    | (go_at_call 30; exact Calls.quiet_of_same (HSI.out _)))
  go_wp2
  clear hc1 hc4
  go_loopw [8] (fun i wr => ∃ k : Nat, k ≤ s.unsure.length ∧ i = .int .i64 (k : Int) ∧ Below w3.heap.size w3 wr) (fun i _ => s.unsure.length - (intOf i).toNat)
  case atStart => exact ⟨0, Nat.zero_le _, rfl, belowDrewN (Below.refl _ _) _⟩
  case round =>
    obtain ⟨k, hk, rfl, hb⟩ := hrel
    have HB := Lib.hid hb
    have hrow := (hb.block r (row_lt HRD.out.row)).trans HRD.out.row
    have hc1 : wr.cell? ⟨r, 1, none⟩ = some (.slice Au s.unsure.length cu) := by rw [cell_of_row wr r 1 _ _ _ hrow]; rfl
    have hc4 : wr.cell? ⟨r, 4, none⟩ = some (.bool s.down) := by rw [cell_of_row wr r 4 _ _ _ hrow]; rfl
    clear hb hrow
    have hun := HUN.out
    by_cases hlt : k < s.unsure.length
    · obtain ⟨ub, cap, A1, c1, e0, _, hub, hd1, hd2, hx0, hx1, hx2, hx3⟩ := HRD.out.un.at_ hlt
      obtain ⟨uy, capy, A2, c2, e1, _, huy, hy1, hy2, hz0, hz1, hz2, hz3⟩ := HO7.out.at_ hlt
      obtain ⟨x, hx⟩ : ∃ x, x = s.unsure[k] := ⟨_, rfl⟩
      rw [← hx] at hd1 hd2 hx0 hx1 hx2 hx3 hy1 hy2 hz0 hz1 hz2 hz3
      simp only [Value.slice.injEq, true_and] at e0 e1
      obtain ⟨rfl, rfl⟩ := e0
      obtain ⟨rfl, rfl⟩ := e1
      have hq0 : wr.cell? ⟨ub, k * 4, none⟩ = some (.int .i64 (x.kind : Nat)) := (HB.out.cell hub).trans hx0
      have hq1 : wr.cell? ⟨ub, k * 4 + 1, none⟩ = some (.string (str x.name)) := (HB.out.cell hub).trans hx1
      have hq2 : wr.cell? ⟨ub, k * 4 + 2, none⟩ = some (.int .i64 (x.off : Nat)) := (HB.out.cell hub).trans hx2
      have hq3 : wr.cell? ⟨ub, k * 4 + 3, none⟩ = some (.slice A1 x.data.length c1) := (HB.out.cell hub).trans hx3
      have hr0 : wr.cell? ⟨uy, k * 4, none⟩ = some (.int .i64 (x.kind : Nat)) := (HB.out.cell huy).trans hz0
      have hr1 : wr.cell? ⟨uy, k * 4 + 1, none⟩ = some (.string (str x.name)) := (HB.out.cell huy).trans hz1
      have hr2 : wr.cell? ⟨uy, k * 4 + 2, none⟩ = some (.int .i64 (x.off : Nat)) := (HB.out.cell huy).trans hz2
      have hr3 : wr.cell? ⟨uy, k * 4 + 3, none⟩ = some (.slice A2 x.data.length c2) := (HB.out.cell huy).trans hz3
      have HL1 := Lib.hid (show Lies wr wr.heap.size A1 x.data from ((hd2.lies (B := w3.heap.size) (fun b hb => HRD.out.lt b hb.1)).below HB.out).more HB.out.size)
      have HL2 := Lib.hid (show Lies wr wr.heap.size A2 x.data from ((hy2.lies (B := w3.heap.size) (fun b hb => hb.2.1)).below HB.out).more HB.out.size)
      clear hx0 hx1 hx2 hx3 hz0 hz1 hz2 hz3 hd1 hd2 hy1 hy2 hx
      have HALL := Lib.hid (fun w' (hb : Below wr.heap.size wr w') => (show Below wr.heap.size wr w' ∧ w'.cell? ⟨r, 1, none⟩ = some (.slice (some ⟨ub, 0, none⟩) s.unsure.length cu) ∧ w'.cell? ⟨ub, k * 4, none⟩ = some (.int .i64 (x.kind : Nat)) ∧ w'.cell? ⟨ub, k * 4 + 1, none⟩ = some (.string (str x.name)) ∧ w'.cell? ⟨ub, k * 4 + 2, none⟩ = some (.int .i64 (x.off : Nat)) ∧ w'.cell? ⟨ub, k * 4 + 3, none⟩ = some (.slice A1 x.data.length c1) ∧ w'.cell? ⟨uy, k * 4, none⟩ = some (.int .i64 (x.kind : Nat)) ∧ w'.cell? ⟨uy, k * 4 + 1, none⟩ = some (.string (str x.name)) ∧ w'.cell? ⟨uy, k * 4 + 2, none⟩ = some (.int .i64 (x.off : Nat)) ∧ w'.cell? ⟨uy, k * 4 + 3, none⟩ = some (.slice A2 x.data.length c2) from by
        have h1 := HB.out.size
        have hr := row_lt HRD.out.row
        exact ⟨hb, (hb.cell (show r < wr.heap.size by omega)).trans hc1, (hb.cell (show ub < wr.heap.size by omega)).trans hq0, (hb.cell (show ub < wr.heap.size by omega)).trans hq1, (hb.cell (show ub < wr.heap.size by omega)).trans hq2, (hb.cell (show ub < wr.heap.size by omega)).trans hq3, (hb.cell (show uy < wr.heap.size by omega)).trans hr0, (hb.cell (show uy < wr.heap.size by omega)).trans hr1, (hb.cell (show uy < wr.heap.size by omega)).trans hr2, (hb.cell (show uy < wr.heap.size by omega)).trans hr3⟩))
      go_upto_region 9 with fail
      go_cut [9, 10] from 44 to 88 (fun s9 s10 wx => ∃ ga gb, s9 = .pointer (some ⟨ga, 0, none⟩) ∧ s10 = .pointer (some ⟨gb, 0, none⟩) ∧ wx.heap[ga]? = some (.cells (wCells x (A2, c2)).toArray tWrite (0, 0)) ∧ wx.heap[gb]? = some (.cells (wCells x (A1, c1)).toArray tWrite (0, 0)) ∧ Below wr.heap.size wr wx)
      case first =>
        go_region_held3 (fun w' => Below wr.heap.size wr w' ∧ w'.cell? ⟨r, 1, none⟩ = some (.slice (some ⟨ub, 0, none⟩) s.unsure.length cu) ∧ w'.cell? ⟨ub, k * 4, none⟩ = some (.int .i64 (x.kind : Nat)) ∧ w'.cell? ⟨ub, k * 4 + 1, none⟩ = some (.string (str x.name)) ∧ w'.cell? ⟨ub, k * 4 + 2, none⟩ = some (.int .i64 (x.off : Nat)) ∧ w'.cell? ⟨ub, k * 4 + 3, none⟩ = some (.slice A1 x.data.length c1) ∧ w'.cell? ⟨uy, k * 4, none⟩ = some (.int .i64 (x.kind : Nat)) ∧ w'.cell? ⟨uy, k * 4 + 1, none⟩ = some (.string (str x.name)) ∧ w'.cell? ⟨uy, k * 4 + 2, none⟩ = some (.int .i64 (x.off : Nat)) ∧ w'.cell? ⟨uy, k * 4 + 3, none⟩ = some (.slice A2 x.data.length c2))
          (first
            | assumption
            | exact HALL.out _ (Below.refl _ _).drew
            | exact HALL.out _ (belowAlloc (And.left (by assumption)) _)
            | exact HALL.out _ (belowAlloc (Below.refl _ _).drew _)
            | exact HALL.out _ (belowAlloc (belowAlloc (Below.refl _ _).drew _) _))
          (fail)
        · go_wp2
          go_meet
          have h := two_boxes wr (.cells #[.int .i64 (x.kind : Nat), .string (str x.name), .int .i64 (x.off : Nat), .slice A2 x.data.length c2] tWrite) (.cells #[.int .i64 (x.kind : Nat), .string (str x.name), .int .i64 (x.off : Nat), .slice A1 x.data.length c1] tWrite)
          exact ⟨_, _, rfl, rfl, h.1, h.2.1, h.2.2⟩
        · go_wp2
          go_meet
          have h := two_boxes wr (.cells #[.int .i64 (x.kind : Nat), .string (str x.name), .int .i64 (x.off : Nat), .slice A1 x.data.length c1] tWrite) (.cells #[.int .i64 (x.kind : Nat), .string (str x.name), .int .i64 (x.off : Nat), .slice A2 x.data.length c2] tWrite)
          exact ⟨_, _, rfl, rfl, h.2.1, h.1, h.2.2⟩
      obtain ⟨ga, gb, rfl, rfl, hra, hrb, hbx⟩ := hcut
      have ka0 : wc.cell? ⟨ga, 0, none⟩ = some (.int .i64 (x.kind : Nat)) := by rw [cell_of_row wc _ 0 _ _ _ hra]; rfl
      have ka1 : wc.cell? ⟨ga, 1, none⟩ = some (.string (str x.name)) := by rw [cell_of_row wc _ 1 _ _ _ hra]; rfl
      have ka2 : wc.cell? ⟨ga, 2, none⟩ = some (.int .i64 (x.off : Nat)) := by rw [cell_of_row wc _ 2 _ _ _ hra]; rfl
      have ka3 : wc.cell? ⟨ga, 3, none⟩ = some (.slice A2 x.data.length c2) := by rw [cell_of_row wc _ 3 _ _ _ hra]; rfl
      have kb0 : wc.cell? ⟨gb, 0, none⟩ = some (.int .i64 (x.kind : Nat)) := by rw [cell_of_row wc _ 0 _ _ _ hrb]; rfl
      have kb1 : wc.cell? ⟨gb, 1, none⟩ = some (.string (str x.name)) := by rw [cell_of_row wc _ 1 _ _ _ hrb]; rfl
      have kb2 : wc.cell? ⟨gb, 2, none⟩ = some (.int .i64 (x.off : Nat)) := by rw [cell_of_row wc _ 2 _ _ _ hrb]; rfl
      have kb3 : wc.cell? ⟨gb, 3, none⟩ = some (.slice A1 x.data.length c1) := by rw [cell_of_row wc _ 3 _ _ _ hrb]; rfl
      have htx := run_text wc (n := x.data.length) c2 rfl (HL2.out.below hbx)
      have hty := run_text wc (n := x.data.length) c1 rfl (HL1.out.below hbx)
      have hsn : ((str x.name).toList != (str x.name).toList) = false := bne_self_eq_false _
      have hsd : ((str x.data).toList != (str x.data).toList) = false := bne_self_eq_false _
      have HBX := Lib.hid (By.ext HB.out hbx)
      clear hra hrb hbx hc1 hc4 hq0 hq1 hq2 hq3 hr0 hr1 hr2 hr3 HALL
      go_wp2
      go_roundw
      case rel => exact ⟨k + 1, by omega, by go_num, HBX.out⟩
      case measure => simp [intOf]; omega
    · clear hc1
      obtain ⟨wb, hwb⟩ : ∃ wb, wb = wr := ⟨_, rfl⟩
      subst hwb
      cases hdown : s.down with
      | true =>
        rw [hdown] at hc4
        have HNS := Lib.hid (show namesS s = [] by unfold namesS; rw [if_pos hdown])
        rw [HNS.out]
        go_wp2
        go_ret
        exact ⟨rfl, By.ext HB3.out HB.out⟩
      | false =>
        rw [hdown] at hc4
        have HNS := Lib.hid (show namesS s = namesOf s.files by unfold namesS; rw [hdown, if_neg (by simp)])
        have HNL := Lib.hid (show (namesOf s.files).length = s.files.length by simp [namesOf])
        have HDW := Lib.hid hdown
        rw [HNS.out, HNL.out]
        clear hdown
        go_wp2
        go_loopw [11] (fun i wr => ∃ k : Nat, k ≤ s.files.length ∧ i = .int .i64 (k : Int) ∧ Below w3.heap.size w3 wr) (fun i _ => s.files.length - (intOf i).toNat)
        case atStart => exact ⟨0, Nat.zero_le _, rfl, HB.out⟩
        case round =>
          obtain ⟨k2, hk2, rfl, hb⟩ := hrel
          have HBK := Lib.hid hb
          clear hb
          have hfll := HFLL.out
          by_cases hlt2 : k2 < s.files.length
          · obtain ⟨uf, capf, A1, c1, e0, _, huf, hd1, hd2, hx0, hx1⟩ := HO5.out.at_ hlt2
            obtain ⟨p, hp⟩ : ∃ p, p = s.files[k2] := ⟨_, rfl⟩
            have hpm : p ∈ s.files := hp ▸ List.getElem_mem hlt2
            rw [← hp] at hd1 hd2 hx0 hx1
            simp only [Value.slice.injEq, true_and] at e0
            obtain ⟨rfl, rfl⟩ := e0
            have hf13 := HB13.out.size
            have hq0 : wr.cell? ⟨uf, k2 * 2, none⟩ = some (.string (str p.1)) := ((HB13.out.trans (HBK.out.mono hf13)).cell huf).trans hx0
            have hq1 : wr.cell? ⟨uf, k2 * 2 + 1, none⟩ = some (.slice A1 p.2.length c1) := ((HB13.out.trans (HBK.out.mono hf13)).cell huf).trans hx1
            have HL1 := Lib.hid (show Lies wr wr.heap.size A1 p.2 from ((hd2.lies (B := w1.heap.size) (fun b hb => hb.2.1)).below (HB13.out.trans (HBK.out.mono hf13))).more (Nat.le_trans hf13 HBK.out.size))
            have hnp : named p.1 = true := HNM.out p hpm
            have hgp : fget s.files p.1 = some p.2 := fget_mem HUP.out hpm
            have hre : readE s p.1 = 0 := by unfold readE fthere; rw [HDW.out, hnp, hgp]; simp
            have hrb : readB s p.1 = p.2 := by unfold readB bytesOf; rw [hre, if_pos rfl, hgp]; rfl
            have hnl : p.1.length ≤ 140737488355328 := by
              rw [named_eq, Bool.and_eq_true, Bool.and_eq_true, decide_eq_true_eq, decide_eq_true_eq] at hnp
              omega
            have hrd := read_any g s S p.1 wr (HP3.out.below HBK.out).d hnl
            rw [hre, hrb] at hrd
            have HRR := Lib.hid hrd
            obtain ⟨g6, eg, _, hg6, _⟩ : ∃ g6, A6 = some ⟨g6, 0, none⟩ ∧ w1.heap.size ≤ g6 ∧ g6 < w2.heap.size ∧ True := by
              rcases HO6.out.2 with ⟨e0, hn⟩ | ⟨g6, cap6, cur, e0, h1, h2, _⟩
              · rw [HNS.out, HNL.out] at hn; omega
              · injection e0 with e1
                exact ⟨g6, e1, h1, row_lt h2, trivial⟩
            subst eg
            have hn6 : w2.cell? ⟨g6, k2, none⟩ = some (.string (str p.1)) := by
              have h := World.ownsRow.cells HO6.out (g := g6) rfl k2 (.string (str p.1)) (by rw [HNS.out]; simp [namesOf, hp, hlt2])
              rwa [plainAdd, Nat.zero_add] at h
            have hq6 : wr.cell? ⟨g6, k2, none⟩ = some (.string (str p.1)) := ((HB23.out.trans (HBK.out.mono HB23.out.size)).cell hg6).trans hn6
            clear hpm hp hd1 hd2 hx0 hx1 hnp hgp hre hrb hrd hn6
            go_wp2_with fail
            refine HRR.out.mono ?_
            rintro e wx ⟨vx, rfl, hox, hbx⟩
            obtain ⟨Ax, cx, rfl, _, _, _, hlx, _⟩ := hox.form
            have hqx0 : wx.cell? ⟨uf, k2 * 2, none⟩ = some (.string (str p.1)) := (hbx.cell (show uf < wr.heap.size by have := HBK.out.size; omega)).trans hq0
            have hqx1 : wx.cell? ⟨uf, k2 * 2 + 1, none⟩ = some (.slice A1 p.2.length c1) := (hbx.cell (show uf < wr.heap.size by have := HBK.out.size; omega)).trans hq1
            have hqx6 : wx.cell? ⟨g6, k2, none⟩ = some (.string (str p.1)) := (hbx.cell (show g6 < wr.heap.size by have := HBK.out.size; have := HB23.out.size; omega)).trans hq6
            have htx := fun q => run_text (wx.drewN q) (n := p.2.length) cx rfl (hlx.drewN q)
            have hty := fun q => run_text (wx.drewN q) (n := p.2.length) c1 rfl ((HL1.out.below hbx).drewN q)
            have hsn : ((str p.1).toList != (str p.1).toList) = false := bne_self_eq_false _
            have hsd : ((str p.2).toList != (str p.2).toList) = false := bne_self_eq_false _
            have HBX := Lib.hid (By.ext HBK.out hbx)
            clear hox hbx hlx hq0 hq1 hq6 HRR
            go_wp2
            go_quiet (fail)
            go_wp2
            go_roundw
            case rel => exact ⟨k2 + 1, by omega, by go_num, belowDrewN HBX.out _⟩
            case measure => simp [intOf]; omega
          · go_wp2
            go_ret
            exact ⟨rfl, By.ext HB3.out HBK.out⟩
end Go.Proofs.Ytcfnfphnjkllcaa.Dk
