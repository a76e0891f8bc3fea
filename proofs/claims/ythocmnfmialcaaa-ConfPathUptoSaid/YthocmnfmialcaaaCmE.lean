/- The law ConfPath, walked. Written by gencn7.py. -/
import Derived.Test.YthocmnfmialcaaaCmD
import Derived.Deep.RegionWith
import Derived.Deep.DeepCutAuto
namespace Go.Proofs.Ythocmnfmialcaaa.Cn
open Go.RowKit Go.ChangeAt By CoP Co Mo Kd Go.Shelf
variable {w W w' : World} {A A2 : Option Addr} {n c m c2 : Nat} {vs ls : List Int}
theorem take_at {P : Program} {ops : Array Oper} {Q : Exit → Act → World → Prop} {md : Region.Mode} {S : World → Prop} {i : Nat} {oi : Oper} {d : Option Tmp} {v : Value} {fuel : Nat} {listed : Array Bool} {a : Act} {w : World} (hi : ops[i]? = some oi) (hd : oi.dst = d)
    (hs : Region.noSelect ops = true) (hf : Region.free md ops listed i = true) (hr : (Region.ready md ops listed).contains i = true)
    (hQ : ∀ c a w, Q (.panic c) (a.put d v) w → Q (.panic c) a w) (hy : YieldsIf P ops S oi v a) (hS : S w)
    (h : wpAnyH P md ops Q S fuel (listed.setIfInBounds i true) (a.put d v) w) : wpAnyH P md ops Q S (fuel + 1) listed a w := by
  subst hd
  exact wpAnyH_take hi hs hf hr hQ hy hS h
theorem keep_alloc {W w' : World} (h : Below W.heap.size W w') (o : Obj) : Below W.heap.size W (w'.alloc o) := h.alloc h.size o
/-- Blocks that are there, but one. -/
def But (g : Nat) (w : World) : Nat → Prop := fun b => b < w.heap.size ∧ b ≠ g
/-- A block made behind the call's, and written. -/
theorem keep_box {W w' : World} (h : Below W.heap.size W w') (X : Obj) (x y : Value) : Below W.heap.size W (((w'.alloc X).setCell ⟨w'.heap.size, 0, none⟩ x).setCell ⟨w'.heap.size, 1, none⟩ y) :=
  ((h.alloc h.size X).setCell (p := ⟨w'.heap.size, 0, none⟩) h.size x).setCell (p := ⟨w'.heap.size, 1, none⟩) h.size y
theorem path_bools {k : Nat} {vs ls : List Int} {x : Int} (hk : k = 1 ∨ k = 2 ∨ k = 3) (he : chgE k vs ls x = 0) :
    (∀ z, z ≠ x → decide (z ∈ chgV k vs ls x) = decide (z ∈ vs) ∧ (decide (z ∈ chgV k vs ls x) || decide (z ∈ chgL k vs ls x)) = (decide (z ∈ vs) || decide (z ∈ ls))) ∧
      ¬ (decide (x ∈ chgV k vs ls x) = decide (x ∈ vs) ∧ (decide (x ∈ chgV k vs ls x) || decide (x ∈ chgL k vs ls x)) = (decide (x ∈ vs) || decide (x ∈ ls))) := by
  refine ⟨fun z hz => ?_, fun ⟨h1, h2⟩ => ?_⟩
  · obtain ⟨h1, h2⟩ := chg_others hk he hz
    refine ⟨decide_eq_decide.2 h1, ?_⟩
    rw [← Bool.decide_or, ← Bool.decide_or]
    exact decide_eq_decide.2 h2
  · refine chg_own hk he ⟨decide_eq_decide.1 h1, ?_⟩
    rw [← Bool.decide_or, ← Bool.decide_or] at h2
    exact decide_eq_decide.1 h2
set_option maxRecDepth 100000 in
set_option maxHeartbeats 8000000 in
theorem confPath_walk (h : CfAt w (Old w) A n c A2 m c2 vs ls) (Ak : Option Addr) (nk ck : Nat) (kinds : List UInt8) (hnk : nk = kinds.length) (hmk : nk ≤ 9437184) (hrk : Lies w w.heap.size Ak kinds)
    (Ai : Option Addr) (ni ci : Nat) (ids : List Int) (hni : ni = ids.length) (hmi : ni ≤ 9437184) (hri : LiesI w w.heap.size Ai ids) :
    Calls Try.prog 8 #[cfV A n c A2 m c2, .slice Ak nk ck, .slice Ai ni ci] w (Says true w) := by
  obtain ⟨W, hW⟩ : ∃ W, W = w.alloc (.cells #[.slice A n c, .slice A2 m c2] 24) := ⟨_, rfl⟩
  have hbW : Below w.heap.size w W := by rw [hW]; exact (Below.refl _ _).alloc (Nat.le_refl _) _
  have hrow : W.heap[w.heap.size]? = some (.cells #[.slice A n c, .slice A2 m c2] 24 (0, 0)) := by rw [hW]; exact heap_alloc_new w _
  have HCF := Lib.hid h
  have HBW := Lib.hid hbW
  have HRW := Lib.hid hrow
  have HNK := Lib.hid hnk
  have HNI := Lib.hid hni
  have HMK := Lib.hid hmk
  have HMI := Lib.hid hmi
  have HRK := Lib.hid hrk
  have HRI := Lib.hid hri
  clear h hbW hrow hnk hni hrk hri hmk hmi
  go_enter Try.func8, Try.ntmps8
  go_wp2_with fail
  rw [← hW]
  clear hW
  refine (answers_any W).mono ?_
  rintro e w1 ⟨rfl, hb1⟩
  have HB1 := Lib.hid hb1
  obtain ⟨k0, k1⟩ := box_cells (row_stays HRW.out hb1)
  clear hb1
  by_cases hs : confB vs ls = true
  case neg =>
    have hok := confOKc_any HCF.out w1 (By.ext HBW.out HB1.out)
    rw [show confB vs ls = false by simpa using hs] at hok
    have HOK := Lib.hid hok
    clear hok hs
    go_wp2_with fail
    refine HOK.out.mono ?_
    rintro e w2 ⟨rfl, hb2⟩
    have HB2 := Lib.hid (By.ext HB1.out hb2)
    clear hb2
    go_wp2_with fail
    refine (answers_any w2).mono ?_
    rintro e w3 ⟨rfl, hb3⟩
    have HB3 := Lib.hid (By.ext HB2.out hb3)
    clear hb3
    go_wp2
    go_ret
    exact ⟨rfl, By.ext HBW.out HB3.out⟩
  have hok := confOKc_any HCF.out w1 (By.ext HBW.out HB1.out)
  rw [hs] at hok
  have HOK := Lib.hid hok
  have HS := Lib.hid hs
  clear hok hs
  go_wp2_with fail
  refine HOK.out.mono ?_
  rintro e w2 ⟨rfl, hb2⟩
  have HB2 := Lib.hid (By.ext HB1.out hb2)
  clear hb2 k0 k1
  go_wp2
  go_loopw [7, 8, 9, 10] (fun i _ _ _ wr => ∃ (k : Nat) (A : Option Addr) (n c : Nat) (A2 : Option Addr) (m c2 : Nat) (vs ls : List Int), k ≤ 60 ∧ i = .int .i64 k ∧ Below w.heap.size w wr ∧ w.heap.size < wr.heap.size ∧
    wr.heap[w.heap.size]? = some (.cells #[.slice A n c, .slice A2 m c2] 24 (0, 0)) ∧ CfAt wr (But w.heap.size wr) A n c A2 m c2 vs ls ∧ confB vs ls = true) (fun i _ _ _ _ => 60 - (intOf i).toNat)
  case atStart =>
    have h1 := By.ext HBW.out HB2.out
    have h2 := row_lt' HRW.out
    have h3 := HB2.out.size
    exact ⟨0, A, n, c, A2, m, c2, vs, ls, Nat.zero_le _, rfl, h1, by omega, row_stays HRW.out HB2.out, HCF.out.keep (fun b hb => h1.block b hb) (fun b hb => ⟨by have : b < w.heap.size := hb; omega, by have : b < w.heap.size := hb; omega⟩), HS.out⟩
  case round =>
    clear HCF HRW HS HOK
    obtain ⟨k, A, n, c, A2, m, c2, vs, ls, hk, rfl, hb, hlt, hrow, hcf, hs⟩ := hrel
    obtain ⟨v0, hv0⟩ : ∃ v0, v0 = wr := ⟨_, rfl⟩
    subst hv0
    have HB := Lib.hid hb
    have HLT := Lib.hid hlt
    have HROW := Lib.hid hrow
    have HCF := Lib.hid hcf
    have HS := Lib.hid hs
    have hmk : nk ≤ 9437184 := HMK.out
    have hmi : ni ≤ 9437184 := HMI.out
    obtain ⟨k0, k1⟩ := box_cells hrow
    clear hlt hrow hcf hs
    by_cases c1 : k < nk
    case neg =>
      have i1 : ¬ (k : Int) < (nk : Int) := by omega
      have j1 : decide (k < nk) = false := decide_eq_false c1
      clear hb
      go_wp2
      go_ret
      exact ⟨rfl, HB.out⟩
    have i1 : (k : Int) < (nk : Int) := by omega
    have j1 : decide (k < nk) = true := decide_eq_true c1
    by_cases c2' : k < ni
    case neg =>
      have i2 : ¬ (k : Int) < (ni : Int) := by omega
      have j2 : decide (k < ni) = false := decide_eq_false c2'
      clear hb
      go_wp2
      go_ret
      exact ⟨rfl, HB.out⟩
    have i2 : (k : Int) < (ni : Int) := by omega
    have j2 : decide (k < ni) = true := decide_eq_true c2'
    by_cases c3 : k < 60
    case neg =>
      have i3 : ¬ (k : Int) < 60 := by omega
      have j3 : decide (k < 60) = false := decide_eq_false c3
      clear hb
      go_wp2
      go_ret
      exact ⟨rfl, HB.out⟩
    have i3 : (k : Int) < 60 := by omega
    have j3 : decide (k < 60) = true := decide_eq_true c3
    have hkl : k < kinds.length := by have := HNK.out; omega
    have hil : k < ids.length := by have := HNI.out; omega
    obtain ⟨gk, ok, rfl, hgk, -⟩ := HRK.out.at_ hkl
    obtain ⟨gi, oi, rfl, hgi, -, hx0, hx1⟩ := HRI.out.at_ hil
    have hkc : ∀ w', Below w.heap.size w w' → w'.cell? ⟨gk, ok + k, none⟩ = some (.int .u8 (kinds[k].toNat : Int)) := fun w' hb' => by
      obtain ⟨g3, o3, e3, _, h3⟩ := (HRK.out.below hb').at_ hkl
      injection e3 with e3
      injection e3 with e4 e5
      subst e4 e5
      exact h3
    have hic : ∀ w', Below w.heap.size w w' → w'.cell? ⟨gi, oi + k, none⟩ = some (.int .i64 ids[k]) := fun w' hb' => by
      obtain ⟨g3, o3, e3, _, h3, _⟩ := (HRI.out.below hb').at_ hil
      injection e3 with e3
      injection e3 with e4 e5
      subst e4 e5
      exact h3
    generalize kinds[k].toNat = kd at hkc
    generalize ids[k] = x at hic hx0 hx1
    obtain ⟨r, hr3, hr⟩ : ∃ r : Nat, r < 3 ∧ kd % 3 = r := ⟨kd % 3, Nat.mod_lt _ (by decide), rfl⟩
    have hri2 : (kd : Int) % 3 = (r : Int) := by omega
    have hkk : r + 1 = 1 ∨ r + 1 = 2 ∨ r + 1 = 3 := by omega
    have hch := fun (w' : World) (hb' : Below v0.heap.size v0 w') => change_any (r + 1) hkk ((HCF.out.less (fun b hb => hb.1 : ∀ b, But w.heap.size v0 b → Old v0 b)).below hb') x
    rw [show ((r + 1 : Nat) : Int) = (r : Int) + 1 by omega] at hch
    have hpb := path_bools (vs := vs) (ls := ls) (x := x) hkk
    have hso := chg_sound (vs := vs) (ls := ls) (x := x) hkk
    generalize chgE (r + 1) vs ls x = er at hch hpb hso
    generalize chgV (r + 1) vs ls x = us at hch hpb hso
    generalize chgL (r + 1) vs ls x = ks at hch hpb hso
    have HCH := Lib.hid hch
    have HPB := Lib.hid hpb
    have HSO := Lib.hid hso
    have HKC := Lib.hid hkc
    have HIC := Lib.hid hic
    have HX := Lib.hid (show I64 x from ⟨hx0, hx1⟩)
    have hs0 : Below v0.heap.size v0 v0 := Below.refl _ _
    have hkc1 : ∀ w', Below v0.heap.size v0 w' → w'.cell? ⟨gk, ok + k, none⟩ = some (.int .u8 (kd : Int)) := fun w' hb' => HKC.out w' (HB.out.trans (hb'.mono HB.out.size))
    have hic1 : ∀ w', Below v0.heap.size v0 w' → w'.cell? ⟨gi, oi + k, none⟩ = some (.int .i64 x) := fun w' hb' => HIC.out w' (HB.out.trans (hb'.mono HB.out.size))
    have hbx0 : ∀ w', Below v0.heap.size v0 w' → w'.cell? ⟨w.heap.size, 0, none⟩ = some (.slice A n c) := fun w' hb' => (box_cells (row_stays HROW.out hb')).1
    have hbx1 : ∀ w', Below v0.heap.size v0 w' → w'.cell? ⟨w.heap.size, 1, none⟩ = some (.slice A2 m c2) := fun w' hb' => (box_cells (row_stays HROW.out hb')).2
    have hkp : (0 : Int) ≤ (k : Int) := by omega
    clear hkl hil hkc hic hx0 hx1 hch hpb hso hb hkk hr hgk hgi
    go_upto_region 6 with fail
    have hwr : IntKind.i64.wrap (IntKind.i64.wrap ((kd : Int).tmod 3) + 1) = (r : Int) + 1 := by
      have h1 : (kd : Int).tmod 3 = (r : Int) := by rw [Int.tmod_eq_emod_of_nonneg (by omega)]; exact hri2
      rw [h1, show IntKind.i64.wrap (r : Int) = (r : Int) from IntWalk.i64_in _ (by constructor <;> omega)]
      exact IntWalk.i64_in _ (by constructor <;> omega)
    clear k0 k1
    go_cut [8, 9] (fun p e wx => ∃ (g2 : Nat) (A3 : Option Addr) (n3 c3 : Nat) (A4 : Option Addr) (n4 c4 : Nat), p = .pointer (some ⟨g2, 0, none⟩) ∧ e = .int .i64 er ∧ Below v0.heap.size v0 wx ∧ wx.heap[g2]? = some (.cells #[.slice A3 n3 c3, .slice A4 n4 c4] 24 (0, 0)) ∧ CfAt wx (fun b => v0.heap.size ≤ b ∧ b < wx.heap.size) A3 n3 c3 A4 n4 c4 us ks)
    case first =>
      refine wp_region_held_drew (S := fun w' => Below v0.heap.size v0 w') (by kernel_rfl) ((Below.refl _ v0).drew) (fun hHeld => ?_)
      refine take_at (i := 0) (d := some 36) (v := ?_) rfl rfl (by kernel_rfl) (by kernel_rfl) (by kernel_rfl) (fun _ _ _ h => h) (Or.inl ⟨by rfl, ?_⟩) hHeld ?_
      rotate_left
      · (intro w hSw; (try dsimp only at hSw); first | (go_simp; done) | (go_simp; with_reducible rfl))
      try simp only [Act.put, List.setIfInBounds_toArray, List.set_cons_zero, List.set_cons_succ]
      refine take_at (i := 1) (d := some 37) (v := ?_) rfl rfl (by kernel_rfl) (by kernel_rfl) (by kernel_rfl) (fun _ _ _ h => h) (Or.inl ⟨by rfl, ?_⟩) hHeld ?_
      rotate_left
      · (intro w hSw; (try dsimp only at hSw); first | (go_simp; done) | (go_simp; with_reducible rfl))
      try simp only [Act.put, List.setIfInBounds_toArray, List.set_cons_zero, List.set_cons_succ]
      refine take_at (i := 2) (d := some 38) (v := ?_) rfl rfl (by kernel_rfl) (by kernel_rfl) (by kernel_rfl) (fun _ _ _ h => h) (Or.inl ⟨by rfl, ?_⟩) hHeld ?_
      rotate_left
      · (intro w hSw; (try dsimp only at hSw); first | (go_simp; done) | (go_simp; with_reducible rfl))
      try simp only [Act.put, List.setIfInBounds_toArray, List.set_cons_zero, List.set_cons_succ]
      refine take_at (i := 3) (d := some 39) (v := ?_) rfl rfl (by kernel_rfl) (by kernel_rfl) (by kernel_rfl) (fun _ _ _ h => h) (Or.inl ⟨by rfl, ?_⟩) hHeld ?_
      rotate_left
      · (intro w hSw; (try dsimp only at hSw); first | (go_simp; done) | (go_simp; with_reducible rfl))
      try simp only [Act.put, List.setIfInBounds_toArray, List.set_cons_zero, List.set_cons_succ]
      refine take_at (i := 4) (d := some 40) (v := ?_) rfl rfl (by kernel_rfl) (by kernel_rfl) (by kernel_rfl) (fun _ _ _ h => h) (Or.inl ⟨by rfl, ?_⟩) hHeld ?_
      rotate_left
      · (intro w hSw; (try dsimp only at hSw); first | (go_simp; done) | (go_simp; with_reducible rfl))
      try simp only [Act.put, List.setIfInBounds_toArray, List.set_cons_zero, List.set_cons_succ]
      refine take_at (i := 5) (d := some 41) (v := ?_) rfl rfl (by kernel_rfl) (by kernel_rfl) (by kernel_rfl) (fun _ _ _ h => h) (Or.inl ⟨by rfl, ?_⟩) hHeld ?_
      rotate_left
      · (intro w hSw; (try dsimp only at hSw); first | (go_simp; done) | (go_simp; with_reducible rfl))
      try simp only [Act.put, List.setIfInBounds_toArray, List.set_cons_zero, List.set_cons_succ]
      refine take_at (i := 6) (d := some 42) (v := ?_) rfl rfl (by kernel_rfl) (by kernel_rfl) (by kernel_rfl) (fun _ _ _ h => h) (Or.inl ⟨by rfl, ?_⟩) hHeld ?_
      rotate_left
      · (intro w hSw; (try dsimp only at hSw); first | (go_simp; done) | (go_simp; with_reducible rfl))
      try simp only [Act.put, List.setIfInBounds_toArray, List.set_cons_zero, List.set_cons_succ]
      refine take_at (i := 7) (d := some 43) (v := ?_) rfl rfl (by kernel_rfl) (by kernel_rfl) (by kernel_rfl) (fun _ _ _ h => h) (Or.inl ⟨by rfl, ?_⟩) hHeld ?_
      rotate_left
      · (intro w hSw; (try dsimp only at hSw); first | (go_simp; done) | (go_simp; with_reducible rfl))
      try simp only [Act.put, List.setIfInBounds_toArray, List.set_cons_zero, List.set_cons_succ]
      refine take_at (i := 8) (d := some 44) (v := ?_) rfl rfl (by kernel_rfl) (by kernel_rfl) (by kernel_rfl) (fun _ _ _ h => h) (Or.inl ⟨by rfl, ?_⟩) hHeld ?_
      rotate_left
      · (intro w hSw; (try dsimp only at hSw); first | (go_simp; done) | (go_simp; with_reducible rfl))
      try simp only [Act.put, List.setIfInBounds_toArray, List.set_cons_zero, List.set_cons_succ]
      refine take_at (i := 9) (d := some 45) (v := ?_) rfl rfl (by kernel_rfl) (by kernel_rfl) (by kernel_rfl) (fun _ _ _ h => h) (Or.inl ⟨by rfl, ?_⟩) hHeld ?_
      rotate_left
      · (intro w hSw; (try dsimp only at hSw); first | (go_simp; done) | (go_simp; with_reducible rfl))
      try simp only [Act.put, List.setIfInBounds_toArray, List.set_cons_zero, List.set_cons_succ]
      refine take_at (i := 10) (d := some 46) (v := ?_) rfl rfl (by kernel_rfl) (by kernel_rfl) (by kernel_rfl) (fun _ _ _ h => h) (Or.inl ⟨by rfl, ?_⟩) hHeld ?_
      rotate_left
      · (intro w hSw; (try dsimp only at hSw); first | (go_simp; done) | (go_simp; with_reducible rfl))
      try simp only [Act.put, List.setIfInBounds_toArray, List.set_cons_zero, List.set_cons_succ]
      refine take_at (i := 11) (d := some 47) (v := ?_) rfl rfl (by kernel_rfl) (by kernel_rfl) (by kernel_rfl) (fun _ _ _ h => h) (Or.inl ⟨by rfl, ?_⟩) hHeld ?_
      rotate_left
      · (intro w hSw; (try dsimp only at hSw); first | (go_simp; done) | (go_simp; with_reducible rfl))
      try simp only [Act.put, List.setIfInBounds_toArray, List.set_cons_zero, List.set_cons_succ]
      refine wpAnyH_ready (rs := [12, 16]) (by kernel_rfl) (by simp) ?_
      refine AllReadyH.cons rfl (fun K hK => ?_) (AllReadyH.cons rfl (fun K hK => ?_) AllReadyH.nil)
      · go_simp
        try rw [hwr]
        refine (HCH.out _ hHeld).mono ?_
        rintro e w4 ⟨A3, n3, c3, A4, n4, c4, rfl, h4, hb4⟩
        have hs4 : Below v0.heap.size v0 w4 := By.ext hHeld hb4
        dsimp only
        refine hK.out _ _ hs4 (fun hHeld => ?_)
        clear hK K
        try simp only [Act.put, List.setIfInBounds_toArray, List.set_cons_zero, List.set_cons_succ]
        have HN4 := Lib.hid (show CfAt w4 (fun b => v0.heap.size ≤ b ∧ b < w4.heap.size) A3 n3 c3 A4 n4 c4 us ks from h4.less (fun b hb => ⟨hb.1.1, hb.1.2⟩))
        have r4 := heap_alloc_new w4 (.cells #[.slice none 0 0, .slice none 0 0] 24)
        obtain ⟨n0, n1⟩ := box_cells r4
        have f4 : ∀ i, (w4.alloc (.cells #[.slice none 0 0, .slice none 0 0] 24)).frozen? ⟨w4.heap.size, i, none⟩ = false := fun i => frozen_of_row _ _ i _ _ r4
        clear h4 hb4
        refine take_at (i := 13) (d := some 35) (v := ?_) rfl rfl (by kernel_rfl) (by kernel_rfl) (by kernel_rfl) (fun _ _ _ h => h) (Or.inl ⟨by rfl, ?_⟩) hHeld ?_
        rotate_left
        · (intro w hSw; (try dsimp only at hSw); first | (go_simp; done) | (go_simp; with_reducible rfl))
        try simp only [Act.put, List.setIfInBounds_toArray, List.set_cons_zero, List.set_cons_succ]
        refine take_at (i := 14) (d := some 49) (v := ?_) rfl rfl (by kernel_rfl) (by kernel_rfl) (by kernel_rfl) (fun _ _ _ h => h) (Or.inl ⟨by rfl, ?_⟩) hHeld ?_
        rotate_left
        · (intro w hSw; (try dsimp only at hSw); first | (go_simp; done) | (go_simp; with_reducible rfl))
        try simp only [Act.put, List.setIfInBounds_toArray, List.set_cons_zero, List.set_cons_succ]
        refine take_at (i := 15) (d := some 50) (v := ?_) rfl rfl (by kernel_rfl) (by kernel_rfl) (by kernel_rfl) (fun _ _ _ h => h) (Or.inl ⟨by rfl, ?_⟩) hHeld ?_
        rotate_left
        · (intro w hSw; (try dsimp only at hSw); first | (go_simp; done) | (go_simp; with_reducible rfl))
        try simp only [Act.put, List.setIfInBounds_toArray, List.set_cons_zero, List.set_cons_succ]
        refine wpAnyH_ready (rs := [16]) (by kernel_rfl) (by simp) ?_
        refine AllReadyH.cons rfl (fun K hK => ?_) AllReadyH.nil
        go_simp
        refine hK.out _ _ (keep_alloc hHeld _) (fun hHeld => ?_)
        clear hK K
        try simp only [Act.put, List.setIfInBounds_toArray, List.set_cons_zero, List.set_cons_succ]
        refine wpAnyH_ready (rs := [17]) (by kernel_rfl) (by simp) ?_
        refine AllReadyH.cons rfl (fun K hK => ?_) AllReadyH.nil
        go_simp
        refine hK.out _ _ (keep_alloc hs4 _) (fun hHeld => ?_)
        clear hK K
        try simp only [Act.put, List.setIfInBounds_toArray, List.set_cons_zero, List.set_cons_succ]
        refine take_at (i := 18) (d := some 9) (v := ?_) rfl rfl (by kernel_rfl) (by kernel_rfl) (by kernel_rfl) (fun _ _ _ h => h) (Or.inl ⟨by rfl, ?_⟩) hHeld ?_
        rotate_left
        · (intro w hSw; (try dsimp only at hSw); first | (go_simp; done) | (go_simp; with_reducible rfl))
        try simp only [Act.put, List.setIfInBounds_toArray, List.set_cons_zero, List.set_cons_succ]
        refine wpAnyH_done (by kernel_rfl) ?_ _
        go_wp2_with fail
        go_meet
        exact ⟨w4.heap.size, A3, n3, c3, A4, n4, c4, rfl, rfl, keep_alloc hs4 _, heap_alloc_new w4 _, HN4.out.keep (fun b hb => heap_alloc_old w4 _ hb.2) (fun b hb => ⟨hb.1, by rw [World.size_alloc]; have := hb.2; omega⟩)⟩
      · go_simp
        refine hK.out _ _ (keep_alloc hHeld _) (fun hHeld => ?_)
        clear hK K
        try simp only [Act.put, List.setIfInBounds_toArray, List.set_cons_zero, List.set_cons_succ]
        refine wpAnyH_ready (rs := [12]) (by kernel_rfl) (by simp) ?_
        refine AllReadyH.cons rfl (fun K hK => ?_) AllReadyH.nil
        go_simp
        try rw [hwr]
        refine (HCH.out _ hHeld).mono ?_
        rintro e w4 ⟨A3, n3, c3, A4, n4, c4, rfl, h4, hb4⟩
        have hs4 : Below v0.heap.size v0 w4 := By.ext hHeld hb4
        dsimp only
        refine hK.out _ _ hs4 (fun hHeld => ?_)
        clear hK K
        try simp only [Act.put, List.setIfInBounds_toArray, List.set_cons_zero, List.set_cons_succ]
        have hz4 : v0.heap.size + 1 ≤ w4.heap.size := Nat.le_trans (Nat.le_of_eq (World.size_alloc v0 _).symm) hb4.size
        have HN4 := Lib.hid (show CfAt w4 (fun b => v0.heap.size + 1 ≤ b ∧ b < w4.heap.size) A3 n3 c3 A4 n4 c4 us ks from h4.less (fun b hb => ⟨Nat.le_trans (Nat.le_of_eq (World.size_alloc v0 _).symm) hb.1.1, hb.1.2⟩))
        have r4 : w4.heap[v0.heap.size]? = some (.cells #[.slice none 0 0, .slice none 0 0] 24 (0, 0)) := (hb4.block _ (Nat.lt_of_lt_of_eq (Nat.lt_succ_self _) (World.size_alloc v0 _).symm)).trans (heap_alloc_new v0 (.cells #[.slice none 0 0, .slice none 0 0] 24))
        obtain ⟨n0, n1⟩ := box_cells r4
        have f4 : ∀ i, w4.frozen? ⟨v0.heap.size, i, none⟩ = false := fun i => frozen_of_row _ _ i _ _ r4
        clear h4 hb4
        refine take_at (i := 13) (d := some 35) (v := ?_) rfl rfl (by kernel_rfl) (by kernel_rfl) (by kernel_rfl) (fun _ _ _ h => h) (Or.inl ⟨by rfl, ?_⟩) hHeld ?_
        rotate_left
        · (intro w hSw; (try dsimp only at hSw); first | (go_simp; done) | (go_simp; with_reducible rfl))
        try simp only [Act.put, List.setIfInBounds_toArray, List.set_cons_zero, List.set_cons_succ]
        refine take_at (i := 14) (d := some 49) (v := ?_) rfl rfl (by kernel_rfl) (by kernel_rfl) (by kernel_rfl) (fun _ _ _ h => h) (Or.inl ⟨by rfl, ?_⟩) hHeld ?_
        rotate_left
        · (intro w hSw; (try dsimp only at hSw); first | (go_simp; done) | (go_simp; with_reducible rfl))
        try simp only [Act.put, List.setIfInBounds_toArray, List.set_cons_zero, List.set_cons_succ]
        refine take_at (i := 15) (d := some 50) (v := ?_) rfl rfl (by kernel_rfl) (by kernel_rfl) (by kernel_rfl) (fun _ _ _ h => h) (Or.inl ⟨by rfl, ?_⟩) hHeld ?_
        rotate_left
        · (intro w hSw; (try dsimp only at hSw); first | (go_simp; done) | (go_simp; with_reducible rfl))
        try simp only [Act.put, List.setIfInBounds_toArray, List.set_cons_zero, List.set_cons_succ]
        refine wpAnyH_ready (rs := [17]) (by kernel_rfl) (by simp) ?_
        refine AllReadyH.cons rfl (fun K hK => ?_) AllReadyH.nil
        go_simp
        refine hK.out _ _ ((hs4.setCell (p := ⟨v0.heap.size, 0, none⟩) (Nat.le_refl _) _).setCell (p := ⟨v0.heap.size, 1, none⟩) (Nat.le_refl _) _) (fun hHeld => ?_)
        clear hK K
        try simp only [Act.put, List.setIfInBounds_toArray, List.set_cons_zero, List.set_cons_succ]
        refine take_at (i := 18) (d := some 9) (v := ?_) rfl rfl (by kernel_rfl) (by kernel_rfl) (by kernel_rfl) (fun _ _ _ h => h) (Or.inl ⟨by rfl, ?_⟩) hHeld ?_
        rotate_left
        · (intro w hSw; (try dsimp only at hSw); first | (go_simp; done) | (go_simp; with_reducible rfl))
        try simp only [Act.put, List.setIfInBounds_toArray, List.set_cons_zero, List.set_cons_succ]
        refine wpAnyH_done (by kernel_rfl) ?_ _
        go_wp2_with fail
        go_meet
        exact ⟨v0.heap.size, A3, n3, c3, A4, n4, c4, rfl, rfl, (hs4.setCell (p := ⟨v0.heap.size, 0, none⟩) (Nat.le_refl _) _).setCell (p := ⟨v0.heap.size, 1, none⟩) (Nat.le_refl _) _, heap_setCell_same _ _ 1 _ _ _ (heap_setCell_same _ _ 0 _ _ _ r4), HN4.out.keep (fun b hb => by
          have hne : b ≠ v0.heap.size := by have := hb.1; omega
          exact (heap_setCell_other _ ⟨v0.heap.size, 1, none⟩ b _ hne).trans (heap_setCell_other _ ⟨v0.heap.size, 0, none⟩ b _ hne)) (fun b hb => ⟨by have := hb.1; omega, by simp [World.setCell]; exact hb.2⟩)⟩
    case rest =>
      obtain ⟨g2, A3, n3, c3, A4, n4, c4, rfl, rfl, hD, hrD, hcD⟩ := hcut
      obtain ⟨D, hDw⟩ : ∃ D, D = wc := ⟨_, rfl⟩
      subst hDw
      clear hkc1 hic1 hbx0 hbx1 hs0 hwr
      -- D: behind the change
      have HD := Lib.hid hD
      have HRD := Lib.hid hrD
      have HCD := Lib.hid hcD
      have HV0 := Lib.hid (HCF.out.less (fun b hb => hb.1 : ∀ b, But w.heap.size v0 b → Old v0 b))
      clear hD hrD hcD
      by_cases her : er = 0
      case neg =>
        have e1 : (er != 0) = true := by rw [bne_iff_ne]; exact her
        clear her
        go_wp2
        go_roundw
        case rel => exact ⟨k + 1, A, n, c, A2, m, c2, vs, ls, by omega, by go_num, By.ext HB.out HD.out, Nat.lt_of_lt_of_le HLT.out HD.out.size, row_stays HROW.out HD.out, HCF.out.keep (fun b hb => HD.out.block b hb.1) (fun b hb => ⟨Nat.lt_of_lt_of_le hb.1 HD.out.size, hb.2⟩), HS.out⟩
        case measure => simp [intOf]; omega
      subst her
      obtain ⟨hpo, hpx⟩ := HPB.out rfl
      have hss := HSO.out rfl
      obtain ⟨_, _, _, hup⟩ := (confB_iff us ks).1 hss
      have hck : Calls Try.prog 9 #[cfV A3 n3 c3 A4 n4 c4] D (Tells (.int .i64 0) D) := by
        have h1 := checkc_any (HCD.out.less (fun b hb => hb.2 : ∀ b, (v0.heap.size ≤ b ∧ b < D.heap.size) → Old D b)) D (Below.refl _ _)
        rwa [if_pos hss] at h1
      have HCKD := Lib.hid hck
      have HPO := Lib.hid hpo
      have HPX := Lib.hid hpx
      have HSS := Lib.hid hss
      have hn3 : 0 < n3 := by have := HCD.out.hn; omega
      have z1 : ((n3 : Int) == 0) = false := by rw [beq_eq_false_iff_ne]; omega
      have z2 : (n3 == 0) = false := by rw [beq_eq_false_iff_ne]; omega
      have hxi : ∀ w', Below D.heap.size D w' → w'.cell? ⟨gi, oi + k, none⟩ = some (.int .i64 x) := fun w' hb' => HIC.out w' (By.ext HB.out (By.ext HD.out hb'))
      have hxc0 : ∀ w', Below D.heap.size D w' → w'.cell? ⟨w.heap.size, 0, none⟩ = some (.slice A n c) := fun w' hb' => (box_cells (row_stays HROW.out (By.ext HD.out hb'))).1
      have hxc1 : ∀ w', Below D.heap.size D w' → w'.cell? ⟨w.heap.size, 1, none⟩ = some (.slice A2 m c2) := fun w' hb' => (box_cells (row_stays HROW.out (By.ext HD.out hb'))).2
      have hxd0 : ∀ w', Below D.heap.size D w' → w'.cell? ⟨g2, 0, none⟩ = some (.slice A3 n3 c3) := fun w' hb' => (box_cells (row_stays HRD.out hb')).1
      have hxd1 : ∀ w', Below D.heap.size D w' → w'.cell? ⟨g2, 1, none⟩ = some (.slice A4 n4 c4) := fun w' hb' => (box_cells (row_stays HRD.out hb')).2
      have hsD : Below D.heap.size D D := Below.refl _ _
      have d0 := hxd0 D hsD
      have d1 := hxd1 D hsD
      clear hpo hpx hss hup hck hn3
      go_wp2_with fail
      refine HCKD.out.mono ?_
      rintro e w5 ⟨rfl, hb5⟩
      have HB5 := Lib.hid hb5
      have d0' := hxd0 w5 hb5
      have d1' := hxd1 w5 hb5
      clear hb5 d0 d1
      go_wp2
      clear d0' d1'
      go_loopw [10] (fun z wr2 => ∃ j : Nat, 1 ≤ j ∧ j ≤ 17 ∧ z = .int .i64 j ∧ Below D.heap.size D wr2) (fun z _ => 17 - (intOf z).toNat)
      case atStart => exact ⟨1, Nat.le_refl _, by decide, rfl, HB5.out⟩
      case round =>
        obtain ⟨j, hj1, hj17, rfl, hbj⟩ := hrel
        have HBJ := Lib.hid hbj
        clear hbj
        by_cases hj : j ≤ 16
        · have hji : (j : Int) ≤ 16 := by omega
          by_cases hjx : (j : Int) = x
          · have e1 : ((j : Int) != x) = false := by rw [bne, beq_iff_eq.2 hjx]; rfl
            have hxir := hxi wr HBJ.out
            have hxi9 := Lib.hid hxi
            have hc09 := Lib.hid hxc0
            have hc19 := Lib.hid hxc1
            have hd09 := Lib.hid hxd0
            have hd19 := Lib.hid hxd1
            clear hjx hxi hxc0 hxc1 hxd0 hxd1
            go_wp2
            go_quiet (fail)
            go_wp2
            go_roundw
            case rel => exact ⟨j + 1, by omega, by omega, by go_num, Co.below_drewN HBJ.out _⟩
            case measure => simp [intOf]; omega
          · have e1 : ((j : Int) != x) = true := by rw [bne_iff_ne]; exact hjx
            have hp := HPO.out (j : Int) hjx
            have hvc := fun (w' : World) (hb' : Below D.heap.size D w') => rVoter_any (HV0.out.below (By.ext HD.out hb')) (j : Int) (by omega) (by omega)
            have hvd := fun (w' : World) (hb' : Below D.heap.size D w') => rVoter_any ((HCD.out.less (fun b hb => hb.2 : ∀ b, (v0.heap.size ≤ b ∧ b < D.heap.size) → Old D b)).below hb') (j : Int) (by omega) (by omega)
            have hmc := fun (w' : World) (hb' : Below D.heap.size D w') => rMember_any (HV0.out.below (By.ext HD.out hb')) (j : Int) (by omega) (by omega)
            have hmd := fun (w' : World) (hb' : Below D.heap.size D w') => rMember_any ((HCD.out.less (fun b hb => hb.2 : ∀ b, (v0.heap.size ≤ b ∧ b < D.heap.size) → Old D b)).below hb') (j : Int) (by omega) (by omega)
            rw [HS.out, Bool.true_and] at hvc hmc
            rw [HSS.out, Bool.true_and] at hvd hmd
            rw [hp.1] at hvd
            rw [hp.2] at hmd
            generalize decide ((j : Int) ∈ vs) = pv at hvc hvd hmc hmd
            generalize (pv || decide ((j : Int) ∈ ls)) = pm at hmc hmd
            have HVC := Lib.hid hvc
            have HVD := Lib.hid hvd
            have HMC := Lib.hid hmc
            have HMD := Lib.hid hmd
            have e2 : (pv != pv) = false := by simp
            have e3 : (pm != pm) = false := by simp
            clear hjx hp hvc hvd hmc hmd
            go_upto_region 13 with fail
            refine wp_region_held_drew (S := fun w' => Below D.heap.size D w') (by kernel_rfl) (HBJ.out.drew) (fun hHeld => ?_)
            refine take_at (i := 0) (d := some 66) (v := ?_) rfl rfl (by kernel_rfl) (by kernel_rfl) (by kernel_rfl) (fun _ _ _ h => h) (Or.inl ⟨by rfl, ?_⟩) hHeld ?_
            rotate_left
            · (intro w hSw; (try dsimp only at hSw); first | (go_simp; done) | (go_simp; with_reducible rfl))
            try simp only [Act.put, List.setIfInBounds_toArray, List.set_cons_zero, List.set_cons_succ]
            refine take_at (i := 1) (d := some 67) (v := ?_) rfl rfl (by kernel_rfl) (by kernel_rfl) (by kernel_rfl) (fun _ _ _ h => h) (Or.inl ⟨by rfl, ?_⟩) hHeld ?_
            rotate_left
            · (intro w hSw; (try dsimp only at hSw); first | (go_simp; done) | (go_simp; with_reducible rfl))
            try simp only [Act.put, List.setIfInBounds_toArray, List.set_cons_zero, List.set_cons_succ]
            refine take_at (i := 2) (d := some 68) (v := ?_) rfl rfl (by kernel_rfl) (by kernel_rfl) (by kernel_rfl) (fun _ _ _ h => h) (Or.inl ⟨by rfl, ?_⟩) hHeld ?_
            rotate_left
            · (intro w hSw; (try dsimp only at hSw); first | (go_simp; done) | (go_simp; with_reducible rfl))
            try simp only [Act.put, List.setIfInBounds_toArray, List.set_cons_zero, List.set_cons_succ]
            refine take_at (i := 3) (d := some 69) (v := ?_) rfl rfl (by kernel_rfl) (by kernel_rfl) (by kernel_rfl) (fun _ _ _ h => h) (Or.inl ⟨by rfl, ?_⟩) hHeld ?_
            rotate_left
            · (intro w hSw; (try dsimp only at hSw); first | (go_simp; done) | (go_simp; with_reducible rfl))
            try simp only [Act.put, List.setIfInBounds_toArray, List.set_cons_zero, List.set_cons_succ]
            refine take_at (i := 4) (d := some 70) (v := ?_) rfl rfl (by kernel_rfl) (by kernel_rfl) (by kernel_rfl) (fun _ _ _ h => h) (Or.inl ⟨by rfl, ?_⟩) hHeld ?_
            rotate_left
            · (intro w hSw; (try dsimp only at hSw); first | (go_simp; done) | (go_simp; with_reducible rfl))
            try simp only [Act.put, List.setIfInBounds_toArray, List.set_cons_zero, List.set_cons_succ]
            refine take_at (i := 5) (d := some 71) (v := ?_) rfl rfl (by kernel_rfl) (by kernel_rfl) (by kernel_rfl) (fun _ _ _ h => h) (Or.inl ⟨by rfl, ?_⟩) hHeld ?_
            rotate_left
            · (intro w hSw; (try dsimp only at hSw); first | (go_simp; done) | (go_simp; with_reducible rfl))
            try simp only [Act.put, List.setIfInBounds_toArray, List.set_cons_zero, List.set_cons_succ]
            refine take_at (i := 6) (d := some 72) (v := ?_) rfl rfl (by kernel_rfl) (by kernel_rfl) (by kernel_rfl) (fun _ _ _ h => h) (Or.inl ⟨by rfl, ?_⟩) hHeld ?_
            rotate_left
            · (intro w hSw; (try dsimp only at hSw); first | (go_simp; done) | (go_simp; with_reducible rfl))
            try simp only [Act.put, List.setIfInBounds_toArray, List.set_cons_zero, List.set_cons_succ]
            refine take_at (i := 7) (d := some 73) (v := ?_) rfl rfl (by kernel_rfl) (by kernel_rfl) (by kernel_rfl) (fun _ _ _ h => h) (Or.inl ⟨by rfl, ?_⟩) hHeld ?_
            rotate_left
            · (intro w hSw; (try dsimp only at hSw); first | (go_simp; done) | (go_simp; with_reducible rfl))
            try simp only [Act.put, List.setIfInBounds_toArray, List.set_cons_zero, List.set_cons_succ]
            refine take_at (i := 8) (d := some 74) (v := ?_) rfl rfl (by kernel_rfl) (by kernel_rfl) (by kernel_rfl) (fun _ _ _ h => h) (Or.inl ⟨by rfl, ?_⟩) hHeld ?_
            rotate_left
            · (intro w hSw; (try dsimp only at hSw); first | (go_simp; done) | (go_simp; with_reducible rfl))
            try simp only [Act.put, List.setIfInBounds_toArray, List.set_cons_zero, List.set_cons_succ]
            refine take_at (i := 10) (d := some 76) (v := ?_) rfl rfl (by kernel_rfl) (by kernel_rfl) (by kernel_rfl) (fun _ _ _ h => h) (Or.inl ⟨by rfl, ?_⟩) hHeld ?_
            rotate_left
            · (intro w hSw; (try dsimp only at hSw); first | (go_simp; done) | (go_simp; with_reducible rfl))
            try simp only [Act.put, List.setIfInBounds_toArray, List.set_cons_zero, List.set_cons_succ]
            refine take_at (i := 11) (d := some 77) (v := ?_) rfl rfl (by kernel_rfl) (by kernel_rfl) (by kernel_rfl) (fun _ _ _ h => h) (Or.inl ⟨by rfl, ?_⟩) hHeld ?_
            rotate_left
            · (intro w hSw; (try dsimp only at hSw); first | (go_simp; done) | (go_simp; with_reducible rfl))
            try simp only [Act.put, List.setIfInBounds_toArray, List.set_cons_zero, List.set_cons_succ]
            refine wpAnyH_ready (rs := [9]) (by kernel_rfl) (by simp) ?_
            refine AllReadyH.cons rfl (fun K hK => ?_) AllReadyH.nil
            go_simp
            go_wp2_with (go_at_call 16; refine (HVC.out _ hHeld).mono ?_; rintro e wv1 ⟨rfl, hbwv1⟩)
            refine hK.out _ _ (By.ext hHeld hbwv1) (fun hHeld => ?_)
            clear hK K
            try simp only [Act.put, List.setIfInBounds_toArray, List.set_cons_zero, List.set_cons_succ]
            refine wpAnyH_ready (rs := [12]) (by kernel_rfl) (by simp) ?_
            refine AllReadyH.cons rfl (fun K hK => ?_) AllReadyH.nil
            go_simp
            go_wp2_with (go_at_call 16; refine (HVD.out _ hHeld).mono ?_; rintro e wv2 ⟨rfl, hbwv2⟩)
            refine hK.out _ _ (By.ext hHeld hbwv2) (fun hHeld => ?_)
            clear hK K
            try simp only [Act.put, List.setIfInBounds_toArray, List.set_cons_zero, List.set_cons_succ]
            refine take_at (i := 13) (d := some 79) (v := ?_) rfl rfl (by kernel_rfl) (by kernel_rfl) (by kernel_rfl) (fun _ _ _ h => h) (Or.inl ⟨by rfl, ?_⟩) hHeld ?_
            rotate_left
            · (intro w hSw; (try dsimp only at hSw); first | (go_simp; done) | (go_simp; with_reducible rfl))
            try simp only [Act.put, List.setIfInBounds_toArray, List.set_cons_zero, List.set_cons_succ]
            refine take_at (i := 14) (d := some 80) (v := ?_) rfl rfl (by kernel_rfl) (by kernel_rfl) (by kernel_rfl) (fun _ _ _ h => h) (Or.inl ⟨by rfl, ?_⟩) hHeld ?_
            rotate_left
            · (intro w hSw; (try dsimp only at hSw); first | (go_simp; done) | (go_simp; with_reducible rfl))
            try simp only [Act.put, List.setIfInBounds_toArray, List.set_cons_zero, List.set_cons_succ]
            refine take_at (i := 15) (d := some 81) (v := ?_) rfl rfl (by kernel_rfl) (by kernel_rfl) (by kernel_rfl) (fun _ _ _ h => h) (Or.inl ⟨by rfl, ?_⟩) hHeld ?_
            rotate_left
            · (intro w hSw; (try dsimp only at hSw); first | (go_simp; done) | (go_simp; with_reducible rfl))
            try simp only [Act.put, List.setIfInBounds_toArray, List.set_cons_zero, List.set_cons_succ]
            refine take_at (i := 16) (d := some 82) (v := ?_) rfl rfl (by kernel_rfl) (by kernel_rfl) (by kernel_rfl) (fun _ _ _ h => h) (Or.inl ⟨by rfl, ?_⟩) hHeld ?_
            rotate_left
            · (intro w hSw; (try dsimp only at hSw); first | (go_simp; done) | (go_simp; with_reducible rfl))
            try simp only [Act.put, List.setIfInBounds_toArray, List.set_cons_zero, List.set_cons_succ]
            refine take_at (i := 18) (d := some 84) (v := ?_) rfl rfl (by kernel_rfl) (by kernel_rfl) (by kernel_rfl) (fun _ _ _ h => h) (Or.inl ⟨by rfl, ?_⟩) hHeld ?_
            rotate_left
            · (intro w hSw; (try dsimp only at hSw); first | (go_simp; done) | (go_simp; with_reducible rfl))
            try simp only [Act.put, List.setIfInBounds_toArray, List.set_cons_zero, List.set_cons_succ]
            refine take_at (i := 19) (d := some 85) (v := ?_) rfl rfl (by kernel_rfl) (by kernel_rfl) (by kernel_rfl) (fun _ _ _ h => h) (Or.inl ⟨by rfl, ?_⟩) hHeld ?_
            rotate_left
            · (intro w hSw; (try dsimp only at hSw); first | (go_simp; done) | (go_simp; with_reducible rfl))
            try simp only [Act.put, List.setIfInBounds_toArray, List.set_cons_zero, List.set_cons_succ]
            refine wpAnyH_ready (rs := [17]) (by kernel_rfl) (by simp) ?_
            refine AllReadyH.cons rfl (fun K hK => ?_) AllReadyH.nil
            go_simp
            go_wp2_with (go_at_call 14; refine (HMC.out _ hHeld).mono ?_; rintro e wm1 ⟨rfl, hbwm1⟩)
            refine hK.out _ _ (By.ext hHeld hbwm1) (fun hHeld => ?_)
            clear hK K
            try simp only [Act.put, List.setIfInBounds_toArray, List.set_cons_zero, List.set_cons_succ]
            refine wpAnyH_ready (rs := [20]) (by kernel_rfl) (by simp) ?_
            refine AllReadyH.cons rfl (fun K hK => ?_) AllReadyH.nil
            go_simp
            go_wp2_with (go_at_call 14; refine (HMD.out _ hHeld).mono ?_; rintro e wm2 ⟨rfl, hbwm2⟩)
            refine hK.out _ _ (By.ext hHeld hbwm2) (fun hHeld => ?_)
            clear hK K
            try simp only [Act.put, List.setIfInBounds_toArray, List.set_cons_zero, List.set_cons_succ]
            refine take_at (i := 21) (d := some 87) (v := ?_) rfl rfl (by kernel_rfl) (by kernel_rfl) (by kernel_rfl) (fun _ _ _ h => h) (Or.inl ⟨by rfl, ?_⟩) hHeld ?_
            rotate_left
            · (intro w hSw; (try dsimp only at hSw); first | (go_simp; done) | (go_simp; with_reducible rfl))
            try simp only [Act.put, List.setIfInBounds_toArray, List.set_cons_zero, List.set_cons_succ]
            refine take_at (i := 22) (d := some 88) (v := ?_) rfl rfl (by kernel_rfl) (by kernel_rfl) (by kernel_rfl) (fun _ _ _ h => h) (Or.inl ⟨by rfl, ?_⟩) hHeld ?_
            rotate_left
            · (intro w hSw; (try dsimp only at hSw); first | (go_simp; done) | (go_simp; with_reducible rfl))
            try simp only [Act.put, List.setIfInBounds_toArray, List.set_cons_zero, List.set_cons_succ]
            refine take_at (i := 23) (d := some 89) (v := ?_) rfl rfl (by kernel_rfl) (by kernel_rfl) (by kernel_rfl) (fun _ _ _ h => h) (Or.inl ⟨by rfl, ?_⟩) hHeld ?_
            rotate_left
            · (intro w hSw; (try dsimp only at hSw); first | (go_simp; done) | (go_simp; with_reducible rfl))
            try simp only [Act.put, List.setIfInBounds_toArray, List.set_cons_zero, List.set_cons_succ]
            refine wpAnyH_done (by kernel_rfl) ?_ _
            go_wp2
            go_roundw
            case rel => exact ⟨j + 1, by omega, by omega, by go_num, hHeld⟩
            case measure => simp [intOf]; omega
        · have hji : ¬ (j : Int) ≤ 16 := by omega
          have hvc := fun (w' : World) (hb' : Below D.heap.size D w') => rVoter_any (HV0.out.below (By.ext HD.out hb')) x HX.out.1 HX.out.2
          have hvd := fun (w' : World) (hb' : Below D.heap.size D w') => rVoter_any ((HCD.out.less (fun b hb => hb.2 : ∀ b, (v0.heap.size ≤ b ∧ b < D.heap.size) → Old D b)).below hb') x HX.out.1 HX.out.2
          have hmc := fun (w' : World) (hb' : Below D.heap.size D w') => rMember_any (HV0.out.below (By.ext HD.out hb')) x HX.out.1 HX.out.2
          have hmd := fun (w' : World) (hb' : Below D.heap.size D w') => rMember_any ((HCD.out.less (fun b hb => hb.2 : ∀ b, (v0.heap.size ≤ b ∧ b < D.heap.size) → Old D b)).below hb') x HX.out.1 HX.out.2
          rw [HS.out, Bool.true_and] at hvc hmc
          rw [HSS.out, Bool.true_and] at hvd hmd
          have hpx := HPX.out
          generalize (decide (x ∈ vs) || decide (x ∈ ls)) = m1 at hmc hpx
          generalize (decide (x ∈ us) || decide (x ∈ ks)) = m2 at hmd hpx
          generalize decide (x ∈ vs) = v1 at hvc hpx
          generalize decide (x ∈ us) = v2 at hvd hpx
          have HVC := Lib.hid hvc
          have HVD := Lib.hid hvd
          have HMC := Lib.hid hmc
          have HMD := Lib.hid hmd
          clear hvc hvd hmc hmd
          by_cases hv : v2 = v1
          · have hm : ¬ m2 = m1 := fun h => hpx ⟨hv, h⟩
            have e2 : (v1 == v2) = true := by rw [beq_iff_eq]; exact hv.symm
            have e3 : (m1 == m2) = false := by rw [beq_eq_false_iff_ne]; exact fun h => hm h.symm
            clear hv hm hpx
            go_upto_region 15 with fail
            refine wp_region_held_drew (S := fun w' => Below D.heap.size D w') (by kernel_rfl) (HBJ.out.drew) (fun hHeld => ?_)
            refine take_at (i := 0) (d := some 90) (v := ?_) rfl rfl (by kernel_rfl) (by kernel_rfl) (by kernel_rfl) (fun _ _ _ h => h) (Or.inl ⟨by rfl, ?_⟩) hHeld ?_
            rotate_left
            · (intro w hSw; (try dsimp only at hSw); first | (go_simp; done) | (go_simp; with_reducible rfl))
            try simp only [Act.put, List.setIfInBounds_toArray, List.set_cons_zero, List.set_cons_succ]
            refine take_at (i := 1) (d := some 91) (v := ?_) rfl rfl (by kernel_rfl) (by kernel_rfl) (by kernel_rfl) (fun _ _ _ h => h) (Or.inl ⟨by rfl, ?_⟩) hHeld ?_
            rotate_left
            · (intro w hSw; (try dsimp only at hSw); first | (go_simp; done) | (go_simp; with_reducible rfl))
            try simp only [Act.put, List.setIfInBounds_toArray, List.set_cons_zero, List.set_cons_succ]
            refine take_at (i := 2) (d := some 92) (v := ?_) rfl rfl (by kernel_rfl) (by kernel_rfl) (by kernel_rfl) (fun _ _ _ h => h) (Or.inl ⟨by rfl, ?_⟩) hHeld ?_
            rotate_left
            · (intro w hSw; (try dsimp only at hSw); first | (go_simp; done) | (go_simp; with_reducible rfl))
            try simp only [Act.put, List.setIfInBounds_toArray, List.set_cons_zero, List.set_cons_succ]
            refine take_at (i := 3) (d := some 93) (v := ?_) rfl rfl (by kernel_rfl) (by kernel_rfl) (by kernel_rfl) (fun _ _ _ h => h) (Or.inl ⟨by rfl, ?_⟩) hHeld ?_
            rotate_left
            · (intro w hSw; (try dsimp only at hSw); first | (go_simp; done) | (go_simp; with_reducible rfl))
            try simp only [Act.put, List.setIfInBounds_toArray, List.set_cons_zero, List.set_cons_succ]
            refine take_at (i := 4) (d := some 94) (v := ?_) rfl rfl (by kernel_rfl) (by kernel_rfl) (by kernel_rfl) (fun _ _ _ h => h) (Or.inl ⟨by rfl, ?_⟩) hHeld ?_
            rotate_left
            · (intro w hSw; (try dsimp only at hSw); first | (go_simp; done) | (go_simp; with_reducible rfl))
            try simp only [Act.put, List.setIfInBounds_toArray, List.set_cons_zero, List.set_cons_succ]
            refine take_at (i := 6) (d := some 96) (v := ?_) rfl rfl (by kernel_rfl) (by kernel_rfl) (by kernel_rfl) (fun _ _ _ h => h) (Or.inl ⟨by rfl, ?_⟩) hHeld ?_
            rotate_left
            · (intro w hSw; (try dsimp only at hSw); first | (go_simp; done) | (go_simp; with_reducible rfl))
            try simp only [Act.put, List.setIfInBounds_toArray, List.set_cons_zero, List.set_cons_succ]
            refine take_at (i := 7) (d := some 97) (v := ?_) rfl rfl (by kernel_rfl) (by kernel_rfl) (by kernel_rfl) (fun _ _ _ h => h) (Or.inl ⟨by rfl, ?_⟩) hHeld ?_
            rotate_left
            · (intro w hSw; (try dsimp only at hSw); first | (go_simp; done) | (go_simp; with_reducible rfl))
            try simp only [Act.put, List.setIfInBounds_toArray, List.set_cons_zero, List.set_cons_succ]
            refine take_at (i := 8) (d := some 98) (v := ?_) rfl rfl (by kernel_rfl) (by kernel_rfl) (by kernel_rfl) (fun _ _ _ h => h) (Or.inl ⟨by rfl, ?_⟩) hHeld ?_
            rotate_left
            · (intro w hSw; (try dsimp only at hSw); first | (go_simp; done) | (go_simp; with_reducible rfl))
            try simp only [Act.put, List.setIfInBounds_toArray, List.set_cons_zero, List.set_cons_succ]
            refine take_at (i := 9) (d := some 99) (v := ?_) rfl rfl (by kernel_rfl) (by kernel_rfl) (by kernel_rfl) (fun _ _ _ h => h) (Or.inl ⟨by rfl, ?_⟩) hHeld ?_
            rotate_left
            · (intro w hSw; (try dsimp only at hSw); first | (go_simp; done) | (go_simp; with_reducible rfl))
            try simp only [Act.put, List.setIfInBounds_toArray, List.set_cons_zero, List.set_cons_succ]
            refine take_at (i := 10) (d := some 100) (v := ?_) rfl rfl (by kernel_rfl) (by kernel_rfl) (by kernel_rfl) (fun _ _ _ h => h) (Or.inl ⟨by rfl, ?_⟩) hHeld ?_
            rotate_left
            · (intro w hSw; (try dsimp only at hSw); first | (go_simp; done) | (go_simp; with_reducible rfl))
            try simp only [Act.put, List.setIfInBounds_toArray, List.set_cons_zero, List.set_cons_succ]
            refine wpAnyH_ready (rs := [5]) (by kernel_rfl) (by simp) ?_
            refine AllReadyH.cons rfl (fun K hK => ?_) AllReadyH.nil
            go_simp
            go_wp2_with (go_at_call 16; refine (HVC.out _ hHeld).mono ?_; rintro e wv1 ⟨rfl, hbwv1⟩)
            refine hK.out _ _ (By.ext hHeld hbwv1) (fun hHeld => ?_)
            clear hK K
            try simp only [Act.put, List.setIfInBounds_toArray, List.set_cons_zero, List.set_cons_succ]
            refine wpAnyH_ready (rs := [11]) (by kernel_rfl) (by simp) ?_
            refine AllReadyH.cons rfl (fun K hK => ?_) AllReadyH.nil
            go_simp
            go_wp2_with (go_at_call 16; refine (HVD.out _ hHeld).mono ?_; rintro e wv2 ⟨rfl, hbwv2⟩)
            refine hK.out _ _ (By.ext hHeld hbwv2) (fun hHeld => ?_)
            clear hK K
            try simp only [Act.put, List.setIfInBounds_toArray, List.set_cons_zero, List.set_cons_succ]
            refine take_at (i := 12) (d := some 102) (v := ?_) rfl rfl (by kernel_rfl) (by kernel_rfl) (by kernel_rfl) (fun _ _ _ h => h) (Or.inl ⟨by rfl, ?_⟩) hHeld ?_
            rotate_left
            · (intro w hSw; (try dsimp only at hSw); first | (go_simp; done) | (go_simp; with_reducible rfl))
            try simp only [Act.put, List.setIfInBounds_toArray, List.set_cons_zero, List.set_cons_succ]
            refine take_at (i := 13) (d := some 103) (v := ?_) rfl rfl (by kernel_rfl) (by kernel_rfl) (by kernel_rfl) (fun _ _ _ h => h) (Or.inl ⟨by rfl, ?_⟩) hHeld ?_
            rotate_left
            · (intro w hSw; (try dsimp only at hSw); first | (go_simp; done) | (go_simp; with_reducible rfl))
            try simp only [Act.put, List.setIfInBounds_toArray, List.set_cons_zero, List.set_cons_succ]
            refine take_at (i := 14) (d := some 104) (v := ?_) rfl rfl (by kernel_rfl) (by kernel_rfl) (by kernel_rfl) (fun _ _ _ h => h) (Or.inl ⟨by rfl, ?_⟩) hHeld ?_
            rotate_left
            · (intro w hSw; (try dsimp only at hSw); first | (go_simp; done) | (go_simp; with_reducible rfl))
            try simp only [Act.put, List.setIfInBounds_toArray, List.set_cons_zero, List.set_cons_succ]
            refine take_at (i := 15) (d := some 105) (v := ?_) rfl rfl (by kernel_rfl) (by kernel_rfl) (by kernel_rfl) (fun _ _ _ h => h) (Or.inl ⟨by rfl, ?_⟩) hHeld ?_
            rotate_left
            · (intro w hSw; (try dsimp only at hSw); first | (go_simp; done) | (go_simp; with_reducible rfl))
            try simp only [Act.put, List.setIfInBounds_toArray, List.set_cons_zero, List.set_cons_succ]
            refine take_at (i := 16) (d := some 106) (v := ?_) rfl rfl (by kernel_rfl) (by kernel_rfl) (by kernel_rfl) (fun _ _ _ h => h) (Or.inl ⟨by rfl, ?_⟩) hHeld ?_
            rotate_left
            · (intro w hSw; (try dsimp only at hSw); first | (go_simp; done) | (go_simp; with_reducible rfl))
            try simp only [Act.put, List.setIfInBounds_toArray, List.set_cons_zero, List.set_cons_succ]
            refine take_at (i := 17) (d := some 107) (v := ?_) rfl rfl (by kernel_rfl) (by kernel_rfl) (by kernel_rfl) (fun _ _ _ h => h) (Or.inl ⟨by rfl, ?_⟩) hHeld ?_
            rotate_left
            · (intro w hSw; (try dsimp only at hSw); first | (go_simp; done) | (go_simp; with_reducible rfl))
            try simp only [Act.put, List.setIfInBounds_toArray, List.set_cons_zero, List.set_cons_succ]
            refine take_at (i := 18) (d := some 108) (v := ?_) rfl rfl (by kernel_rfl) (by kernel_rfl) (by kernel_rfl) (fun _ _ _ h => h) (Or.inl ⟨by rfl, ?_⟩) hHeld ?_
            rotate_left
            · (intro w hSw; (try dsimp only at hSw); first | (go_simp; done) | (go_simp; with_reducible rfl))
            try simp only [Act.put, List.setIfInBounds_toArray, List.set_cons_zero, List.set_cons_succ]
            refine take_at (i := 20) (d := some 110) (v := ?_) rfl rfl (by kernel_rfl) (by kernel_rfl) (by kernel_rfl) (fun _ _ _ h => h) (Or.inl ⟨by rfl, ?_⟩) hHeld ?_
            rotate_left
            · (intro w hSw; (try dsimp only at hSw); first | (go_simp; done) | (go_simp; with_reducible rfl))
            try simp only [Act.put, List.setIfInBounds_toArray, List.set_cons_zero, List.set_cons_succ]
            refine take_at (i := 21) (d := some 111) (v := ?_) rfl rfl (by kernel_rfl) (by kernel_rfl) (by kernel_rfl) (fun _ _ _ h => h) (Or.inl ⟨by rfl, ?_⟩) hHeld ?_
            rotate_left
            · (intro w hSw; (try dsimp only at hSw); first | (go_simp; done) | (go_simp; with_reducible rfl))
            try simp only [Act.put, List.setIfInBounds_toArray, List.set_cons_zero, List.set_cons_succ]
            refine take_at (i := 22) (d := some 112) (v := ?_) rfl rfl (by kernel_rfl) (by kernel_rfl) (by kernel_rfl) (fun _ _ _ h => h) (Or.inl ⟨by rfl, ?_⟩) hHeld ?_
            rotate_left
            · (intro w hSw; (try dsimp only at hSw); first | (go_simp; done) | (go_simp; with_reducible rfl))
            try simp only [Act.put, List.setIfInBounds_toArray, List.set_cons_zero, List.set_cons_succ]
            refine take_at (i := 23) (d := some 113) (v := ?_) rfl rfl (by kernel_rfl) (by kernel_rfl) (by kernel_rfl) (fun _ _ _ h => h) (Or.inl ⟨by rfl, ?_⟩) hHeld ?_
            rotate_left
            · (intro w hSw; (try dsimp only at hSw); first | (go_simp; done) | (go_simp; with_reducible rfl))
            try simp only [Act.put, List.setIfInBounds_toArray, List.set_cons_zero, List.set_cons_succ]
            refine take_at (i := 24) (d := some 114) (v := ?_) rfl rfl (by kernel_rfl) (by kernel_rfl) (by kernel_rfl) (fun _ _ _ h => h) (Or.inl ⟨by rfl, ?_⟩) hHeld ?_
            rotate_left
            · (intro w hSw; (try dsimp only at hSw); first | (go_simp; done) | (go_simp; with_reducible rfl))
            try simp only [Act.put, List.setIfInBounds_toArray, List.set_cons_zero, List.set_cons_succ]
            refine wpAnyH_ready (rs := [19]) (by kernel_rfl) (by simp) ?_
            refine AllReadyH.cons rfl (fun K hK => ?_) AllReadyH.nil
            go_simp
            go_wp2_with (go_at_call 14; refine (HMC.out _ hHeld).mono ?_; rintro e wm1 ⟨rfl, hbwm1⟩)
            refine hK.out _ _ (By.ext hHeld hbwm1) (fun hHeld => ?_)
            clear hK K
            try simp only [Act.put, List.setIfInBounds_toArray, List.set_cons_zero, List.set_cons_succ]
            refine wpAnyH_ready (rs := [25]) (by kernel_rfl) (by simp) ?_
            refine AllReadyH.cons rfl (fun K hK => ?_) AllReadyH.nil
            go_simp
            go_wp2_with (go_at_call 14; refine (HMD.out _ hHeld).mono ?_; rintro e wm2 ⟨rfl, hbwm2⟩)
            refine hK.out _ _ (By.ext hHeld hbwm2) (fun hHeld => ?_)
            clear hK K
            try simp only [Act.put, List.setIfInBounds_toArray, List.set_cons_zero, List.set_cons_succ]
            refine take_at (i := 26) (d := some 116) (v := ?_) rfl rfl (by kernel_rfl) (by kernel_rfl) (by kernel_rfl) (fun _ _ _ h => h) (Or.inl ⟨by rfl, ?_⟩) hHeld ?_
            rotate_left
            · (intro w hSw; (try dsimp only at hSw); first | (go_simp; done) | (go_simp; with_reducible rfl))
            try simp only [Act.put, List.setIfInBounds_toArray, List.set_cons_zero, List.set_cons_succ]
            refine take_at (i := 27) (d := some 117) (v := ?_) rfl rfl (by kernel_rfl) (by kernel_rfl) (by kernel_rfl) (fun _ _ _ h => h) (Or.inl ⟨by rfl, ?_⟩) hHeld ?_
            rotate_left
            · (intro w hSw; (try dsimp only at hSw); first | (go_simp; done) | (go_simp; with_reducible rfl))
            try simp only [Act.put, List.setIfInBounds_toArray, List.set_cons_zero, List.set_cons_succ]
            refine wpAnyH_done (by kernel_rfl) ?_ _
            have HH := Lib.hid hHeld
            have c0' := hxc0 _ hHeld
            have c1' := hxc1 _ hHeld
            have d0' := hxd0 _ hHeld
            have d1' := hxd1 _ hHeld
            have hfz : ∀ i, wm2.frozen? ⟨w.heap.size, i, none⟩ = false := fun i => frozen_of_row wm2 _ i _ _ (row_stays HROW.out (By.ext HD.out HH.out))
            clear hxi hxc0 hxc1 hxd0 hxd1 hHeld
            go_wp2
            go_roundw
            case rel =>
              have q1 := HLT.out
              have q2 := HD.out.size
              have q3 := HH.out.size
              refine ⟨k + 1, A3, n3, c3, A4, n4, c4, us, ks, by omega, by go_num, ?_, by simp [World.setCell]; omega, ?_, ?_, HSS.out⟩
              · exact ((By.ext HB.out (By.ext HD.out HH.out)).setCell (p := ⟨w.heap.size, 0, none⟩) (Nat.le_refl _) _).setCell (p := ⟨w.heap.size, 1, none⟩) (Nat.le_refl _) _
              · exact heap_setCell_same _ _ 1 _ _ _ (heap_setCell_same _ _ 0 _ _ _ (row_stays HROW.out (By.ext HD.out HH.out)))
              · refine HCD.out.keep (fun b hb => ?_) (fun b hb => ⟨by simp [World.setCell]; have := hb.2; omega, by have := hb.1; omega⟩)
                have hne : b ≠ w.heap.size := by have := hb.1; omega
                exact (heap_setCell_other _ ⟨w.heap.size, 1, none⟩ b _ hne).trans ((heap_setCell_other _ ⟨w.heap.size, 0, none⟩ b _ hne).trans (HH.out.block b hb.2))
            case measure => simp [intOf]; omega
          · have e2 : (v1 == v2) = false := by rw [beq_eq_false_iff_ne]; exact fun h => hv h.symm
            clear hv hpx
            go_upto_region 15 with fail
            refine wp_region_held_drew (S := fun w' => Below D.heap.size D w') (by kernel_rfl) (HBJ.out.drew) (fun hHeld => ?_)
            refine take_at (i := 0) (d := some 90) (v := ?_) rfl rfl (by kernel_rfl) (by kernel_rfl) (by kernel_rfl) (fun _ _ _ h => h) (Or.inl ⟨by rfl, ?_⟩) hHeld ?_
            rotate_left
            · (intro w hSw; (try dsimp only at hSw); first | (go_simp; done) | (go_simp; with_reducible rfl))
            try simp only [Act.put, List.setIfInBounds_toArray, List.set_cons_zero, List.set_cons_succ]
            refine take_at (i := 1) (d := some 91) (v := ?_) rfl rfl (by kernel_rfl) (by kernel_rfl) (by kernel_rfl) (fun _ _ _ h => h) (Or.inl ⟨by rfl, ?_⟩) hHeld ?_
            rotate_left
            · (intro w hSw; (try dsimp only at hSw); first | (go_simp; done) | (go_simp; with_reducible rfl))
            try simp only [Act.put, List.setIfInBounds_toArray, List.set_cons_zero, List.set_cons_succ]
            refine take_at (i := 2) (d := some 92) (v := ?_) rfl rfl (by kernel_rfl) (by kernel_rfl) (by kernel_rfl) (fun _ _ _ h => h) (Or.inl ⟨by rfl, ?_⟩) hHeld ?_
            rotate_left
            · (intro w hSw; (try dsimp only at hSw); first | (go_simp; done) | (go_simp; with_reducible rfl))
            try simp only [Act.put, List.setIfInBounds_toArray, List.set_cons_zero, List.set_cons_succ]
            refine take_at (i := 3) (d := some 93) (v := ?_) rfl rfl (by kernel_rfl) (by kernel_rfl) (by kernel_rfl) (fun _ _ _ h => h) (Or.inl ⟨by rfl, ?_⟩) hHeld ?_
            rotate_left
            · (intro w hSw; (try dsimp only at hSw); first | (go_simp; done) | (go_simp; with_reducible rfl))
            try simp only [Act.put, List.setIfInBounds_toArray, List.set_cons_zero, List.set_cons_succ]
            refine take_at (i := 4) (d := some 94) (v := ?_) rfl rfl (by kernel_rfl) (by kernel_rfl) (by kernel_rfl) (fun _ _ _ h => h) (Or.inl ⟨by rfl, ?_⟩) hHeld ?_
            rotate_left
            · (intro w hSw; (try dsimp only at hSw); first | (go_simp; done) | (go_simp; with_reducible rfl))
            try simp only [Act.put, List.setIfInBounds_toArray, List.set_cons_zero, List.set_cons_succ]
            refine take_at (i := 6) (d := some 96) (v := ?_) rfl rfl (by kernel_rfl) (by kernel_rfl) (by kernel_rfl) (fun _ _ _ h => h) (Or.inl ⟨by rfl, ?_⟩) hHeld ?_
            rotate_left
            · (intro w hSw; (try dsimp only at hSw); first | (go_simp; done) | (go_simp; with_reducible rfl))
            try simp only [Act.put, List.setIfInBounds_toArray, List.set_cons_zero, List.set_cons_succ]
            refine take_at (i := 7) (d := some 97) (v := ?_) rfl rfl (by kernel_rfl) (by kernel_rfl) (by kernel_rfl) (fun _ _ _ h => h) (Or.inl ⟨by rfl, ?_⟩) hHeld ?_
            rotate_left
            · (intro w hSw; (try dsimp only at hSw); first | (go_simp; done) | (go_simp; with_reducible rfl))
            try simp only [Act.put, List.setIfInBounds_toArray, List.set_cons_zero, List.set_cons_succ]
            refine take_at (i := 8) (d := some 98) (v := ?_) rfl rfl (by kernel_rfl) (by kernel_rfl) (by kernel_rfl) (fun _ _ _ h => h) (Or.inl ⟨by rfl, ?_⟩) hHeld ?_
            rotate_left
            · (intro w hSw; (try dsimp only at hSw); first | (go_simp; done) | (go_simp; with_reducible rfl))
            try simp only [Act.put, List.setIfInBounds_toArray, List.set_cons_zero, List.set_cons_succ]
            refine take_at (i := 9) (d := some 99) (v := ?_) rfl rfl (by kernel_rfl) (by kernel_rfl) (by kernel_rfl) (fun _ _ _ h => h) (Or.inl ⟨by rfl, ?_⟩) hHeld ?_
            rotate_left
            · (intro w hSw; (try dsimp only at hSw); first | (go_simp; done) | (go_simp; with_reducible rfl))
            try simp only [Act.put, List.setIfInBounds_toArray, List.set_cons_zero, List.set_cons_succ]
            refine take_at (i := 10) (d := some 100) (v := ?_) rfl rfl (by kernel_rfl) (by kernel_rfl) (by kernel_rfl) (fun _ _ _ h => h) (Or.inl ⟨by rfl, ?_⟩) hHeld ?_
            rotate_left
            · (intro w hSw; (try dsimp only at hSw); first | (go_simp; done) | (go_simp; with_reducible rfl))
            try simp only [Act.put, List.setIfInBounds_toArray, List.set_cons_zero, List.set_cons_succ]
            refine wpAnyH_ready (rs := [5]) (by kernel_rfl) (by simp) ?_
            refine AllReadyH.cons rfl (fun K hK => ?_) AllReadyH.nil
            go_simp
            go_wp2_with (go_at_call 16; refine (HVC.out _ hHeld).mono ?_; rintro e wv1 ⟨rfl, hbwv1⟩)
            refine hK.out _ _ (By.ext hHeld hbwv1) (fun hHeld => ?_)
            clear hK K
            try simp only [Act.put, List.setIfInBounds_toArray, List.set_cons_zero, List.set_cons_succ]
            refine wpAnyH_ready (rs := [11]) (by kernel_rfl) (by simp) ?_
            refine AllReadyH.cons rfl (fun K hK => ?_) AllReadyH.nil
            go_simp
            go_wp2_with (go_at_call 16; refine (HVD.out _ hHeld).mono ?_; rintro e wv2 ⟨rfl, hbwv2⟩)
            refine hK.out _ _ (By.ext hHeld hbwv2) (fun hHeld => ?_)
            clear hK K
            try simp only [Act.put, List.setIfInBounds_toArray, List.set_cons_zero, List.set_cons_succ]
            refine take_at (i := 12) (d := some 102) (v := ?_) rfl rfl (by kernel_rfl) (by kernel_rfl) (by kernel_rfl) (fun _ _ _ h => h) (Or.inl ⟨by rfl, ?_⟩) hHeld ?_
            rotate_left
            · (intro w hSw; (try dsimp only at hSw); first | (go_simp; done) | (go_simp; with_reducible rfl))
            try simp only [Act.put, List.setIfInBounds_toArray, List.set_cons_zero, List.set_cons_succ]
            refine take_at (i := 13) (d := some 103) (v := ?_) rfl rfl (by kernel_rfl) (by kernel_rfl) (by kernel_rfl) (fun _ _ _ h => h) (Or.inl ⟨by rfl, ?_⟩) hHeld ?_
            rotate_left
            · (intro w hSw; (try dsimp only at hSw); first | (go_simp; done) | (go_simp; with_reducible rfl))
            try simp only [Act.put, List.setIfInBounds_toArray, List.set_cons_zero, List.set_cons_succ]
            refine take_at (i := 14) (d := some 104) (v := undef) rfl rfl (by kernel_rfl) (by kernel_rfl) (by kernel_rfl) (fun _ _ _ h => h) (Or.inr ⟨by rfl, rfl⟩) hHeld ?_
            try simp only [Act.put, List.setIfInBounds_toArray, List.set_cons_zero, List.set_cons_succ]
            refine take_at (i := 15) (d := some 105) (v := undef) rfl rfl (by kernel_rfl) (by kernel_rfl) (by kernel_rfl) (fun _ _ _ h => h) (Or.inr ⟨by rfl, rfl⟩) hHeld ?_
            try simp only [Act.put, List.setIfInBounds_toArray, List.set_cons_zero, List.set_cons_succ]
            refine take_at (i := 16) (d := some 106) (v := undef) rfl rfl (by kernel_rfl) (by kernel_rfl) (by kernel_rfl) (fun _ _ _ h => h) (Or.inr ⟨by rfl, rfl⟩) hHeld ?_
            try simp only [Act.put, List.setIfInBounds_toArray, List.set_cons_zero, List.set_cons_succ]
            refine take_at (i := 17) (d := some 107) (v := undef) rfl rfl (by kernel_rfl) (by kernel_rfl) (by kernel_rfl) (fun _ _ _ h => h) (Or.inr ⟨by rfl, rfl⟩) hHeld ?_
            try simp only [Act.put, List.setIfInBounds_toArray, List.set_cons_zero, List.set_cons_succ]
            refine take_at (i := 18) (d := some 108) (v := undef) rfl rfl (by kernel_rfl) (by kernel_rfl) (by kernel_rfl) (fun _ _ _ h => h) (Or.inr ⟨by rfl, rfl⟩) hHeld ?_
            try simp only [Act.put, List.setIfInBounds_toArray, List.set_cons_zero, List.set_cons_succ]
            refine take_at (i := 19) (d := some 109) (v := undef) rfl rfl (by kernel_rfl) (by kernel_rfl) (by kernel_rfl) (fun _ _ _ h => h) (Or.inr ⟨by rfl, rfl⟩) hHeld ?_
            try simp only [Act.put, List.setIfInBounds_toArray, List.set_cons_zero, List.set_cons_succ]
            refine take_at (i := 20) (d := some 110) (v := undef) rfl rfl (by kernel_rfl) (by kernel_rfl) (by kernel_rfl) (fun _ _ _ h => h) (Or.inr ⟨by rfl, rfl⟩) hHeld ?_
            try simp only [Act.put, List.setIfInBounds_toArray, List.set_cons_zero, List.set_cons_succ]
            refine take_at (i := 21) (d := some 111) (v := undef) rfl rfl (by kernel_rfl) (by kernel_rfl) (by kernel_rfl) (fun _ _ _ h => h) (Or.inr ⟨by rfl, rfl⟩) hHeld ?_
            try simp only [Act.put, List.setIfInBounds_toArray, List.set_cons_zero, List.set_cons_succ]
            refine take_at (i := 22) (d := some 112) (v := undef) rfl rfl (by kernel_rfl) (by kernel_rfl) (by kernel_rfl) (fun _ _ _ h => h) (Or.inr ⟨by rfl, rfl⟩) hHeld ?_
            try simp only [Act.put, List.setIfInBounds_toArray, List.set_cons_zero, List.set_cons_succ]
            refine take_at (i := 23) (d := some 113) (v := undef) rfl rfl (by kernel_rfl) (by kernel_rfl) (by kernel_rfl) (fun _ _ _ h => h) (Or.inr ⟨by rfl, rfl⟩) hHeld ?_
            try simp only [Act.put, List.setIfInBounds_toArray, List.set_cons_zero, List.set_cons_succ]
            refine take_at (i := 24) (d := some 114) (v := undef) rfl rfl (by kernel_rfl) (by kernel_rfl) (by kernel_rfl) (fun _ _ _ h => h) (Or.inr ⟨by rfl, rfl⟩) hHeld ?_
            try simp only [Act.put, List.setIfInBounds_toArray, List.set_cons_zero, List.set_cons_succ]
            refine take_at (i := 25) (d := some 115) (v := undef) rfl rfl (by kernel_rfl) (by kernel_rfl) (by kernel_rfl) (fun _ _ _ h => h) (Or.inr ⟨by rfl, rfl⟩) hHeld ?_
            try simp only [Act.put, List.setIfInBounds_toArray, List.set_cons_zero, List.set_cons_succ]
            refine take_at (i := 26) (d := some 116) (v := undef) rfl rfl (by kernel_rfl) (by kernel_rfl) (by kernel_rfl) (fun _ _ _ h => h) (Or.inr ⟨by rfl, rfl⟩) hHeld ?_
            try simp only [Act.put, List.setIfInBounds_toArray, List.set_cons_zero, List.set_cons_succ]
            refine take_at (i := 27) (d := some 117) (v := ?_) rfl rfl (by kernel_rfl) (by kernel_rfl) (by kernel_rfl) (fun _ _ _ h => h) (Or.inl ⟨by rfl, ?_⟩) hHeld ?_
            rotate_left
            · (intro w hSw; (try dsimp only at hSw); first | (go_simp; done) | (go_simp; with_reducible rfl))
            try simp only [Act.put, List.setIfInBounds_toArray, List.set_cons_zero, List.set_cons_succ]
            refine wpAnyH_done (by kernel_rfl) ?_ _
            have HH := Lib.hid hHeld
            have c0' := hxc0 _ hHeld
            have c1' := hxc1 _ hHeld
            have d0' := hxd0 _ hHeld
            have d1' := hxd1 _ hHeld
            have hfz : ∀ i, wv2.frozen? ⟨w.heap.size, i, none⟩ = false := fun i => frozen_of_row wv2 _ i _ _ (row_stays HROW.out (By.ext HD.out HH.out))
            clear hxi hxc0 hxc1 hxd0 hxd1 hHeld
            go_wp2
            go_roundw
            case rel =>
              have q1 := HLT.out
              have q2 := HD.out.size
              have q3 := HH.out.size
              refine ⟨k + 1, A3, n3, c3, A4, n4, c4, us, ks, by omega, by go_num, ?_, by simp [World.setCell]; omega, ?_, ?_, HSS.out⟩
              · exact ((By.ext HB.out (By.ext HD.out HH.out)).setCell (p := ⟨w.heap.size, 0, none⟩) (Nat.le_refl _) _).setCell (p := ⟨w.heap.size, 1, none⟩) (Nat.le_refl _) _
              · exact heap_setCell_same _ _ 1 _ _ _ (heap_setCell_same _ _ 0 _ _ _ (row_stays HROW.out (By.ext HD.out HH.out)))
              · refine HCD.out.keep (fun b hb => ?_) (fun b hb => ⟨by simp [World.setCell]; have := hb.2; omega, by have := hb.1; omega⟩)
                have hne : b ≠ w.heap.size := by have := hb.1; omega
                exact (heap_setCell_other _ ⟨w.heap.size, 1, none⟩ b _ hne).trans ((heap_setCell_other _ ⟨w.heap.size, 0, none⟩ b _ hne).trans (HH.out.block b hb.2))
            case measure => simp [intOf]; omega
end Go.Proofs.Ythocmnfmialcaaa.Cn
