/- The law's alike over clocks, as a contract of a call; acts that come in as an argument. -/
import Derived.Test.YthpcmcnkiiebkaaCkI
import Derived.Test.YthpcmcnkiiebkaaGD
import Derived.Deep.Slices
namespace Go.Proofs.Ythpcmcnkiiebkaa.Ck
open Go.ChangeShapes Go.WideShapes Go.ChangeAt Go.RowKit Go.Deep Go.Maps By Mp SumP SumW

theorem below_drewN (w : World) (n : Nat) : Below w.heap.size w (w.drewN n) := ⟨rfl, rfl, rfl, Nat.le_refl _, fun _ _ => rfl⟩
set_option maxRecDepth 100000 in
set_option maxHeartbeats 4000000 in
theorem alike_any (g r : Nat) (c : C9) (S T : Nat → Prop) (w : World) (h : Two w g r c S T) : Calls Try.prog 12 #[.pointer (some ⟨g, 0, none⟩), .pointer (some ⟨r, 0, none⟩)] w (True_ w) := by
  have HT := Lib.hid h
  obtain ⟨q, hr⟩ := h.ref
  obtain ⟨c0, c1, c2, c3, c4, c5⟩ := hr.cells
  have HR := Lib.hid hr
  have HTR := Lib.hid (fun n => Ret.same (true_any (h.clk.below (below_drewN w n))))
  have HST := Lib.hid (fun n => Ret.same (steady_any (h.clk.below (below_drewN w n))))
  have hN2 := hr.ok.n2
  have hM2 := hr.ok.m
  obtain ⟨L, hL⟩ : ∃ L, L = c.nodes + c.edges := ⟨_, rfl⟩
  have HL := Lib.hid hL
  rw [← hL] at c3
  clear hL hr h
  go_enter Try.func12, Try.ntmps12
  go_wp2
  go_loopw [5] (fun i wr => ∃ k : Int, -17 ≤ k ∧ k ≤ 18 ∧ i = .int .i64 k ∧ wr = w) (fun i _ => (18 - intOf i).toNat)
  case atStart => exact ⟨-17, by omega, by omega, rfl, rfl⟩
  case round =>
    obtain ⟨k, hk0, hk1, rfl, rfl⟩ := hrel
    by_cases hlt : k ≤ 17
    · have HN := Lib.hid (now_any HT.out.clk k (by omega) (by omega))
      have HA := Lib.hid (at_any HT.out.ref k (by omega) (by omega))
      by_cases hat : 0 ≤ atF c.nodes c.edges k
      · rw [nowV_in hat] at HN
        have h1 := atF_in hat
        obtain ⟨hx, hx0, hx1⟩ := HR.out.ok.time hat
        obtain ⟨j, hj⟩ : ∃ j : Nat, (j : Int) = atF c.nodes c.edges k := ⟨_, Int.toNat_of_nonneg hat⟩
        have hcx := HR.out.cellAt hx
        rw [← hj] at HA hcx
        rw [Int.toNat_natCast] at hcx
        have hjl : (j : Int) < (L : Int) := by rw [HL.out]; omega
        have hjl2 : j < L := by omega
        clear hat h1 hx hj hx0 hx1 c0 c1 c2 c4 c5
        generalize c.time k = x at *
        go_wp2_with (first
          | (go_at_call 14; refine HN.out.mono ?_; rintro e w3 ⟨rfl, rfl⟩)
          | (go_at_call 23; refine HA.out.mono ?_; rintro e w3 ⟨rfl, rfl⟩))
        go_roundw
        case rel => exact ⟨k + 1, by omega, by omega, by go_num, by first | rfl | trivial⟩
        case measure => simp [intOf]; omega
      · have hout := atF_out (show atF c.nodes c.edges k < 0 by omega)
        rw [nowV_out (by omega)] at HN
        rw [hout.1] at HA
        clear hat hout c0 c1 c2 c4 c5
        go_wp2_with (first
          | (go_at_call 14; refine HN.out.mono ?_; rintro e w3 ⟨rfl, rfl⟩)
          | (go_at_call 23; refine HA.out.mono ?_; rintro e w3 ⟨rfl, rfl⟩))
        go_roundw
        case rel => exact ⟨k + 1, by omega, by omega, by go_num, by first | rfl | trivial⟩
        case measure => simp [intOf]; omega
    · clear c0 c1 c2
      generalize c.real = re at *
      generalize c.moved = mv at *
      cases mv
      all_goals
        go_wp2
        go_quiet (first
          | (go_at_call 13; exact Calls.quiet_of_same (HTR.out _))
          | (go_at_call 16; exact Calls.quiet_of_same (HST.out _)))
        go_wp2
        go_ret
        exact ⟨by simp, below_drewN _ _⟩
/-! ### Acts that come in -/
def aCells (a : A9) : List Value := [.int .i64 a.kind, .int .i64 a.e, .int .i64 a.n, .int .u64 a.d]
def LiesA (w : World) (B : Nat) (A : Option Addr) (l : List A9) : Prop :=
  0 < l.length → ∃ g o, A = some ⟨g, o, none⟩ ∧ g < B ∧ ∀ (k : Nat) x, l[k]? = some x → ∀ (j : Nat) u, (aCells x)[j]? = some u → w.cell? ⟨g, o + k * 4 + j, none⟩ = some u
def ActsOk (l : List A9) : Prop := ∀ x ∈ l, x.Ok
theorem LiesA.at_ {w : World} {B : Nat} {A : Option Addr} {l : List A9} (h : LiesA w B A l) {k : Nat} {x : A9} (hx : l[k]? = some x) : ∃ g o, A = some ⟨g, o, none⟩ ∧ g < B ∧ w.cell? ⟨g, o + k * 4, none⟩ = some (.int .i64 x.kind) ∧ w.cell? ⟨g, o + k * 4 + 1, none⟩ = some (.int .i64 x.e) ∧ w.cell? ⟨g, o + k * 4 + 2, none⟩ = some (.int .i64 x.n) ∧ w.cell? ⟨g, o + k * 4 + 3, none⟩ = some (.int .u64 x.d) := by
  have hk := (List.getElem?_eq_some_iff.1 hx).1
  obtain ⟨g, o, e, hg, hc⟩ := h (by omega)
  exact ⟨g, o, e, hg, hc k _ hx 0 _ rfl, hc k _ hx 1 _ rfl, hc k _ hx 2 _ rfl, hc k _ hx 3 _ rfl⟩
theorem LiesA.below {w w' : World} {B : Nat} {A : Option Addr} {l : List A9} (h : LiesA w B A l) (hb : Below B w w') : LiesA w' B A l := fun hn => by
  obtain ⟨g, o, e, hg, hc⟩ := h hn
  exact ⟨g, o, e, hg, fun k x hx j u hu => (hb.cell (p := ⟨g, o + k * 4 + j, none⟩) hg).trans (hc k x hx j u hu)⟩
theorem actCells : Try.prog.cellsOf tAct = 4 := by kernel_rfl
theorem cellsI : Try.prog.cellsOf 3 = 1 := by kernel_rfl
theorem cellsJ : Try.prog.cellsOf 2 = 1 := by kernel_rfl
theorem cellsU : Try.prog.cellsOf 31 = 1 := by kernel_rfl
set_option maxRecDepth 100000 in
/-- An act that is read. -/
theorem act_open {H : Type} {enc : TypeId × Value → H} {W : World} {fuel : Nat} {cs : List Value} {x : DataW H × List MemPlace} (h : DataW.trod enc Try.prog W 0 (fun _ => true) true fuel tAct cs = some x) : ∃ a : A9, cs = aCells a ∧ a.Ok := by
  obtain ⟨xs, n, _, rfl, hcs, hlen, hf⟩ := DataW.trod_struct Try.underlying33 h
  rw [actCells] at hcs
  have hl5 : xs.length = 4 := by simpa using hlen
  obtain ⟨c0, c1, c2, c3, rfl⟩ : ∃ c0 c1 c2 c3, cs = [c0, c1, c2, c3] := by
    rcases cs with _ | ⟨c0, _ | ⟨c1, _ | ⟨c2, _ | ⟨c3, _ | ⟨c5, r⟩⟩⟩⟩⟩ <;> simp at hcs
    exact ⟨c0, c1, c2, c3, rfl⟩
  obtain ⟨x0, x2, x4, x3, rfl⟩ : ∃ x0 x2 x4 x3, xs = [x0, x2, x4, x3] := by
    rcases xs with _ | ⟨c0, _ | ⟨c1, _ | ⟨c2, _ | ⟨c3, _ | ⟨c5, r⟩⟩⟩⟩⟩ <;> simp at hl5
    exact ⟨c0, c1, c2, c3, rfl⟩
  have h0 : DataW.trod enc Try.prog W 0 (fun _ => true) true n 3 (([c0, c1, c2, c3].drop 0).take (Try.prog.cellsOf 3)) = some x0 := hf 0 _ rfl
  have h1 : DataW.trod enc Try.prog W 0 (fun _ => true) true n 3 (([c0, c1, c2, c3].drop 1).take (Try.prog.cellsOf 3)) = some x2 := hf 1 _ rfl
  have h2 : DataW.trod enc Try.prog W 0 (fun _ => true) true n 2 (([c0, c1, c2, c3].drop 2).take (Try.prog.cellsOf 2)) = some x4 := hf 2 _ rfl
  have h3 : DataW.trod enc Try.prog W 0 (fun _ => true) true n 31 (([c0, c1, c2, c3].drop 3).take (Try.prog.cellsOf 31)) = some x3 := hf 3 _ rfl
  rw [cellsI] at h0 h1
  rw [cellsJ] at h2
  rw [cellsU] at h3
  simp only [List.drop_zero, List.drop_succ_cons, List.take_succ_cons, List.take_zero] at h0 h1 h2 h3
  obtain ⟨k0, e0, rfl, w0⟩ := DataW.trod_int Try.underlying3 h0
  obtain ⟨k1, e1, rfl, w1⟩ := DataW.trod_int Try.underlying3 h1
  obtain ⟨k2, e2, rfl, w2⟩ := DataW.trod_int Try.underlying2 h2
  obtain ⟨k3, e3, rfl, w3⟩ := DataW.trod_int Try.underlying31 h3
  injection e0 with e0
  injection e1 with e1
  injection e2 with e2
  injection e3 with e3
  subst e0 e1 e2 e3
  exact ⟨⟨k0, k1, k2, k3⟩, rfl, ⟨Opn.wf_i64 w1, Opn.wf_u64 w3⟩⟩
set_option maxRecDepth 100000 in
/-- Acts that come in as an argument. -/
theorem acts_open {H : Type} {enc : TypeId × Value → H} {v : Value} {d : DataW H} {p : List MemPlace} {W : World} {base : Nat} (hv : Value.okWide Try.prog W .any base 22 v)
    (h : DataW.Trod enc Try.prog W 0 (fun _ => true) true 22 v d p) (hlt : ∀ x ∈ p, x.block < W.heap.size) (M : Nat) (hM : ∀ elems spare, d = .slice elems spare → elems.length ≤ M) :
    ∃ (A : Option Addr) (c : Nat) (l : List A9), v = .slice A l.length c ∧ LiesA W W.heap.size A l ∧ ActsOk l ∧ l.length ≤ M := by
  obtain ⟨a0, len0, cap0, rfl⟩ := okWide_slice Try.underlying22 hv
  obtain ⟨fuel, hf⟩ := h
  rcases open_slice Try.underlying22 hf with ⟨hcs, _⟩ | ⟨a, len, cap, m, n, D, Pl, hcs, _, hl, _, hmm, hx, hi⟩
  · simp [Value.cells] at hcs
    obtain ⟨rfl, rfl, rfl⟩ := hcs
    exact ⟨none, 0, [], rfl, fun h => absurd h (by simp), fun x hx => (by cases hx), Nat.zero_le _⟩
  · simp [Value.cells] at hcs
    obtain ⟨rfl, rfl, rfl⟩ := hcs
    simp only [Prod.mk.injEq] at hx
    obtain ⟨rfl, rfl⟩ := hx
    simp only [if_true] at hmm
    subst hmm
    rw [actCells] at hi hlt
    have hcnt := hM _ _ rfl
    rw [List.length_map, List.length_range] at hcnt
    have hall : ∀ i, i < len0 → ∃ x : A9, W.cells? 0 (a.add (i * 4)) 4 = some (aCells x) ∧ x.Ok := fun i hil => by
      obtain ⟨cs', hc, htr⟩ := hi i (by omega)
      obtain ⟨x, e, h3⟩ := act_open htr
      exact ⟨x, e ▸ hc, h3⟩
    obtain ⟨l, hll, hlx⟩ : ∃ l : List A9, l.length = len0 ∧ ∀ (i : Nat) x, l[i]? = some x → W.cells? 0 (a.add (i * 4)) 4 = some (aCells x) ∧ x.Ok := by
      refine ⟨(List.range len0).pmap (fun i hi => Classical.choose (hall i hi)) (fun i hi => List.mem_range.1 hi), by simp, fun i x hx => ?_⟩
      have hil : i < len0 := by simpa using (List.getElem?_eq_some_iff.1 hx).1
      have e : x = Classical.choose (hall i hil) := by
        rw [List.getElem?_eq_getElem (by simpa using hil)] at hx
        injection hx with hx
        rw [← hx]
        simp
      rw [e]
      exact Classical.choose_spec (hall i hil)
    refine ⟨_, m, l, by rw [hll], fun hn => ?_, fun x hx => ?_, by omega⟩
    · have hn0 : 0 < len0 := by omega
      obtain ⟨hc0, _⟩ := hlx 0 _ (List.getElem?_eq_getElem hn)
      obtain ⟨b, off, spot⟩ := a
      have hspot : spot = none := by
        obtain ⟨_, hcl, hat⟩ := World.cells?_some hc0
        have hx := hat 0 (by decide)
        rw [show (aCells _)[0]? = some _ from rfl] at hx
        simpa [Addr.add] using World.cell?_spot hx
      subst hspot
      refine ⟨b, off, rfl, hlt (.cell b off) (List.mem_append_left _ (MemPlace.mem_row.2 ⟨0, by omega, by simp⟩)), fun k x hx j u hu => ?_⟩
      obtain ⟨hc, _⟩ := hlx k x hx
      obtain ⟨_, hcl, hat⟩ := World.cells?_some hc
      have hj : j < 4 := by have := (List.getElem?_eq_some_iff.1 hu).1; simpa [aCells] using this
      have := hat j hj
      rw [plainAdd, plainAdd, hu] at this
      exact this
    · obtain ⟨i, hi2, rfl⟩ := List.getElem_of_mem hx
      exact (hlx i _ (List.getElem?_eq_getElem hi2)).2
end Go.Proofs.Ythpcmcnkiiebkaa.Ck
