/- Package clock's Tick and Copy, as contracts of calls. -/
import Derived.Test.YthpcmcnkiiebkaaCkC
import Derived.Shelf.SlMaps.Clone
namespace Go.Proofs.Ythpcmcnkiiebkaa.Ck
open Go.RowKit Go.Maps By Mp SumP SumW Go.Shelf

theorem CStep.same {val : Value} {g : Nat} {c : C9} {S : Nat → Prop} {w : World} (h : ClkIs w g c S) : CStep val g c S w (.returned val) w := ⟨rfl, S, h, fun _ hb => .inl hb, Kept.refl _ _⟩
theorem nowV_in {c : C9} {e : Int} (h : 0 ≤ atF c.nodes c.edges e) : nowV c e = .tuple #[.int .i64 (c.time e), .int .i64 0] := if_pos h
theorem nowV_out {c : C9} {e : Int} (h : atF c.nodes c.edges e < 0) : nowV c e = .tuple #[.int .i64 0, .int .i64 1] := if_neg (by omega)
theorem getT_upd {N M : Nat} {t : List Int} {e v : Int} (h : 0 ≤ atF N M e) (hl : (atF N M e).toNat < t.length) (l : Lit) :
    getT N M (t.set (atF N M e).toNat v) l = upd (getT N M t) (ekey e) (some (iv v)) l := by
  unfold upd
  by_cases hs : l.sameKey (ekey e) = true
  · obtain rfl := WideAt.sameKey_eq hs
    rw [if_pos hs]
    unfold getT
    simp only
    rw [if_pos h, List.getElem?_set_self hl]; rfl
  · rw [if_neg hs]
    unfold getT
    split
    · rename_i e2
      by_cases h2 : 0 ≤ atF N M e2
      · rw [if_pos h2, if_pos h2]
        have hne : e2 ≠ e := fun e => hs (by rw [e]; exact WideAt.sameKey_self trivial)
        have : (atF N M e).toNat ≠ (atF N M e2).toNat := by
          have h3 := atF_in h
          have h4 := atF_in h2
          omega
        rw [List.getElem?_set_ne this]
      · rw [if_neg h2, if_neg h2]
    · rfl
theorem tick_bad {w : World} {g : Nat} {c : C9} {S : Nat → Prop} (h : ClkIs w g c S) (e n : Int) (e0 : -9223372036854775808 ≤ e) (e1 : e ≤ 9223372036854775807) (hn : atF c.nodes c.edges e < 0 ∨ ¬ okN n) :
    Calls Try.prog 19 #[.pointer (some ⟨g, 0, none⟩), .int .i64 e, .int .i64 n] w (CStep (.int .i64 1) g c S w) := by
  have HN := Lib.hid (now_any h e e0 e1)
  have HC := Lib.hid h
  by_cases he : atF c.nodes c.edges e < 0
  · rw [nowV_out he] at HN
    go_enter Try.func19, Try.ntmps19
    go_wp2_with (go_at_call 14; refine HN.out.mono ?_; rintro e w1 ⟨rfl, rfl⟩)
    go_ret
    exact CStep.same HC.out
  · have hk : n < 0 ∨ (0 ≤ n ∧ 1099511627776 < n) := by
      rcases hn with h | h
      · exact absurd h he
      · unfold okN at h; omega
    rw [nowV_in (by omega)] at HN
    clear he hn
    rcases hk with h1 | ⟨h0, h1⟩
    · go_enter Try.func19, Try.ntmps19
      go_wp2_with (go_at_call 14; refine HN.out.mono ?_; rintro e w1 ⟨rfl, rfl⟩)
      go_ret
      exact CStep.same HC.out
    · have h2 : ¬ n < 0 := by omega
      go_enter Try.func19, Try.ntmps19
      go_wp2_with (go_at_call 14; refine HN.out.mono ?_; rintro e w1 ⟨rfl, rfl⟩)
      go_ret
      exact CStep.same HC.out
theorem tick_over {w : World} {g : Nat} {c : C9} {S : Nat → Prop} (h : ClkIs w g c S) (e n : Int) (e0 : -9223372036854775808 ≤ e) (e1 : e ≤ 9223372036854775807) (he : 0 ≤ atF c.nodes c.edges e) (hn : okN n) (ho : top < c.time e + n) :
    Calls Try.prog 19 #[.pointer (some ⟨g, 0, none⟩), .int .i64 e, .int .i64 n] w (CStep (.int .i64 3) g c S w) := by
  have HN := Lib.hid (now_any h e e0 e1)
  have HC := Lib.hid h
  have ht := (h.ok.time he).2
  rw [nowV_in (by omega)] at HN
  have HL := Lib.hid (later_over (c.time e) n ht.1 ht.2 ho)
  obtain ⟨h1, h2⟩ := hn
  have h3 : ¬ n < 0 := by omega
  have h4 : ¬ 1099511627776 < n := by omega
  clear ht ho he h e0 e1
  go_enter Try.func19, Try.ntmps19
  go_wp2_with (first
    | (go_at_call 14; refine HN.out.mono ?_; rintro e w1 ⟨rfl, rfl⟩)
    | (go_at_call 25; refine (HL.out _).mono ?_; rintro e w1 ⟨rfl, rfl⟩))
  go_ret
  exact CStep.same HC.out
theorem ticked {w w1 : World} {g b : Nat} {c : C9} {S : Nat → Prop} {e n : Int} (h : CAt w g c b S) (he : 0 ≤ atF c.nodes c.edges e) (hn : okN n) (ho : ¬ top < c.time e + n) {k : Nat} (hm : MapIs Try.prog tInt w1 b (upd (getT c.nodes c.edges c.t) (ekey e) (some (iv (c.time e + n)))) k) (ht : w.mapTurned w1 b) (m : Bool) (hmv : m = (c.moved || decide (0 < n))) :
    CStep (.int .i64 0) g (tickC c e n) S w (.returned (.int .i64 0)) (w1.setCell ⟨g, 3, none⟩ (.bool m)) := by
  have e1 : tickC c e n = { c with t := c.t.set (atF c.nodes c.edges e).toNat (c.time e + n), moved := c.moved || decide (0 < n) } := by
    unfold tickC
    rw [if_neg (fun h => h.elim (fun h => by omega) (fun h => h hn)), if_neg ho]
  have hl : (atF c.nodes c.edges e).toNat < c.t.length := by
    have := (atF_in he).1
    have := h.ok.len
    omega
  have hg := (turned_other ht (Ne.symm h.gb)).trans h.row
  have hk := h.ok.tick e n
  rw [e1] at hk ⊢
  refine ⟨rfl, S, ⟨b, ⟨?_, ?_, h.sg, h.sb, fun x hx => ?_, hk⟩⟩, fun _ hb => .inl hb, ?_⟩
  · have := heap_setCell_same w1 g 3 _ _ (.bool m) hg
    rw [this, hmv]; rfl
  · refine ⟨k, ((hm.same (get' := getT c.nodes c.edges (c.t.set (atF c.nodes c.edges e).toNat (c.time e + n))) (fun l _ => getT_upd he hl l)).keep ?_)⟩
    exact heap_setCell_other w1 ⟨g, 3, none⟩ b _ h.gb
  · have := h.lt x hx
    simp [World.setCell]
    rw [turned_size ht]; exact this
  · refine Kept.setCell ?_ (fun _ => h.sg) _
    exact ⟨by obtain ⟨_, _, _, _, _, rfl⟩ := ht; rfl, by obtain ⟨_, _, _, _, _, rfl⟩ := ht; rfl, by obtain ⟨_, _, _, _, _, rfl⟩ := ht; rfl, Nat.le_of_eq (turned_size ht).symm, fun x _ hx => turned_other ht (fun e => hx (e ▸ h.sb))⟩
set_option maxHeartbeats 1600000 in
theorem tick_good {w : World} {g : Nat} {c : C9} {S : Nat → Prop} (h : ClkIs w g c S) (e n : Int) (e0 : -9223372036854775808 ≤ e) (e1 : e ≤ 9223372036854775807) (he : 0 ≤ atF c.nodes c.edges e) (hn : okN n) (ho : ¬ top < c.time e + n) :
    Calls Try.prog 19 #[.pointer (some ⟨g, 0, none⟩), .int .i64 e, .int .i64 n] w (CStep (.int .i64 0) g (tickC c e n) S w) := by
  have HN := Lib.hid (now_any h e e0 e1)
  obtain ⟨b, h⟩ := h
  obtain ⟨c0, c1, c2, c3⟩ := h.cells
  have HC := Lib.hid h
  have ht := (h.ok.time he).2
  rw [nowV_in (by omega)] at HN
  have HL := Lib.hid (later_fits (c.time e) n ht.1 ht.2 hn.1 (show c.time e + n ≤ top by omega))
  have HK := Lib.hid (key_fits e0 e1)
  have HP := Lib.hid (And.intro he (And.intro hn ho))
  obtain ⟨k, hm⟩ := h.map
  have hk := few hm (fun l v _ => getT_few h.ok.n2 h.ok.m l v)
  obtain ⟨w9, hrun, hm1, ht1⟩ := hm.put (t := tMap) (e := tI64) keyI Try.underlying50 (by unfold maxLen; omega) (val := iv (c.time e + n)) HK.out
  have HM1 := Lib.hid hm1
  have HT1 := Lib.hid ht1
  have HD : w9.cell? ⟨g, 3, none⟩ = some (.bool c.moved) := by rw [cell_of_row w9 g 3 _ _ _ ((turned_other ht1 (Ne.symm h.gb)).trans h.row)]; rfl
  have HF : w9.frozen? ⟨g, 3, none⟩ = false := frozen_of_row w9 g 3 _ _ ((turned_other ht1 (Ne.symm h.gb)).trans h.row)
  obtain ⟨h1, h2⟩ := hn
  have h3 : ¬ n < 0 := by omega
  have h4 : ¬ 1099511627776 < n := by omega
  obtain ⟨x, hx⟩ : ∃ x, x = c.time e + n := ⟨_, rfl⟩
  rw [← hx] at hrun HL
  rw [← hx] at HM1
  have HX := Lib.hid hx
  clear hx ht ho he h e0 e1 hm hm1 ht1 hk HK h1 c1 c2 c3
  obtain ⟨mv, hmv⟩ : ∃ mv, mv = c.moved := ⟨_, rfl⟩
  rw [← hmv] at HD
  have HMV := Lib.hid hmv
  clear hmv
  have hrun : (Instr.mapUpdate tMap (.map (some b)) (.int .i64 e) (.int .i64 x)).run Try.prog w = .ok () w9 := hrun
  go_enter Try.func19, Try.ntmps19
  go_wp2_with (first
    | (go_at_call 14; refine HN.out.mono ?_; rintro e w1 ⟨rfl, rfl⟩)
    | (go_at_call 25; refine (HL.out _).mono ?_; rintro e w1 ⟨rfl, rfl⟩))
  all_goals
    go_ret
    refine ticked HC.out HP.out.1 HP.out.2.1 (Int.not_lt.2 HP.out.2.2) (HX.out ▸ HM1.out) HT1.out _ ?_
    rw [← HMV.out]
    simp [*]
def clone_ren : Go.Shelf.Ren := ⟨fun | 5 => 20 | 7 => 28 | n => n, fun | 23 => 50 | 25 => 3 | 3 => 2 | 4 => 4 | 20 => 20 | n => n, fun | n => n⟩
theorem clone : Go.Proofs.SlLaysW.n5 Try.prog clone_ren := {
  mixed := by kernel_rfl
  f5 := ⟨Try.f20.name, by decide, Try.func20.trans (congrArg some (by kernel_rfl))⟩
  f7 := Try.func28.trans (congrArg some (by kernel_rfl))
  t4 := Try.underlying4
  a4 := Try.isAgg4
  z4 := Try.sizeOf4
  v4 := Try.zeroValue4
  t20 := Try.underlying20
  a20 := Try.isAgg20
  z20 := Try.sizeOf20
  v20 := Try.zeroValue20
  t23 := Try.underlying50
  a23 := Try.isAgg50
  z23 := Try.sizeOf50
  v23 := Try.zeroValue50 }
def GivesM (N M : Nat) (t : List Int) (w : World) (e : Ending) (w' : World) : Prop := ∃ mb, e = .returned (.map (some mb)) ∧ TimesAt w' mb N M t ∧ w.heap.size ≤ mb ∧ Below w.heap.size w w'
theorem cloneM_any (b : Nat) (N M : Nat) (t : List Int) (w : World) (h : TimesAt w b N M t) : Calls Try.prog 20 #[.map (some b)] w (GivesM N M t w) := by
  obtain ⟨k, D, hown, h2, h3⟩ := h
  refine (AnyW.maps_Clone_owns clone tInt _ b _ D w hown).mono ?_
  rintro e w' ⟨rfl, h4, _, hb⟩
  exact ⟨w.heap.size, rfl, ⟨k, D, h4, h2, h3⟩, Nat.le_refl _, hb⟩
/-- Gives clocks of the call's own. -/
def CopyClk (c : C9) (w : World) (e : Ending) (w' : World) : Prop := ∃ (g : Nat) (S : Nat → Prop), e = .returned (.pointer (some ⟨g, 0, none⟩)) ∧ ClkIs w' g c S ∧ (∀ b, S b → w.heap.size ≤ b) ∧ Below w.heap.size w w'
set_option maxHeartbeats 3200000 in
theorem copy_any (g : Nat) (c : C9) (S : Nat → Prop) (w : World) (h : ClkIs w g c S) : Calls Try.prog 10 #[.pointer (some ⟨g, 0, none⟩)] w (CopyClk c w) := by
  obtain ⟨b, h⟩ := h
  obtain ⟨c0, c1, c2, c3⟩ := h.cells
  have q1 := ptrTest
  have HC := Lib.hid h
  have hlg := row_lt h.row
  go_enter Try.func10, Try.ntmps10
  go_upto_region 4 with fail
  clear c0 c1 c2 c3 q1 h
  obtain ⟨w1, hw1⟩ : ∃ w1, w1 = w.alloc (.cells #[.map (some b), .int .i64 c.real, .int .i64 c.rho, .bool c.moved] tClk) := ⟨_, rfl⟩
  rw [← hw1]
  have hb1 : Below w.heap.size w w1 := by rw [hw1]; exact (Below.refl _ _).alloc (Nat.le_refl _) _
  have h1 := HC.out.below hb1
  have c0 := h1.cells.1
  have hr : w1.heap[w.heap.size]? = some (.cells #[.map (some b), .int .i64 c.real, .int .i64 c.rho, .bool c.moved] tClk (0, 0)) := by rw [hw1]; exact heap_alloc_new w _
  have HM := Lib.hid (cloneM_any b c.nodes c.edges c.t w1 h1.map)
  have HB1 := Lib.hid hb1
  have HR := Lib.hid hr
  clear hb1 h1 hw1
  go_wp2_with (go_at_call 20; refine HM.out.mono ?_; rintro e w2 ⟨mb, rfl, hm2, hmb, hb2⟩; have HM2 := Lib.hid hm2; have HMB := Lib.hid hmb; have HB2 := Lib.hid hb2; have hr2 := (hb2.block _ (row_lt hr)).trans hr; have hf2 := frozen_of_row w2 w.heap.size 0 _ _ hr2; have hc2 : w2.cell? ⟨w.heap.size, 0, none⟩ = some (.map (some b)) := (by rw [cell_of_row w2 w.heap.size 0 _ _ _ hr2]; rfl); have HR2 := Lib.hid hr2; clear hm2 hmb hb2 hr2)
  go_ret
  have hz := HB1.out.size
  have hz1 := row_lt HR.out
  have hz2 := HB2.out.size
  have hmb := HMB.out
  have hml := HM2.out.lt
  refine ⟨w.heap.size, fun x => w.heap.size ≤ x ∧ x < w2.heap.size, rfl, ⟨mb, ⟨?_, ?_, ⟨Nat.le_refl _, by omega⟩, ⟨by omega, hml⟩, fun x hx => by simp [World.setCell]; exact hx.2, HC.out.ok⟩⟩, fun x hx => hx.1, ?_⟩
  · have := heap_setCell_same w2 w.heap.size 0 _ _ (.map (some mb)) HR2.out
    rw [this]; rfl
  · exact HM2.out.keep (heap_setCell_other w2 ⟨w.heap.size, 0, none⟩ mb _ (by show mb ≠ w.heap.size; omega))
  · exact (By.ext HB1.out HB2.out).setCell (Nat.le_refl _) _
end Go.Proofs.Ythpcmcnkiiebkaa.Ck
