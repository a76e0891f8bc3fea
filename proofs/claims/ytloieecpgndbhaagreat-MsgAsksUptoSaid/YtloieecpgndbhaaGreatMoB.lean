/- Package scupperref03's reader in memory, and what its Num, Int, Data and Whole do, as contracts of calls. The reader's state as a plain value: what is left to read; none: bad. -/
import Derived.Test.YtloieecpgndbhaaGreatMoA
import Derived.Test.YtloieecpgndbhaaGreatRfB
namespace Go.Proofs.YtloieecpgndbhaaGreat.Mo
open Go.RowKit By CoP Co

abbrev St := Option (List UInt8)
/-- A number is read. -/
def pNum : St → Nat × St
  | none => (0, none)
  | some r => if (numR r).2.2 ≠ 0 then (0, none) else ((numR r).1, some (r.drop (numR r).2.1))
/-- A number up to a limit. -/
def pInt (most : Nat) (s : St) : Nat × St := if most < (pNum s).1 then (0, none) else pNum s
/-- A list of bytes. -/
def pData : St → List UInt8 × St
  | none => ([], none)
  | some r => if (bytesR r).2.2 ≠ 0 then ([], none) else ((bytesR r).1, some (r.drop (bytesR r).2.1))

/-- The state's two cells. -/
def StIs (b : List UInt8) (s : St) (at_ : Nat) (bad : Bool) : Prop := at_ ≤ b.length ∧ ((bad = true ∧ s = none) ∨ (bad = false ∧ s = some (b.drop at_)))
/-- The reader at block g, above block B, reads bytes b that lie below B. -/
def InAt (B g : Nat) (w : World) (b : List UInt8) (s : St) : Prop := ∃ A c at_ bad, B ≤ g ∧ b.length ≤ c ∧ b.length ≤ 140737488355328 ∧ w.heap[g]? = some (.cells #[.slice A b.length c, .int .i64 (at_ : Nat), .bool bad] 194 (0, 0)) ∧ Lies w B A b ∧ StIs b s at_ bad
/-- Gives a value; the reader goes on; all else as it was. -/
def Reads (v : Value) (B g : Nat) (b : List UInt8) (s : St) (w : World) (e : Ending) (w' : World) : Prop := e = .returned v ∧ InAt B g w' b s ∧ w.grownBy w' (some g)

theorem grown_of_below {w w' : World} (h : Below w.heap.size w w') (r : Option Nat) : w.grownBy w' r := ⟨h.os, h.tape, h.output, h.size, fun k hk _ => h.block k hk⟩
theorem grown_set {w : World} (g o : Nat) (u : Value) : w.grownBy (w.setCell ⟨g, o, none⟩ u) (some g) := ⟨rfl, rfl, rfl, by simp [World.setCell], fun k _ h => heap_setCell_other w _ k u (fun e => h (by subst e; rfl))⟩
theorem lies_grown {w w' : World} {B g : Nat} {A : Option Addr} {l : List UInt8} (h : Lies w B A l) (hs : B ≤ w.heap.size) (hg : w.grownBy w' (some g)) (hB : B ≤ g) : Lies w' B A l := h.keep fun p hp => World.cell?_of_block (w := w) (hg.block p.block (by omega) (fun e => by injection e; omega))

set_option maxHeartbeats 400000 in
theorem inNum_any (B g : Nat) (b : List UInt8) (s : St) (w : World) (h : InAt B g w b s) :
    Calls Tryz.prog 100 #[.pointer (some ⟨g, 0, none⟩)] w (Reads (.int .u64 ((pNum s).1 : Nat)) B g b (pNum s).2 w) := by
  obtain ⟨A, c, at_, bad, hBg, hbc, hbm, hrow, hr, hat, hst⟩ := h
  have hc0 : w.cell? ⟨g, 0, none⟩ = some (.slice A b.length c) := by rw [cell_of_row w g 0 _ _ _ hrow]; rfl
  have hc1 : w.cell? ⟨g, 1, none⟩ = some (.int .i64 (at_ : Nat)) := by rw [cell_of_row w g 1 _ _ _ hrow]; rfl
  have hc2 : w.cell? ⟨g, 2, none⟩ = some (.bool bad) := by rw [cell_of_row w g 2 _ _ _ hrow]; rfl
  have hgs := row_lt hrow
  rcases hst with ⟨rfl, rfl⟩ | ⟨rfl, rfl⟩
  · have HROW := Lib.hid hrow
    clear hrow
    go_enter Tryz.func100, Tryz.ntmps100
    go_wp2
    go_ret
    exact ⟨rfl, ⟨A, c, at_, true, hBg, hbc, hbm, HROW.out, hr, hat, .inl ⟨rfl, rfl⟩⟩, grown_refl _ _⟩
  · have hnum := rnum_in A b.length c at_ B b rfl hat hbm w.drew hr.drew
    have hp : pNum (some (b.drop at_)) = pNum (some (b.drop at_)) := rfl
    conv at hp => rhs; unfold pNum
    have hfac := numR_facts (b.drop at_)
    rw [List.length_drop] at hfac
    simp only at hp
    rw [List.drop_drop] at hp
    generalize numR (b.drop at_) = N at hnum hp hfac
    obtain ⟨v, used, er⟩ := N
    have hnum2 : Calls Tryz.prog 230 #[.slice A b.length c, .int .i64 (at_ : Nat)] w.drew (GivesN v (nextI at_ used er) (er : Int) w.drew) := hnum
    simp only at hp hfac
    have HROW := Lib.hid hrow
    have HR := Lib.hid hr
    have HATB := Lib.hid hat
    clear hrow hnum hr
    by_cases he : er = 0
    · subst he
      obtain ⟨hu, hv⟩ := hfac rfl
      have hp2 : pNum (some (b.drop at_)) = (v, some (b.drop (at_ + used))) := by rw [hp, if_neg (by simp)]
      rw [nextI_ok, ← Int.natCast_add] at hnum2
      have hat2 : at_ + used ≤ b.length := by have := HATB.out; omega
      obtain ⟨nx, hnx⟩ : ∃ nx, at_ + used = nx := ⟨_, rfl⟩
      rw [hnx] at hnum2 hp2 hat2
      have HP := Lib.hid hp2
      have HNUM := Lib.hid hnum2
      have HAT2 := Lib.hid hat2
      clear hnum2 hfac hp hp2 hat2 hnx hu
      go_enter Tryz.func100, Tryz.ntmps100
      go_wp2
      go_region_law (go_simp; go_at_call 230; refine HNUM.out.mono ?_; rintro e w1 ⟨rfl, hb1⟩
                     have hB1 : Below w.heap.size w w1 := ⟨hb1.os, hb1.tape, hb1.output, hb1.size, hb1.block⟩
                     have hrow1 := (hB1.block g hgs).trans HROW.out
                     have hf1 : w1.frozen? ⟨g, 1, none⟩ = false := frozen_of_row w1 g 1 _ _ hrow1
                     have hk1 : w1.cell? ⟨g, 1, none⟩ = some (.int .i64 (at_ : Nat)) := by rw [cell_of_row w1 g 1 _ _ _ hrow1]; rfl
                     have HROW1 := Lib.hid hrow1
                     have HB1 := Lib.hid hB1
                     clear hb1 hrow1 hB1)
      all_goals
        go_wp2
        go_ret
        rw [HP.out]
        refine ⟨rfl, ⟨A, c, nx, false, hBg, hbc, hbm, ?_, ?_, HAT2.out, .inr ⟨rfl, rfl⟩⟩, ?_⟩
        · have h := heap_setCell_same _ g 1 _ _ (.int .i64 (nx : Nat)) HROW1.out
          simpa using h
        · exact lies_grown (lies_grown HR.out (by omega) (grown_of_below HB1.out _) hBg) (by have := HB1.out.size; omega) (grown_set g 1 _) hBg
        · exact grown_trans (grown_of_below HB1.out _) (grown_set g 1 _)
    · have heb : ((er : Int) != 0) = true := by rw [bne_iff_ne]; omega
      have hp2 : pNum (some (b.drop at_)) = (0, none) := by rw [hp, if_pos he]
      have HP := Lib.hid hp2
      have HNUM := Lib.hid hnum2
      clear hnum2 hfac hp hp2
      go_enter Tryz.func100, Tryz.ntmps100
      go_wp2
      go_region_law (go_simp; go_at_call 230; refine HNUM.out.mono ?_; rintro e w1 ⟨rfl, hb1⟩
                     have hB1 : Below w.heap.size w w1 := ⟨hb1.os, hb1.tape, hb1.output, hb1.size, hb1.block⟩
                     have hrow1 := (hB1.block g hgs).trans HROW.out
                     have hf1 : w1.frozen? ⟨g, 2, none⟩ = false := frozen_of_row w1 g 2 _ _ hrow1
                     have hk1 : w1.cell? ⟨g, 2, none⟩ = some (.bool false) := by rw [cell_of_row w1 g 2 _ _ _ hrow1]; rfl
                     have HROW1 := Lib.hid hrow1
                     have HB1 := Lib.hid hB1
                     clear hb1 hrow1 hB1)
      all_goals
        go_wp2
        go_ret
        rw [HP.out]
        refine ⟨rfl, ⟨A, c, at_, true, hBg, hbc, hbm, ?_, ?_, HATB.out, .inl ⟨rfl, rfl⟩⟩, ?_⟩
        · have h := heap_setCell_same _ g 2 _ _ (.bool true) HROW1.out
          simpa using h
        · exact lies_grown (lies_grown HR.out (by omega) (grown_of_below HB1.out _) hBg) (by have := HB1.out.size; omega) (grown_set g 2 _) hBg
        · exact grown_trans (grown_of_below HB1.out _) (grown_set g 2 _)
end Go.Proofs.YtloieecpgndbhaaGreat.Mo
