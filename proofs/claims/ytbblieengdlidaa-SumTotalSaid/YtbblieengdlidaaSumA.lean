/- The total of many, whatever list comes in: the law's own walk. -/
import Derived.Test.YtbblieengdlidaaSumL
import Derived.Test.YtbblieengdlidaaSumT
import Derived.Laws.AppendOwnNone
namespace Go.Proofs.Ytbblieengdlidaa.SumW
open Go.RowKit Go.WideShapes SumP

theorem i64Info : (Try.prog.info? 2).map (fun i => (i.zero, i.size, i.bytes)) = some (some (.int .i64 0), 1, 8) := by kernel_rfl
theorem addBlock (a : Addr) (n : Nat) : (a.add n).block = a.block := by unfold Addr.add; split <;> rfl
/-- True, and old memory as it was. -/
def Kept (w : World) (e : Ending) (w' : World) : Prop := e = .returned (.bool true) ∧ Below w.heap.size w w'

theorem total_owned {w : World} {base : Nat} {v : Value} {zs : List Int} (h : w.ownsRow base 2 1 v zs.length (zs.map (Value.int .i64))) (hm : zs.length ≤ 9223372036854775807) (hw : ∀ j, -9223372036854775808 ≤ zs.getD j 0 ∧ zs.getD j 0 ≤ 9223372036854775807) :
    Calls Try.prog 17 #[v] w (Two (totV 0 zs) (totE 0 zs) w) := by
  have hown := h
  rcases h.2 with ⟨rfl, h0⟩ | ⟨g, cap, cur, rfl, _⟩
  · obtain rfl : zs = [] := List.length_eq_zero_iff.1 h0
    exact total_empty none 0 w
  · refine total_row g 0 cap zs w hm hw ?_
    intro j hj
    rw [Nat.zero_add, hown.cellAt j (by omega)]
    simp [List.getD, List.getElem?_eq_getElem hj]

set_option maxHeartbeats 400000 in
theorem sumTotal_row (a : Addr) (cap : Nat) (zs : List Int) (len : Nat) (hl : len = zs.length) (hm : len * 8 ≤ 140737488351232) (hw : ∀ j, -9223372036854775808 ≤ zs.getD j 0 ∧ zs.getD j 0 ≤ 9223372036854775807) (w : World) (hb : a.block < w.heap.size)
    (hc : ∀ j, j < len → w.cell? (a.add j) = some (.int .i64 (zs.getD j 0))) :
    Calls Try.prog 4 #[.slice (some a) len cap] w (Kept w) := by
  obtain ⟨i0, hi, hz0, hz1, hz2⟩ := info_parts i64Info
  have HI := Lib.hid hi
  have HL := Lib.hid hl
  have hn : (zs.map (Value.int .i64)).length = len * 1 := by simp; omega
  have HN := Lib.hid hn
  have HC := Lib.hid hc
  have HW := Lib.hid hw
  have hA : ∀ (t : TypeId), (w.alloc (.cells #[] t)).cell? = (w.alloc (.cells #[] t)).cell? := fun _ => rfl
  clear hA hi hl hn hc hw
  go_enter Try.func4, Try.ntmps4
  go_wp2_with (at_builtin; refine wpList_append_own _ rfl (.tmp 8) (.tmp 9) 27 rfl w.heap.size 2 i0 (.int .i64 0) 1 8 Try.underlying27 HI.out hz0 hz1 hz2 rfl (by decide) _ 0 [] rfl (World.ownsRow_made w #[] 0 (Nat.le_refl _) (by simp [maxLen]) rfl) a len cap (zs.map (Value.int .i64)) rfl HN.out ?c1 ?c2 ?c3 ?c4 ?c5 ?_)
  case c1 =>
    intro j u hj
    rw [((Below.refl w.heap.size w).alloc (Nat.le_refl _) (.cells #[] 2)).cell (p := a.add j) (by rw [addBlock]; exact hb)]
    simp only [List.getElem?_map, Option.map_eq_some_iff] at hj
    obtain ⟨z, hz, rfl⟩ := hj
    have hjl : j < zs.length := (List.getElem?_eq_some_iff.1 hz).1
    rw [HC.out j (by rw [HL.out]; exact hjl)]
    simp [List.getD, hz]
  case c2 =>
    intro u hu
    simp only [List.mem_map] at hu
    obtain ⟨z, _, rfl⟩ := hu
    rfl
  case c3 => unfold maxLen; omega
  case c4 => omega
  case c5 => simp
  · intro v' w1 hown hgrow _
    have hz := HL.out
    rw [hz] at hown
    have hbel : Below w.heap.size w w1 := ((Below.refl w.heap.size w).alloc (Nat.le_refl _) (.cells #[] 2)).grown hgrow (by simp) (by intro k hk; simp [Value.ownBlock] at hk; omega)
    have hcs : ∀ j, j < len → w1.cell? (a.add j) = some (.int .i64 (zs.getD j 0)) := fun j hj => by
      rw [hbel.cell (p := a.add j) (by rw [addBlock]; exact hb)]; exact HC.out j hj
    have HCS := Lib.hid hcs
    clear hz hcs hgrow
    go_wp2_with fail
    refine (total_owned hown (by rw [← HL.out]; omega) HW.out).mono ?_
    rintro e w2 ⟨rfl, rfl⟩
    go_wp2_with fail
    have hr : Calls Try.prog 18 #[.slice (some a) len cap] w2 (Two (totV 0 zs) (totE 0 zs) w2) := by
      by_cases h0 : len = 0
      · have hl := HL.out
        obtain rfl : zs = [] := List.length_eq_zero_iff.1 (by omega)
        subst h0
        exact rtotal_empty _ _ _
      · obtain ⟨b, off, spot⟩ := a
        have hspot : spot = none := by simpa [Addr.add] using World.cell?_spot (HCS.out 0 (by omega))
        subst hspot
        exact rtotal_row b off cap zs len w2 HL.out (by omega) HW.out (fun j hj => by rw [← add_plain]; exact HCS.out j hj)
    refine hr.mono ?_
    clear hr
    rintro e w3 ⟨rfl, rfl⟩
    go_wp2_with fail
    refine (answers_yes _).mono ?_
    rintro e w4 ⟨rfl, rfl⟩
    go_wp2
    go_ret
    exact ⟨rfl, hbel⟩

set_option maxHeartbeats 400000 in
/-- A list of no elements, whatever its address. -/
theorem sumTotal_row' (a : Addr) (cap : Nat) (w : World) : Calls Try.prog 4 #[.slice (some a) 0 cap] w (Kept w) := by
  obtain ⟨i0, hi, hz0, hz1, hz2⟩ := info_parts i64Info
  have HI := Lib.hid hi
  clear hi
  go_enter Try.func4, Try.ntmps4
  go_wp2_with (at_builtin; refine wpList_append_own _ rfl (.tmp 8) (.tmp 9) 27 rfl w.heap.size 2 i0 (.int .i64 0) 1 8 Try.underlying27 HI.out hz0 hz1 hz2 rfl (by decide) _ 0 [] rfl (World.ownsRow_made w #[] 0 (Nat.le_refl _) (by simp [maxLen]) rfl) a 0 cap [] rfl rfl ?c1 ?c2 ?c3 ?c4 ?c5 ?_)
  case c1 => intro j u hj; simp at hj
  case c2 => intro u hu; simp at hu
  case c3 => simp [maxLen]
  case c4 => simp
  case c5 => simp
  · intro v' w1 hown hgrow _
    have hbel : Below w.heap.size w w1 := ((Below.refl w.heap.size w).alloc (Nat.le_refl _) (.cells #[] 2)).grown hgrow (by simp) (by intro k hk; simp [Value.ownBlock] at hk; omega)
    have hown2 : w1.ownsRow w.heap.size 2 1 v' ([] : List Int).length (([] : List Int).map (Value.int .i64)) := by simpa using hown
    clear hgrow hown
    go_wp2_with fail
    refine (total_owned hown2 (by simp) (by intro j; simp [List.getD])).mono ?_
    rintro e w2 ⟨rfl, rfl⟩
    go_wp2_with fail
    refine (rtotal_empty _ _ _).mono ?_
    rintro e w3 ⟨rfl, rfl⟩
    go_wp2_with fail
    refine (answers_yes _).mono ?_
    rintro e w4 ⟨rfl, rfl⟩
    have e1 : totV 0 [] = 0 := rfl
    have e2 : totE 0 [] = 0 := rfl
    go_wp2
    go_ret
    exact ⟨rfl, hbel⟩

theorem sumTotal_nil (w : World) : Calls Try.prog 4 #[.slice none 0 0] w (Kept w) := by
  obtain ⟨i0, hi, hz0, hz1, hz2⟩ := info_parts i64Info
  have HI := Lib.hid hi
  clear hi
  go_enter Try.func4, Try.ntmps4
  go_wp2_with (at_builtin; refine wpList_append_own_none rfl (.tmp 8) (.tmp 9) 27 rfl w.heap.size 2 i0 1 Try.underlying27 HI.out _ 0 [] rfl (World.ownsRow_made w #[] 0 (Nat.le_refl _) (by simp [maxLen]) rfl) rfl ?_)
  go_wp2_with fail
  refine (total_empty _ _ _).mono ?_
  rintro e w2 ⟨rfl, rfl⟩
  go_wp2_with fail
  refine (rtotal_empty _ _ _).mono ?_
  rintro e w3 ⟨rfl, rfl⟩
  go_wp2_with fail
  refine (answers_yes _).mono ?_
  rintro e w4 ⟨rfl, rfl⟩
  go_wp2
  go_ret
  exact ⟨rfl, (Below.refl _ _).alloc (Nat.le_refl _) _⟩
end Go.Proofs.Ytbblieengdlidaa.SumW
