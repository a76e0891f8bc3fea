/- What is asked of a Shot's fields together. | Entries, configurations, snapshots, hard states: their shapes, what is sound, their bytes. No walk. -/
import Derived.Test.YtdbaajgkcjpnoaaGreatKgA
import Derived.Test.YtdbaajgkcjpnoaaGreatGA
import Derived.Deep.QuietTactic
import Derived.BigQuiet
import Derived.Test.YtdbaajgkcjpnoaaGreatKmA
import Derived.Test.YtdbaajgkcjpnoaaGreatGL
import Derived.Test.YtdbaajgkcjpnoaaGreatMoF
/-! What is asked of a Shot's fields together. -/
namespace Go.Proofs.YtdbaajgkcjpnoaaGreat.Kd
open Go.RowKit By CoP Co Mo

/-- Both are nothing, or neither. -/
def shotT : List Data → Bool
  | .lit (.int .u64 a) :: .lit (.int .u64 b) :: _ => decide (a = 0) == decide (b = 0)
  | _ => false
end Go.Proofs.YtdbaajgkcjpnoaaGreat.Kd

/-! Entries, configurations, snapshots, hard states: their shapes, what is sound, their bytes. No walk. -/
namespace Go.Proofs.YtdbaajgkcjpnoaaGreat.Kd
open Go.RowKit By CoP Co Mo

/-- What is asked of an Entry's fields together. -/
def entryT : List Data → Bool
  | [_, _, .lit (.int _ kd), _, .lit (.string da)] => if kd = 1 then da.isEmpty else if kd = 3 then confReads da else true
  | _ => false
def entryF : List Kd := [numK 1 4611686018427387904, numK 1 4611686018427387904, intK 1 3, intK 0 1099511627776, bytesK 4096]
def entryK : Kd := recK entryF entryT
def shotF : List Kd := [numK 0 4611686018427387904, numK 0 4611686018427387904, confK, bytesK 32768]
def shotK : Kd := recK shotF shotT
theorem entryF_ok : ∀ k ∈ entryF, k.Ok := by
  intro k hk
  simp only [entryF, List.mem_cons, List.not_mem_nil, or_false] at hk
  rcases hk with rfl | rfl | rfl | rfl | rfl
  all_goals first | exact numK_ok _ _ | exact intK_ok _ _ | exact bytesK_ok _
theorem entryK_ok : entryK.Ok := recK_ok entryF_ok _
theorem shotF_ok : ∀ k ∈ shotF, k.Ok := by
  intro k hk
  simp only [shotF, List.mem_cons, List.not_mem_nil, or_false] at hk
  rcases hk with rfl | rfl | rfl | rfl
  all_goals first | exact numK_ok _ _ | exact confK_ok | exact bytesK_ok _
theorem shotK_ok : shotK.Ok := recK_ok shotF_ok _
def entryD (ix tm : Nat) (kd dl : Int) (da : List UInt8) : Data := .agg [.lit (.int .u64 (ix : Int)), .lit (.int .u64 (tm : Int)), .lit (.int .i64 kd), .lit (.int .i64 dl), .lit (.string da)]
def shotD (ix tm : Nat) (vs ls : List Int) (da : List UInt8) : Data := .agg [.lit (.int .u64 (ix : Int)), .lit (.int .u64 (tm : Int)), confD vs ls, .lit (.string da)]
def hardD (tm : Nat) (vo : Int) : Data := .agg [.lit (.int .u64 (tm : Int)), .lit (.int .i64 vo)]
theorem entryF_shape {w : World} {S : Nat → Prop} {vs : List Value} {ds : List Data} (h : RepAll w S entryF vs ds) : ∃ (ix tm : Nat) (kd dl : Int) (A : Option Addr) (c : Nat) (da : List UInt8),
    vs = [.int .u64 (ix : Int), .int .u64 (tm : Int), .int .i64 kd, .int .i64 dl, .slice A da.length c] ∧ ds = [.lit (.int .u64 (ix : Int)), .lit (.int .u64 (tm : Int)), .lit (.int .i64 kd), .lit (.int .i64 dl), .lit (.string da)] ∧
      ix < 18446744073709551616 ∧ tm < 18446744073709551616 ∧ (-9223372036854775808 ≤ kd ∧ kd ≤ 9223372036854775807) ∧ (-9223372036854775808 ≤ dl ∧ dl ≤ 9223372036854775807) ∧ da.length ≤ c ∧ da.length ≤ 140737488355328 ∧ LiesS w S A da := by
  obtain ⟨_, _, _, _, rfl, rfl, ⟨ix, h1, rfl, rfl⟩, _, _, _, _, rfl, rfl, ⟨tm, h2, rfl, rfl⟩, _, _, _, _, rfl, rfl, ⟨kd, k1, k2, rfl, rfl⟩, _, _, _, _, rfl, rfl, ⟨dl, l1, l2, rfl, rfl⟩, _, _, _, _, rfl, rfl, ⟨A, c, da, rfl, rfl, h3, h4, h5⟩, rfl, rfl⟩ := h
  exact ⟨ix, tm, kd, dl, A, c, da, rfl, rfl, h1, h2, ⟨k1, k2⟩, ⟨l1, l2⟩, h3, h4, h5⟩
theorem entry_shape {w : World} {S : Nat → Prop} {vs : List Value} {d : Data} (h : entryK.rep w S vs d) : ∃ (ix tm : Nat) (kd dl : Int) (A : Option Addr) (c : Nat) (da : List UInt8),
    vs = [.int .u64 (ix : Int), .int .u64 (tm : Int), .int .i64 kd, .int .i64 dl, .slice A da.length c] ∧ d = entryD ix tm kd dl da ∧
      ix < 18446744073709551616 ∧ tm < 18446744073709551616 ∧ (-9223372036854775808 ≤ kd ∧ kd ≤ 9223372036854775807) ∧ (-9223372036854775808 ≤ dl ∧ dl ≤ 9223372036854775807) ∧ da.length ≤ c ∧ da.length ≤ 140737488355328 ∧ LiesS w S A da := by
  obtain ⟨_, rfl, hc⟩ := h
  obtain ⟨ix, tm, kd, dl, A, c, da, rfl, rfl, h⟩ := entryF_shape hc
  exact ⟨ix, tm, kd, dl, A, c, da, rfl, rfl, h⟩
/-- An entry, made of its parts. -/
theorem entry_rep {w : World} {S : Nat → Prop} {ix tm : Nat} {kd dl : Int} {A : Option Addr} {c : Nat} {da : List UInt8} (h1 : ix < 18446744073709551616) (h2 : tm < 18446744073709551616) (h3 : -9223372036854775808 ≤ kd ∧ kd ≤ 9223372036854775807) (h4 : -9223372036854775808 ≤ dl ∧ dl ≤ 9223372036854775807)
    (hc : da.length ≤ c) (hm : da.length ≤ 140737488355328) (hl : LiesS w S A da) : entryK.rep w S [.int .u64 (ix : Int), .int .u64 (tm : Int), .int .i64 kd, .int .i64 dl, .slice A da.length c] (entryD ix tm kd dl da) :=
  ⟨_, rfl, _, _, _, _, rfl, rfl, ⟨ix, h1, rfl, rfl⟩, _, _, _, _, rfl, rfl, ⟨tm, h2, rfl, rfl⟩, _, _, _, _, rfl, rfl, ⟨kd, h3.1, h3.2, rfl, rfl⟩, _, _, _, _, rfl, rfl, ⟨dl, h4.1, h4.2, rfl, rfl⟩, _, _, _, _, rfl, rfl, ⟨A, c, da, rfl, rfl, hc, hm, hl⟩, rfl, rfl⟩
theorem confK_shape {w : World} {vs : List Value} {d : Data} (h : confK.rep w (Old w) vs d) : ∃ A c l A2 c2 l2, vs = [.slice A l.length c, .slice A2 l2.length c2] ∧ d = confD l l2 ∧ l.length ≤ c ∧ l.length ≤ 140737488355328 ∧ LiesI w w.heap.size A l ∧
      l2.length ≤ c2 ∧ l2.length ≤ 140737488355328 ∧ LiesI w w.heap.size A2 l2 := by
  obtain ⟨_, rfl, hc⟩ := h
  obtain ⟨A, c, l, A2, c2, l2, rfl, rfl, h⟩ := conf_shape hc
  exact ⟨A, c, l, A2, c2, l2, rfl, rfl, h⟩
theorem shot_shape {w : World} {vs : List Value} {d : Data} (h : shotK.rep w (Old w) vs d) : ∃ (ix tm : Nat) (A : Option Addr) (c : Nat) (l : List Int) (A2 : Option Addr) (c2 : Nat) (l2 : List Int) (A3 : Option Addr) (c3 : Nat) (da : List UInt8), vs = [.int .u64 (ix : Int), .int .u64 (tm : Int), .slice A l.length c, .slice A2 l2.length c2, .slice A3 da.length c3] ∧ d = shotD ix tm l l2 da ∧
      ix < 18446744073709551616 ∧ tm < 18446744073709551616 ∧ l.length ≤ c ∧ l.length ≤ 140737488355328 ∧ LiesI w w.heap.size A l ∧ l2.length ≤ c2 ∧ l2.length ≤ 140737488355328 ∧ LiesI w w.heap.size A2 l2 ∧
      da.length ≤ c3 ∧ da.length ≤ 140737488355328 ∧ Lies w w.heap.size A3 da ∧ confK.rep w (Old w) [.slice A l.length c, .slice A2 l2.length c2] (confD l l2) := by
  obtain ⟨_, rfl, hc⟩ := h
  obtain ⟨_, _, _, _, rfl, rfl, ⟨ix, h1, rfl, rfl⟩, _, _, _, _, rfl, rfl, ⟨tm, h2, rfl, rfl⟩, _, _, _, _, rfl, rfl, hr, _, _, _, _, rfl, rfl, ⟨A3, c3, da, rfl, rfl, h3, h4, h5⟩, rfl, rfl⟩ := hc
  have hr' := hr
  obtain ⟨A, c, l, A2, c2, l2, rfl, rfl, g1, g2, g3, g4, g5, g6⟩ := confK_shape hr
  exact ⟨ix, tm, A, c, l, A2, c2, l2, A3, c3, da, rfl, rfl, h1, h2, g1, g2, g3, g4, g5, g6, h3, h4, h5.lies, hr'⟩
theorem hard_shape {w : World} {S : Nat → Prop} {vs : List Value} {d : Data} (h : hardK.rep w S vs d) : ∃ (tm : Nat) (vo : Int), vs = [.int .u64 (tm : Int), .int .i64 vo] ∧ d = hardD tm vo ∧ tm < 18446744073709551616 := by
  obtain ⟨_, rfl, hc⟩ := h
  obtain ⟨_, _, _, _, rfl, rfl, ⟨tm, h1, rfl, rfl⟩, _, _, _, _, rfl, rfl, ⟨vo, _, _, rfl, rfl⟩, rfl, rfl⟩ := hc
  exact ⟨tm, vo, rfl, rfl, h1⟩
/-- What the reference asks of an entry. -/
def entryB (ix tm : Nat) (kd dl : Int) (da : List UInt8) : Bool := (decide (1 ≤ ix) && decide (ix ≤ 4611686018427387904) && decide (1 ≤ tm) && decide (tm ≤ 4611686018427387904) && decide (0 ≤ dl) && decide (dl ≤ 1099511627776) && decide (da.length ≤ 4096)) &&
  (if kd = 1 then da.isEmpty else if kd = 3 then confReads da else decide (kd = 2))
theorem entry_sound (ix tm : Nat) (kd dl : Int) (da : List UInt8) : entryK.sound (entryD ix tm kd dl da) = entryB ix tm kd dl da := by
  have e : entryK.sound (entryD ix tm kd dl da) = (((decide (1 ≤ (ix : Int)) && decide ((ix : Int) ≤ 4611686018427387904)) && ((decide (1 ≤ (tm : Int)) && decide ((tm : Int) ≤ 4611686018427387904)) && ((decide (1 ≤ kd) && decide (kd ≤ 3)) && ((decide (0 ≤ dl) && decide (dl ≤ 1099511627776)) && (decide ((da.length : Int) ≤ 4096) && true))))) &&
    (if kd = 1 then da.isEmpty else if kd = 3 then confReads da else true)) := rfl
  rw [e, Bool.eq_iff_iff]
  unfold entryB
  generalize da.isEmpty = x
  generalize confReads da = y
  by_cases h1 : kd = 1
  · rw [if_pos h1, if_pos h1]
    simp only [Bool.and_eq_true, decide_eq_true_eq, and_true]
    constructor <;> (intro h; refine ⟨?_, h.2⟩; omega)
  · rw [if_neg h1, if_neg h1]
    by_cases h3 : kd = 3
    · rw [if_pos h3, if_pos h3]
      simp only [Bool.and_eq_true, decide_eq_true_eq, and_true]
      constructor <;> (intro h; refine ⟨?_, h.2⟩; omega)
    · rw [if_neg h3, if_neg h3]
      simp only [Bool.and_eq_true, decide_eq_true_eq, and_true]
      constructor <;> (intro h; omega)
def shotB (ix tm : Nat) (vs ls : List Int) (da : List UInt8) : Bool := confB vs ls && decide (da.length ≤ 32768) && (decide ((ix : Int) = 0) == decide ((tm : Int) = 0)) && decide (ix ≤ 4611686018427387904) && decide (tm ≤ 4611686018427387904)
theorem shot_sound (ix tm : Nat) (vs ls : List Int) (da : List UInt8) : shotK.sound (shotD ix tm vs ls da) = shotB ix tm vs ls da := by
  have e : shotK.sound (shotD ix tm vs ls da) = (((decide (0 ≤ (ix : Int)) && decide ((ix : Int) ≤ 4611686018427387904)) && ((decide (0 ≤ (tm : Int)) && decide ((tm : Int) ≤ 4611686018427387904)) && (confK.sound (confD vs ls) && (decide ((da.length : Int) ≤ 32768) && true)))) &&
    (decide ((ix : Int) = 0) == decide ((tm : Int) = 0))) := rfl
  rw [e, conf_sound, Bool.eq_iff_iff]
  unfold shotB
  generalize confB vs ls = x
  generalize (decide ((ix : Int) = 0) == decide ((tm : Int) = 0)) = y
  simp only [Bool.and_eq_true, decide_eq_true_eq, and_true]
  constructor
  · rintro ⟨⟨⟨_, h1⟩, ⟨_, h2⟩, h3, h4⟩, h5⟩
    exact ⟨⟨⟨⟨h3, by omega⟩, h5⟩, by omega⟩, by omega⟩
  · rintro ⟨⟨⟨⟨h3, h4⟩, h5⟩, h1⟩, h2⟩
    exact ⟨⟨⟨by omega, by omega⟩, ⟨by omega, by omega⟩, h3, by omega⟩, h5⟩
theorem hard_sound {tm : Nat} {vo : Int} (h1 : tm < 18446744073709551616) : hardK.sound (hardD tm vo) = (decide (0 ≤ vo) && decide (vo ≤ 16)) := by
  have e : hardK.sound (hardD tm vo) = (((decide (0 ≤ (tm : Int)) && decide ((tm : Int) ≤ 18446744073709551615)) && ((decide (0 ≤ vo) && decide (vo ≤ 16)) && true)) && true) := rfl
  rw [e, Bool.eq_iff_iff]
  simp only [Bool.and_eq_true, decide_eq_true_eq, and_true]
  omega
theorem entry_put (ix tm : Nat) (kd dl : Int) (da : List UInt8) : entryK.put (entryD ix tm kd dl da) = putEntry ix tm kd dl da := by
  have e : entryK.put (entryD ix tm kd dl da) = putNum ix ++ (putNum tm ++ (putNum (u64N kd) ++ (putNum (u64N dl) ++ (putBytes da ++ [])))) := rfl
  rw [e]
  simp only [putEntry, List.append_assoc, List.append_nil]
theorem ids_put (l : List Int) : idsK.put (.agg (l.map litZ)) = putIds l := by
  have e : idsK.put (.agg (l.map litZ)) = putNum (l.map litZ).length ++ (l.map litZ).flatMap (intK 1 16).put := rfl
  rw [e, List.length_map, List.flatMap_map]
  rfl
theorem conf_put (vs ls : List Int) : confK.put (confD vs ls) = putConf vs ls := by
  have e : confK.put (confD vs ls) = idsK.put (.agg (vs.map litZ)) ++ (idsK.put (.agg (ls.map litZ)) ++ []) := rfl
  rw [e, ids_put, ids_put, List.append_nil]
  rfl
theorem shot_put (ix tm : Nat) (vs ls : List Int) (da : List UInt8) : shotK.put (shotD ix tm vs ls da) = putShot ix tm vs ls da := by
  have e : shotK.put (shotD ix tm vs ls da) = putNum ix ++ (putNum tm ++ (confK.put (confD vs ls) ++ (putBytes da ++ []))) := rfl
  rw [e, conf_put]
  simp only [putShot, List.append_assoc, List.append_nil]
theorem hard_put (tm : Nat) (vo : Int) : hardK.put (hardD tm vo) = putHard tm vo := by
  have e : hardK.put (hardD tm vo) = putNum tm ++ (putNum (u64N vo) ++ []) := rfl
  rw [e]
  simp only [putHard, List.append_nil]
/-- Few bytes: few items. -/
theorem putIds_le (l : List Int) : l.length ≤ (putIds l).length := by
  have h : ∀ l : List Int, l.length ≤ (l.flatMap fun x => putNum (u64N x)).length := by
    intro l
    induction l with
    | nil => simp
    | cons x t ih =>
      simp only [List.flatMap_cons, List.length_append, List.length_cons]
      have : 1 ≤ (putNum (u64N x)).length := by rw [putNum_length]; omega
      omega
  have := h l
  simp only [putIds, List.length_append]
  omega
theorem putConf_le (vs ls : List Int) : vs.length + ls.length ≤ (putConf vs ls).length := by
  have h1 := putIds_le vs
  have h2 := putIds_le ls
  simp only [putConf, List.length_append]
  omega
end Go.Proofs.YtdbaajgkcjpnoaaGreat.Kd
