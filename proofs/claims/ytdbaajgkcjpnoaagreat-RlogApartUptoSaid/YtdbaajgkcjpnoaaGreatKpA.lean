/- Messages: their shape, what is sound, their bytes. No walk. -/
import Derived.Test.YtdbaajgkcjpnoaaGreatGO
import Derived.Test.YtdbaajgkcjpnoaaGreatKhA
namespace Go.Proofs.YtdbaajgkcjpnoaaGreat.Kd
open Go.RowKit By CoP Co Mo

def noConf : Data → Bool
  | .agg [.agg vs, .agg ls] => vs.isEmpty && ls.isEmpty
  | _ => false
/-- What is asked of a Msg's fields together. -/
def msgT : List Data → Bool
  | [.lit (.int _ kd), _, _, _, _, _, _, _, _, _, cf, _, _] => if kd = 7 then confK.sound cf else noConf cf
  | _ => false
def entsK : Kd := listK entryK 8
def msgF : List Kd := [intK 1 9, intK 1 16, intK 1 16, numberK, numberK, numberK, numberK, numberK, flagK, listK entryK 8, looseK confK, intK 0 65536, bytesK 256]
def msgK : Kd := recK msgF msgT
theorem entsK_ok : entsK.Ok := listK_ok entryK_ok 8
theorem msgF_ok : ∀ k ∈ msgF, k.Ok := by
  intro k hk
  simp only [msgF, List.mem_cons, List.not_mem_nil, or_false] at hk
  rcases hk with rfl | rfl | rfl | rfl | rfl | rfl | rfl | rfl | rfl | rfl | rfl | rfl | rfl
  all_goals first | exact intK_ok _ _ | exact numK_ok _ _ | exact flagK_ok | exact entsK_ok | exact looseK_ok confK_ok | exact bytesK_ok _
theorem msgK_ok : msgK.Ok := recK_ok msgF_ok _
def msgD (kd fr tt : Int) (tm ix lt cm rd : Nat) (ok : Bool) (es : List Data) (vs ls : List Int) (fo : Int) (da : List UInt8) : Data :=
  .agg [.lit (.int .i64 kd), .lit (.int .i64 fr), .lit (.int .i64 tt), .lit (.int .u64 (tm : Int)), .lit (.int .u64 (ix : Int)), .lit (.int .u64 (lt : Int)), .lit (.int .u64 (cm : Int)), .lit (.int .u64 (rd : Int)), .lit (.bool ok), .agg es, confD vs ls, .lit (.int .i64 fo), .lit (.string da)]
theorem msgF_shape {w : World} {xs : List Value} {ds : List Data} (h : RepAll w (Old w) msgF xs ds) : ∃ (kd fr tt : Int) (tm ix lt cm rd : Nat) (ok : Bool) (Ae : Option Addr) (ce : Nat) (es : List Data) (A : Option Addr) (c : Nat) (vs : List Int) (A2 : Option Addr) (c2 : Nat) (ls : List Int) (fo : Int) (A3 : Option Addr) (c3 : Nat) (da : List UInt8),
    xs = [.int .i64 kd, .int .i64 fr, .int .i64 tt, .int .u64 (tm : Int), .int .u64 (ix : Int), .int .u64 (lt : Int), .int .u64 (cm : Int), .int .u64 (rd : Int), .bool ok, .slice Ae es.length ce, .slice A vs.length c, .slice A2 ls.length c2, .int .i64 fo, .slice A3 da.length c3] ∧
    ds = [.lit (.int .i64 kd), .lit (.int .i64 fr), .lit (.int .i64 tt), .lit (.int .u64 (tm : Int)), .lit (.int .u64 (ix : Int)), .lit (.int .u64 (lt : Int)), .lit (.int .u64 (cm : Int)), .lit (.int .u64 (rd : Int)), .lit (.bool ok), .agg es, confD vs ls, .lit (.int .i64 fo), .lit (.string da)] ∧
      ((-9223372036854775808 ≤ kd ∧ kd ≤ 9223372036854775807) ∧ (-9223372036854775808 ≤ fr ∧ fr ≤ 9223372036854775807) ∧ (-9223372036854775808 ≤ tt ∧ tt ≤ 9223372036854775807) ∧ (-9223372036854775808 ≤ fo ∧ fo ≤ 9223372036854775807)) ∧
      (tm < 18446744073709551616 ∧ ix < 18446744073709551616 ∧ lt < 18446744073709551616 ∧ cm < 18446744073709551616 ∧ rd < 18446744073709551616) ∧
      (es.length ≤ 140737488355328 ∧ entsK.rep w (Old w) [.slice Ae es.length ce] (.agg es)) ∧
      (vs.length ≤ c ∧ vs.length ≤ 140737488355328 ∧ LiesI w w.heap.size A vs ∧ ls.length ≤ c2 ∧ ls.length ≤ 140737488355328 ∧ LiesI w w.heap.size A2 ls ∧ confK.rep w (Old w) [.slice A vs.length c, .slice A2 ls.length c2] (confD vs ls)) ∧
      (da.length ≤ c3 ∧ da.length ≤ 140737488355328 ∧ Lies w w.heap.size A3 da) := by
  obtain ⟨_, _, _, _, rfl, rfl, ⟨kd, k1, k2, rfl, rfl⟩, _, _, _, _, rfl, rfl, ⟨fr, f1, f2, rfl, rfl⟩, _, _, _, _, rfl, rfl, ⟨tt, t1, t2, rfl, rfl⟩, _, _, _, _, rfl, rfl, ⟨tm, h1, rfl, rfl⟩, _, _, _, _, rfl, rfl, ⟨ix, h2, rfl, rfl⟩, _, _, _, _, rfl, rfl, ⟨lt, h3, rfl, rfl⟩, _, _, _, _, rfl, rfl, ⟨cm, h4, rfl, rfl⟩, _, _, _, _, rfl, rfl, ⟨rd, h5, rfl, rfl⟩, _, _, _, _, rfl, rfl, ⟨ok, rfl, rfl⟩, _, _, _, _, rfl, rfl, he, _, _, _, _, rfl, rfl, hr, _, _, _, _, rfl, rfl, ⟨fo, o1, o2, rfl, rfl⟩, _, _, _, _, rfl, rfl, ⟨A3, c3, da, rfl, rfl, g3, g4, g5⟩, rfl, rfl⟩ := h
  have hr' : confK.rep w (Old w) _ _ := hr
  obtain ⟨A, c, vs, A2, c2, ls, rfl, rfl, a1, a2, a3, a4, a5, a6⟩ := confK_shape hr'
  have he' : entsK.rep w (Old w) _ _ := he
  obtain ⟨Ae, ce, es, rfl, rfl, e1, e2, e3⟩ := he
  exact ⟨kd, fr, tt, tm, ix, lt, cm, rd, ok, Ae, ce, es, A, c, vs, A2, c2, ls, fo, A3, c3, da, rfl, rfl, ⟨⟨k1, k2⟩, ⟨f1, f2⟩, ⟨t1, t2⟩, ⟨o1, o2⟩⟩, ⟨h1, h2, h3, h4, h5⟩, ⟨e2, he'⟩, ⟨a1, a2, a3, a4, a5, a6, hr'⟩, ⟨g3, g4, g5.lies⟩⟩
theorem msg_shape {w : World} {xs : List Value} {d : Data} (h : msgK.rep w (Old w) xs d) : ∃ (kd fr tt : Int) (tm ix lt cm rd : Nat) (ok : Bool) (Ae : Option Addr) (ce : Nat) (es : List Data) (A : Option Addr) (c : Nat) (vs : List Int) (A2 : Option Addr) (c2 : Nat) (ls : List Int) (fo : Int) (A3 : Option Addr) (c3 : Nat) (da : List UInt8),
    xs = [.int .i64 kd, .int .i64 fr, .int .i64 tt, .int .u64 (tm : Int), .int .u64 (ix : Int), .int .u64 (lt : Int), .int .u64 (cm : Int), .int .u64 (rd : Int), .bool ok, .slice Ae es.length ce, .slice A vs.length c, .slice A2 ls.length c2, .int .i64 fo, .slice A3 da.length c3] ∧
    d = msgD kd fr tt tm ix lt cm rd ok es vs ls fo da ∧
      ((-9223372036854775808 ≤ kd ∧ kd ≤ 9223372036854775807) ∧ (-9223372036854775808 ≤ fr ∧ fr ≤ 9223372036854775807) ∧ (-9223372036854775808 ≤ tt ∧ tt ≤ 9223372036854775807) ∧ (-9223372036854775808 ≤ fo ∧ fo ≤ 9223372036854775807)) ∧
      (tm < 18446744073709551616 ∧ ix < 18446744073709551616 ∧ lt < 18446744073709551616 ∧ cm < 18446744073709551616 ∧ rd < 18446744073709551616) ∧
      (es.length ≤ 140737488355328 ∧ entsK.rep w (Old w) [.slice Ae es.length ce] (.agg es)) ∧
      (vs.length ≤ c ∧ vs.length ≤ 140737488355328 ∧ LiesI w w.heap.size A vs ∧ ls.length ≤ c2 ∧ ls.length ≤ 140737488355328 ∧ LiesI w w.heap.size A2 ls ∧ confK.rep w (Old w) [.slice A vs.length c, .slice A2 ls.length c2] (confD vs ls)) ∧
      (da.length ≤ c3 ∧ da.length ≤ 140737488355328 ∧ Lies w w.heap.size A3 da) := by
  obtain ⟨_, rfl, hc⟩ := h
  obtain ⟨kd, fr, tt, tm, ix, lt, cm, rd, ok, Ae, ce, es, A, c, vs, A2, c2, ls, fo, A3, c3, da, rfl, rfl, h⟩ := msgF_shape hc
  exact ⟨kd, fr, tt, tm, ix, lt, cm, rd, ok, Ae, ce, es, A, c, vs, A2, c2, ls, fo, A3, c3, da, rfl, rfl, h⟩
/-- What the reference asks first. -/
def msgB0 (kd fr tt fo : Int) (n m : Nat) : Bool := decide (1 ≤ kd) && decide (kd ≤ 9) && decide (1 ≤ fr) && decide (fr ≤ 16) && decide (1 ≤ tt) && decide (tt ≤ 16) && decide (0 ≤ fo) && decide (fo ≤ 65536) && decide (n ≤ 256) && decide (m ≤ 8)
def msgB1 (kd : Int) (vs ls : List Int) : Bool := if kd = 7 then confB vs ls else (vs.isEmpty && ls.isEmpty)
def msgB (kd fr tt : Int) (es : List Data) (vs ls : List Int) (fo : Int) (da : List UInt8) : Bool := msgB0 kd fr tt fo da.length es.length && msgB1 kd vs ls && es.all entryK.sound
theorem noConf_eq (vs ls : List Int) : noConf (confD vs ls) = (vs.isEmpty && ls.isEmpty) := by
  cases vs <;> cases ls <;> rfl
theorem msg_sound {kd fr tt : Int} {tm ix lt cm rd : Nat} {ok : Bool} {es : List Data} {vs ls : List Int} {fo : Int} {da : List UInt8} (h : tm < 18446744073709551616 ∧ ix < 18446744073709551616 ∧ lt < 18446744073709551616 ∧ cm < 18446744073709551616 ∧ rd < 18446744073709551616) :
    msgK.sound (msgD kd fr tt tm ix lt cm rd ok es vs ls fo da) = msgB kd fr tt es vs ls fo da := by
  have e : msgK.sound (msgD kd fr tt tm ix lt cm rd ok es vs ls fo da) = (((decide (1 ≤ kd) && decide (kd ≤ 9)) && ((decide (1 ≤ fr) && decide (fr ≤ 16)) && ((decide (1 ≤ tt) && decide (tt ≤ 16)) &&
      ((decide (0 ≤ (tm : Int)) && decide ((tm : Int) ≤ 18446744073709551615)) && ((decide (0 ≤ (ix : Int)) && decide ((ix : Int) ≤ 18446744073709551615)) && ((decide (0 ≤ (lt : Int)) && decide ((lt : Int) ≤ 18446744073709551615)) && ((decide (0 ≤ (cm : Int)) && decide ((cm : Int) ≤ 18446744073709551615)) && ((decide (0 ≤ (rd : Int)) && decide ((rd : Int) ≤ 18446744073709551615)) &&
      (true && ((decide ((es.length : Int) ≤ 8) && es.all entryK.sound) && (true && ((decide (0 ≤ fo) && decide (fo ≤ 65536)) && (decide ((da.length : Int) ≤ 256) && true))))))))))))) &&
    (if kd = 7 then confK.sound (confD vs ls) else noConf (confD vs ls))) := rfl
  rw [e, conf_sound, noConf_eq, Bool.eq_iff_iff]
  unfold msgB msgB0 msgB1
  generalize es.all entryK.sound = x
  generalize (if kd = 7 then confB vs ls else (vs.isEmpty && ls.isEmpty)) = y
  cases x <;> cases y <;> simp only [Bool.and_eq_true, decide_eq_true_eq, and_true, true_and, Bool.false_eq_true, and_false, false_and] <;> omega
theorem msg_put {kd fr tt : Int} {tm ix lt cm rd : Nat} {ok : Bool} {es : List Data} {vs ls : List Int} {fo : Int} {da : List UInt8} :
    msgK.put (msgD kd fr tt tm ix lt cm rd ok es vs ls fo da) = putNum (u64N kd) ++ putNum (u64N fr) ++ putNum (u64N tt) ++ putNum tm ++ putNum ix ++ putNum lt ++ putNum cm ++ putNum rd ++ putNum (flagN ok) ++ (putNum es.length ++ es.flatMap entryK.put) ++ putConf vs ls ++ putNum (u64N fo) ++ putBytes da := by
  have e : msgK.put (msgD kd fr tt tm ix lt cm rd ok es vs ls fo da) = putNum (u64N kd) ++ (putNum (u64N fr) ++ (putNum (u64N tt) ++ (putNum tm ++ (putNum ix ++ (putNum lt ++ (putNum cm ++ (putNum rd ++ (putNum (flagN ok) ++ ((putNum es.length ++ es.flatMap entryK.put) ++ (confK.put (confD vs ls) ++ (putNum (u64N fo) ++ (putBytes da ++ [])))))))))))) := rfl
  rw [e, conf_put]
  simp only [List.append_assoc, List.append_nil]
theorem flat_le {f : Data → List UInt8} : ∀ {es : List Data} (_ : ∀ d ∈ es, 1 ≤ (f d).length), es.length ≤ (es.flatMap f).length := by
  intro es
  induction es with
  | nil => intro _; simp
  | cons d t ih =>
    intro h1
    have := h1 d List.mem_cons_self
    have := ih (fun x hx => h1 x (List.mem_cons_of_mem _ hx))
    simp only [List.flatMap_cons, List.length_append, List.length_cons]
    omega
theorem ents_le {w : World} {S : Nat → Prop} {v : Value} {es : List Data} (h : entsK.rep w S [v] (.agg es)) : es.length ≤ (es.flatMap entryK.put).length := by
  obtain ⟨A, c, ds, _, e, _, _, hl⟩ := h
  obtain rfl := Data.agg.inj e
  have h1 : ∀ d ∈ es, 1 ≤ (entryK.put d).length := by
    intro d hd
    obtain ⟨j, hj, rfl⟩ := List.mem_iff_getElem.1 hd
    obtain ⟨g, o, _, _, hc⟩ := hl (by omega)
    obtain ⟨us, hr, _⟩ := hc j es[j] (List.getElem?_eq_getElem hj)
    obtain ⟨ix, tm, kd, dl, A, c, da, _, e2, _⟩ := entry_shape hr
    rw [e2, entry_put]
    simp only [putEntry, List.length_append, putNum_length]
    omega
  exact flat_le h1
end Go.Proofs.YtdbaajgkcjpnoaaGreat.Kd
