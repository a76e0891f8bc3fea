/- Commands, replies, asks, what edges are told: their shapes, what is sound, their bytes. No walk. | Package scupperref03's CommandOK, ReplyOK, AskOK, ToldOK, as contracts of calls. | Package scupperref03's AskOK and ToldOK, as contracts of calls. | Package scupperref03's AskOK where a command is asked, and ToldOK, as contracts of calls. | Package scupperref03 at commands, replies, asks, what edges are told: it says what is sound of that kind, and gives that kind's bytes; fits over what was given. -/
import Derived.Test.YtlgbipmmpocepaaGreatGL
import Derived.Test.YtlgbipmmpocepaaGreatMoF
import Derived.Test.YtlgbipmmpocepaaGreatKhE
import Derived.Deep.RegionLaw
import Derived.Test.YtlgbipmmpocepaaGreatGN
import Derived.Test.YtlgbipmmpocepaaGreatGK
/-! Commands, replies, asks, what edges are told: their shapes, what is sound, their bytes. No walk. -/
namespace Go.Proofs.YtlgbipmmpocepaaGreat.Kd
open Go.RowKit By CoP Co Mo

def cmdD (se sq : Nat) (op : Int) (ke : List UInt8) (am sp : Int) (le : Nat) : Data := .agg [.lit (.int .u64 (se : Int)), .lit (.int .u64 (sq : Int)), .lit (.int .i64 op), .lit (.string ke), .lit (.int .i64 am), .lit (.int .i64 sp), .lit (.int .u64 (le : Int))]
def repD (se sq : Nat) (er : Int) (lz : Nat) (am un : Int) : Data := .agg [.lit (.int .u64 (se : Int)), .lit (.int .u64 (sq : Int)), .lit (.int .i64 er), .lit (.int .u64 (lz : Int)), .lit (.int .i64 am), .lit (.int .i64 un)]
def askD (lk ly : Bool) (aq se sq : Nat) (op : Int) (ke : List UInt8) (am sp : Int) (le : Nat) (ak : List UInt8) : Data := .agg [.lit (.bool lk), .lit (.bool ly), .lit (.int .u64 (aq : Int)), cmdD se sq op ke am sp le, .lit (.string ak)]
def toldD (tq : Nat) (rt : Bool) (ld : Int) (se sq : Nat) (er : Int) (lz : Nat) (am un cp ln : Int) : Data := .agg [.lit (.int .u64 (tq : Int)), .lit (.bool rt), .lit (.int .i64 ld), repD se sq er lz am un, .lit (.int .i64 cp), .lit (.int .i64 ln)]
def U64 (n : Nat) : Prop := n < 18446744073709551616
def I64 (z : Int) : Prop := -9223372036854775808 ≤ z ∧ z ≤ 9223372036854775807

theorem command_shape {w : World} {S : Nat → Prop} {vs : List Value} {d : Data} (h : commandK.rep w S vs d) : ∃ (se sq : Nat) (op : Int) (ke : List UInt8) (am sp : Int) (le : Nat),
    vs = [.int .u64 (se : Int), .int .u64 (sq : Int), .int .i64 op, .string (str ke), .int .i64 am, .int .i64 sp, .int .u64 (le : Int)] ∧ d = cmdD se sq op ke am sp le ∧ U64 se ∧ U64 sq ∧ I64 op ∧ I64 am ∧ I64 sp ∧ U64 le ∧ ke.length ≤ 140737488355328 := by
  obtain ⟨_, rfl, hc⟩ := h
  obtain ⟨_, _, _, _, rfl, rfl, ⟨se, h2, rfl, rfl⟩, _, _, _, _, rfl, rfl, ⟨sq, h3, rfl, rfl⟩, _, _, _, _, rfl, rfl, ⟨op, h4, h4b, rfl, rfl⟩, _, _, _, _, rfl, rfl, ⟨ke, rfl, rfl, h5⟩, _, _, _, _, rfl, rfl, ⟨am, h6, h6b, rfl, rfl⟩, _, _, _, _, rfl, rfl, ⟨sp, h7, h7b, rfl, rfl⟩, _, _, _, _, rfl, rfl, ⟨le, h8, rfl, rfl⟩, rfl, rfl⟩ := hc
  exact ⟨se, sq, op, ke, am, sp, le, rfl, rfl, h2, h3, ⟨h4, h4b⟩, ⟨h6, h6b⟩, ⟨h7, h7b⟩, h8, h5⟩
theorem reply_shape {w : World} {S : Nat → Prop} {vs : List Value} {d : Data} (h : replyK.rep w S vs d) : ∃ (se sq : Nat) (er : Int) (lz : Nat) (am un : Int),
    vs = [.int .u64 (se : Int), .int .u64 (sq : Int), .int .i64 er, .int .u64 (lz : Int), .int .i64 am, .int .i64 un] ∧ d = repD se sq er lz am un ∧ U64 se ∧ U64 sq ∧ I64 er ∧ U64 lz ∧ I64 am ∧ I64 un := by
  obtain ⟨_, rfl, hc⟩ := h
  obtain ⟨_, _, _, _, rfl, rfl, ⟨se, h2, rfl, rfl⟩, _, _, _, _, rfl, rfl, ⟨sq, h3, rfl, rfl⟩, _, _, _, _, rfl, rfl, ⟨er, h4, h4b, rfl, rfl⟩, _, _, _, _, rfl, rfl, ⟨lz, h5, rfl, rfl⟩, _, _, _, _, rfl, rfl, ⟨am, h6, h6b, rfl, rfl⟩, _, _, _, _, rfl, rfl, ⟨un, h7, h7b, rfl, rfl⟩, rfl, rfl⟩ := hc
  exact ⟨se, sq, er, lz, am, un, rfl, rfl, h2, h3, ⟨h4, h4b⟩, h5, ⟨h6, h6b⟩, ⟨h7, h7b⟩⟩
theorem askK_shape {w : World} {S : Nat → Prop} {vs : List Value} {d : Data} (h : askK.rep w S vs d) : ∃ (lk ly : Bool) (aq se sq : Nat) (op : Int) (ke : List UInt8) (am sp : Int) (le : Nat) (ak : List UInt8),
    vs = [.bool lk, .bool ly, .int .u64 (aq : Int), .int .u64 (se : Int), .int .u64 (sq : Int), .int .i64 op, .string (str ke), .int .i64 am, .int .i64 sp, .int .u64 (le : Int), .string (str ak)] ∧
    d = askD lk ly aq se sq op ke am sp le ak ∧ U64 aq ∧ U64 se ∧ U64 sq ∧ I64 op ∧ I64 am ∧ I64 sp ∧ U64 le ∧ ke.length ≤ 140737488355328 ∧ ak.length ≤ 140737488355328 := by
  obtain ⟨_, rfl, hc⟩ := h
  obtain ⟨lk, ly, aq, se, sq, op, ke, am, sp, le, ak, rfl, rfl, ⟨h1, h2, h3, h8⟩, h4, h5, h6, h7, h9⟩ := ask_shape hc
  exact ⟨lk, ly, aq, se, sq, op, ke, am, sp, le, ak, rfl, rfl, h1, h2, h3, h4, h5, h6, h8, h7, h9⟩
theorem told_shape {w : World} {S : Nat → Prop} {vs : List Value} {d : Data} (h : toldK.rep w S vs d) : ∃ (tq : Nat) (rt : Bool) (ld : Int) (se sq : Nat) (er : Int) (lz : Nat) (am un cp ln : Int),
    vs = [.int .u64 (tq : Int), .bool rt, .int .i64 ld, .int .u64 (se : Int), .int .u64 (sq : Int), .int .i64 er, .int .u64 (lz : Int), .int .i64 am, .int .i64 un, .int .i64 cp, .int .i64 ln] ∧
    d = toldD tq rt ld se sq er lz am un cp ln ∧ U64 tq ∧ I64 ld ∧ U64 se ∧ U64 sq ∧ I64 er ∧ U64 lz ∧ I64 am ∧ I64 un ∧ I64 cp ∧ I64 ln := by
  obtain ⟨_, rfl, hc⟩ := h
  obtain ⟨_, _, _, _, rfl, rfl, ⟨tq, h1, rfl, rfl⟩, _, _, _, _, rfl, rfl, ⟨rt, rfl, rfl⟩, _, _, _, _, rfl, rfl, ⟨ld, h2, h2b, rfl, rfl⟩, _, _, _, _, rfl, rfl, hr, _, _, _, _, rfl, rfl, ⟨cp, h3, h3b, rfl, rfl⟩, _, _, _, _, rfl, rfl, ⟨ln, h4, h4b, rfl, rfl⟩, rfl, rfl⟩ := hc
  obtain ⟨se, sq, er, lz, am, un, rfl, rfl, k1, k2, k3, k4, k5, k6⟩ := reply_shape hr
  exact ⟨tq, rt, ld, se, sq, er, lz, am, un, cp, ln, rfl, rfl, h1, ⟨h2, h2b⟩, k1, k2, k3, k4, k5, k6, ⟨h3, h3b⟩, ⟨h4, h4b⟩⟩

theorem number_sound {n : Nat} (h : U64 n) : numberK.sound (.lit (.int .u64 (n : Int))) = true := by
  simp only [numberK, numK, Bool.and_eq_true, decide_eq_true_eq]
  unfold U64 at h
  omega
theorem signed_sound {z : Int} (h : I64 z) : signedK.sound (.lit (.int .i64 z)) = true := by
  simp only [signedK, intK, Bool.and_eq_true, decide_eq_true_eq]
  exact h
theorem cmd_sound {se sq : Nat} {op : Int} {ke : List UInt8} {am sp : Int} {le : Nat} (h1 : U64 se) (h2 : U64 sq) (h3 : I64 am) (h4 : I64 sp) (h5 : U64 le) :
    commandK.sound (cmdD se sq op ke am sp le) = (decide (1 ≤ op) && decide (op ≤ 5) && decide ((ke.length : Int) ≤ 64)) := by
  have e : commandK.sound (cmdD se sq op ke am sp le) = ((numberK.sound (.lit (.int .u64 (se : Int))) && (numberK.sound (.lit (.int .u64 (sq : Int))) && ((decide (1 ≤ op) && decide (op ≤ 5)) && (decide ((ke.length : Int) ≤ 64) && (signedK.sound (.lit (.int .i64 am)) && (signedK.sound (.lit (.int .i64 sp)) && (numberK.sound (.lit (.int .u64 (le : Int))) && true))))))) && true) := rfl
  rw [e, number_sound h1, number_sound h2, signed_sound h3, signed_sound h4, number_sound h5]
  simp
theorem rep_sound {se sq : Nat} {er : Int} {lz : Nat} {am un : Int} (h1 : U64 se) (h2 : U64 sq) (h3 : U64 lz) (h4 : I64 am) (h5 : I64 un) :
    replyK.sound (repD se sq er lz am un) = (decide (0 ≤ er) && decide (er ≤ 20)) := by
  have e : replyK.sound (repD se sq er lz am un) = ((numberK.sound (.lit (.int .u64 (se : Int))) && (numberK.sound (.lit (.int .u64 (sq : Int))) && ((decide (0 ≤ er) && decide (er ≤ 20)) && (numberK.sound (.lit (.int .u64 (lz : Int))) && (signedK.sound (.lit (.int .i64 am)) && (signedK.sound (.lit (.int .i64 un)) && true)))))) && true) := rfl
  rw [e, number_sound h1, number_sound h2, number_sound h3, signed_sound h4, signed_sound h5]
  simp
theorem ask_sound {lk ly : Bool} {aq se sq : Nat} {op : Int} {ke : List UInt8} {am sp : Int} {le : Nat} {ak : List UInt8} (h1 : U64 aq) :
    askK.sound (askD lk ly aq se sq op ke am sp le ak) = (decide ((ak.length : Int) ≤ 64) && (if lk then isNoCommand (cmdD se sq op ke am sp le) else (commandK.sound (cmdD se sq op ke am sp le) && ak.isEmpty && !ly))) := by
  have e : askK.sound (askD lk ly aq se sq op ke am sp le ak) = ((true && (true && (numberK.sound (.lit (.int .u64 (aq : Int))) && (true && (decide ((ak.length : Int) ≤ 64) && true))))) && (if lk then isNoCommand (cmdD se sq op ke am sp le) else (commandK.sound (cmdD se sq op ke am sp le) && ak.isEmpty && !ly))) := rfl
  rw [e, number_sound h1]
  simp
theorem told_sound {tq : Nat} {rt : Bool} {ld : Int} {se sq : Nat} {er : Int} {lz : Nat} {am un cp ln : Int} (h1 : U64 tq) (h2 : I64 cp) (h3 : I64 ln) :
    toldK.sound (toldD tq rt ld se sq er lz am un cp ln) = ((decide (0 ≤ ld) && decide (ld ≤ 16)) && replyK.sound (repD se sq er lz am un)) := by
  have e : toldK.sound (toldD tq rt ld se sq er lz am un cp ln) = ((numberK.sound (.lit (.int .u64 (tq : Int))) && (true && ((decide (0 ≤ ld) && decide (ld ≤ 16)) && (replyK.sound (repD se sq er lz am un) && (signedK.sound (.lit (.int .i64 cp)) && (signedK.sound (.lit (.int .i64 ln)) && true)))))) && true) := rfl
  rw [e, number_sound h1, signed_sound h2, signed_sound h3]
  simp
theorem cmd_put (se sq : Nat) (op : Int) (ke : List UInt8) (am sp : Int) (le : Nat) : commandK.put (cmdD se sq op ke am sp le) = putCommand se sq op ke am sp le := by
  have e : commandK.put (cmdD se sq op ke am sp le) = putNum se ++ (putNum sq ++ (putNum (u64N op) ++ (putBytes ke ++ (putNum (u64N am) ++ (putNum (u64N sp) ++ (putNum le ++ [])))))) := rfl
  rw [e]
  simp only [putCommand, List.append_assoc, List.append_nil]
theorem rep_put (se sq : Nat) (er : Int) (lz : Nat) (am un : Int) : replyK.put (repD se sq er lz am un) = putReply se sq er lz am un := by
  have e : replyK.put (repD se sq er lz am un) = putNum se ++ (putNum sq ++ (putNum (u64N er) ++ (putNum lz ++ (putNum (u64N am) ++ (putNum (u64N un) ++ []))))) := rfl
  rw [e]
  simp only [putReply, List.append_assoc, List.append_nil]
theorem ask_put (lk ly : Bool) (aq se sq : Nat) (op : Int) (ke : List UInt8) (am sp : Int) (le : Nat) (ak : List UInt8) : askK.put (askD lk ly aq se sq op ke am sp le ak) = putAsk lk ly aq se sq op ke am sp le ak := by
  have e : askK.put (askD lk ly aq se sq op ke am sp le ak) = putNum (flagN lk) ++ (putNum (flagN ly) ++ (putNum aq ++ (commandK.put (cmdD se sq op ke am sp le) ++ (putBytes ak ++ [])))) := rfl
  rw [e, cmd_put]
  simp only [putAsk, List.append_assoc, List.append_nil]
theorem told_put (tq : Nat) (rt : Bool) (ld : Int) (se sq : Nat) (er : Int) (lz : Nat) (am un cp ln : Int) : toldK.put (toldD tq rt ld se sq er lz am un cp ln) = putTold tq rt ld se sq er lz am un cp ln := by
  have e : toldK.put (toldD tq rt ld se sq er lz am un cp ln) = putNum tq ++ (putNum (flagN rt) ++ (putNum (u64N ld) ++ (replyK.put (repD se sq er lz am un) ++ (putNum (u64N cp) ++ (putNum (u64N ln) ++ []))))) := rfl
  rw [e, rep_put]
  simp only [putTold, List.append_assoc, List.append_nil]
end Go.Proofs.YtlgbipmmpocepaaGreat.Kd

/-! Package scupperref03's CommandOK, ReplyOK, AskOK, ToldOK, as contracts of calls. -/
namespace Go.Proofs.YtlgbipmmpocepaaGreat.Kd
open Go.RowKit By CoP Co Mo

theorem below_box (w : World) (o : Obj) : Below w.heap.size w (w.alloc o) := (Below.refl _ _).alloc (Nat.le_refl _) _
set_option maxHeartbeats 1000000 in
theorem commandOK_any (w : World) (se sq : Nat) (op : Int) (ke : List UInt8) (am sp : Int) (le : Nat) :
    Calls Tryz.prog 32 #[.agg #[.int .u64 (se : Int), .int .u64 (sq : Int), .int .i64 op, .string (str ke), .int .i64 am, .int .i64 sp, .int .u64 (le : Int)]] w (Says (decide (1 ≤ op) && decide (op ≤ 5) && decide ((ke.length : Int) ≤ 64)) w) := by
  have hsz := str_size ke
  by_cases h1 : 1 ≤ op
  · by_cases h2 : op ≤ 5
    · by_cases h3 : (ke.length : Int) ≤ 64
      all_goals
        rw [decide_eq_true h1, decide_eq_true h2]
        first | rw [decide_eq_true h3] | rw [decide_eq_false h3]
        go_enter Tryz.func32, Tryz.ntmps32
        go_wp2
        go_ret
        refine ⟨by simp_all, below_box _ _⟩
    · rw [decide_eq_true h1, decide_eq_false h2]
      have h2' : 5 < op := by omega
      go_enter Tryz.func32, Tryz.ntmps32
      go_wp2
      go_ret
      refine ⟨by simp_all, below_box _ _⟩
  · rw [decide_eq_false h1]
    have h1' : op < 1 := by omega
    go_enter Tryz.func32, Tryz.ntmps32
    go_wp2
    go_ret
    refine ⟨by simp_all, below_box _ _⟩
set_option maxHeartbeats 1000000 in
theorem replyOK_any (w : World) (se sq : Nat) (er : Int) (lz : Nat) (am un : Int) :
    Calls Tryz.prog 36 #[.agg #[.int .u64 (se : Int), .int .u64 (sq : Int), .int .i64 er, .int .u64 (lz : Int), .int .i64 am, .int .i64 un]] w (Says (decide (0 ≤ er) && decide (er ≤ 20)) w) := by
  by_cases h1 : 0 ≤ er
  · by_cases h2 : er ≤ 20
    all_goals
      rw [decide_eq_true h1]
      first | rw [decide_eq_true h2] | rw [decide_eq_false h2]
      go_enter Tryz.func36, Tryz.ntmps36
      go_wp2
      go_ret
      refine ⟨by simp_all, below_box _ _⟩
  · rw [decide_eq_false h1]
    have h1' : er < 0 := by omega
    go_enter Tryz.func36, Tryz.ntmps36
    go_wp2
    go_ret
    refine ⟨by simp_all, below_box _ _⟩
end Go.Proofs.YtlgbipmmpocepaaGreat.Kd

/-! Package scupperref03's AskOK and ToldOK, as contracts of calls. -/
namespace Go.Proofs.YtlgbipmmpocepaaGreat.Kd
open Go.RowKit By CoP Co Mo

set_option maxHeartbeats 1000000 in
theorem askOK_look (w : World) (ly : Bool) (aq se sq : Nat) (op : Int) (ke : List UInt8) (am sp : Int) (le : Nat) (ak : List UInt8) :
    Calls Tryz.prog 39 #[.agg #[.bool true, .bool ly, .int .u64 (aq : Int), .int .u64 (se : Int), .int .u64 (sq : Int), .int .i64 op, .string (str ke), .int .i64 am, .int .i64 sp, .int .u64 (le : Int), .string (str ak)]] w (Says (decide ((ak.length : Int) ≤ 64) && isNoCommand (cmdD se sq op ke am sp le)) w) := by
  have hsz := str_size ak
  cases hq : isNoCommand (cmdD se sq op ke am sp le) with
  | true =>
    simp only [cmdD, isNoCommand, Bool.and_eq_true, decide_eq_true_eq] at hq
    obtain ⟨⟨⟨⟨⟨⟨q1, q2⟩, q3⟩, q4⟩, q5⟩, q6⟩, q7⟩ := hq
    have q4' : ke = [] := by simpa using q4
    subst q4'
    rw [q1, q2, q3, q5, q6, q7]
    clear q1 q2 q3 q4 q5 q6 q7
    have hnil : (str []).toList = [] := (str_nil []).2 rfl
    by_cases h3 : (ak.length : Int) ≤ 64
    all_goals
      first | rw [decide_eq_true h3] | rw [decide_eq_false h3]
      go_enter Tryz.func39, Tryz.ntmps39
      go_wp2
      go_ret
      refine ⟨by simp_all, below_box _ _⟩
  | false =>
    rw [Bool.and_false]
    simp only [cmdD, isNoCommand] at hq
    have hne := str_nil ke
    go_enter Tryz.func39, Tryz.ntmps39
    go_wp2
    all_goals
      go_ret
      refine ⟨by simp_all, below_box _ _⟩
end Go.Proofs.YtlgbipmmpocepaaGreat.Kd

/-! Package scupperref03's AskOK where a command is asked, and ToldOK, as contracts of calls. -/
namespace Go.Proofs.YtlgbipmmpocepaaGreat.Kd
open Go.RowKit By CoP Co Mo

set_option maxHeartbeats 1000000 in
theorem askOK_call (w : World) (ly : Bool) (aq se sq : Nat) (op : Int) (ke : List UInt8) (am sp : Int) (le : Nat) (ak : List UInt8) :
    Calls Tryz.prog 39 #[.agg #[.bool false, .bool ly, .int .u64 (aq : Int), .int .u64 (se : Int), .int .u64 (sq : Int), .int .i64 op, .string (str ke), .int .i64 am, .int .i64 sp, .int .u64 (le : Int), .string (str ak)]] w (Says ((decide (1 ≤ op) && decide (op ≤ 5) && decide ((ke.length : Int) ≤ 64)) && ak.isEmpty && !ly) w) := by
  obtain ⟨sb, hsb⟩ : ∃ sb, (decide (1 ≤ op) && decide (op ≤ 5) && decide ((ke.length : Int) ≤ 64)) = sb := ⟨_, rfl⟩
  rw [hsb]
  have HSB := Lib.hid hsb
  have HROW := Lib.hid (show (w.alloc (.cells #[.bool false, .bool ly, .int .u64 (aq : Int), .int .u64 (se : Int), .int .u64 (sq : Int), .int .i64 op, .string (str ke), .int .i64 am, .int .i64 sp, .int .u64 (le : Int), .string (str ak)] 48)).heap[w.heap.size]? = some (.cells #[.bool false, .bool ly, .int .u64 (aq : Int), .int .u64 (se : Int), .int .u64 (sq : Int), .int .i64 op, .string (str ke), .int .i64 am, .int .i64 sp, .int .u64 (le : Int), .string (str ak)] 48 (0, 0)) from heap_alloc_new w (.cells #[.bool false, .bool ly, .int .u64 (aq : Int), .int .u64 (se : Int), .int .u64 (sq : Int), .int .i64 op, .string (str ke), .int .i64 am, .int .i64 sp, .int .u64 (le : Int), .string (str ak)] 48))
  have HB0 := Lib.hid (below_box w (.cells #[.bool false, .bool ly, .int .u64 (aq : Int), .int .u64 (se : Int), .int .u64 (sq : Int), .int .i64 op, .string (str ke), .int .i64 am, .int .i64 sp, .int .u64 (le : Int), .string (str ak)] 48))
  clear hsb
  cases sb with
  | false =>
    show Calls _ _ _ _ (Says false w)
    go_enter Tryz.func39, Tryz.ntmps39
    go_wp2_with fail
    refine (commandOK_any _ se sq op ke am sp le).mono ?_
    rintro e w1 ⟨he, hb⟩
    rw [HSB.out] at he
    subst he
    have HB := Lib.hid (ext HB0.out hb)
    have hrow1 := (hb.block w.heap.size (row_lt HROW.out)).trans HROW.out
    have c10 : w1.cell? ⟨w.heap.size, 10, none⟩ = some (.string (str ak)) := by rw [cell_of_row w1 _ 10 _ _ _ hrow1]; rfl
    have c1 : w1.cell? ⟨w.heap.size, 1, none⟩ = some (.bool ly) := by rw [cell_of_row w1 _ 1 _ _ _ hrow1]; rfl
    clear hrow1 hb
    go_wp2
    all_goals
      go_ret
      exact ⟨rfl, HB.out⟩
  | true =>
    obtain ⟨bb, hbb⟩ : ∃ bb, ak.isEmpty = bb := ⟨_, rfl⟩
    show Calls _ _ _ _ (Says (ak.isEmpty && !ly) w)
    rw [hbb]
    have hne : decide ((str ak).toList = []) = bb := by
      rw [← hbb, decide_eq_decide.2 (str_nil ak)]
      cases ak <;> rfl
    cases bb with
    | false =>
      have hne2 : ¬ (str ak).toList = [] := by simpa using hne
      clear hbb hne
      show Calls _ _ _ _ (Says false w)
      go_enter Tryz.func39, Tryz.ntmps39
      go_wp2_with fail
      refine (commandOK_any _ se sq op ke am sp le).mono ?_
      rintro e w1 ⟨he, hb⟩
      rw [HSB.out] at he
      subst he
      have HB := Lib.hid (ext HB0.out hb)
      have hrow1 := (hb.block w.heap.size (row_lt HROW.out)).trans HROW.out
      have c10 : w1.cell? ⟨w.heap.size, 10, none⟩ = some (.string (str ak)) := by rw [cell_of_row w1 _ 10 _ _ _ hrow1]; rfl
      have c1 : w1.cell? ⟨w.heap.size, 1, none⟩ = some (.bool ly) := by rw [cell_of_row w1 _ 1 _ _ _ hrow1]; rfl
      clear hrow1 hb
      go_wp2
      all_goals
        go_ret
        exact ⟨rfl, HB.out⟩
    | true =>
      have hne2 : (str ak).toList = [] := by simpa using hne
      clear hbb hne
      show Calls _ _ _ _ (Says (!ly) w)
      go_enter Tryz.func39, Tryz.ntmps39
      go_wp2_with fail
      refine (commandOK_any _ se sq op ke am sp le).mono ?_
      rintro e w1 ⟨he, hb⟩
      rw [HSB.out] at he
      subst he
      have HB := Lib.hid (ext HB0.out hb)
      have hrow1 := (hb.block w.heap.size (row_lt HROW.out)).trans HROW.out
      have c10 : w1.cell? ⟨w.heap.size, 10, none⟩ = some (.string (str ak)) := by rw [cell_of_row w1 _ 10 _ _ _ hrow1]; rfl
      have c1 : w1.cell? ⟨w.heap.size, 1, none⟩ = some (.bool ly) := by rw [cell_of_row w1 _ 1 _ _ _ hrow1]; rfl
      clear hrow1 hb
      go_wp2
      all_goals
        go_ret
        exact ⟨rfl, HB.out⟩
set_option maxHeartbeats 1000000 in
theorem toldOK_any (w : World) (tq : Nat) (rt : Bool) (ld : Int) (se sq : Nat) (er : Int) (lz : Nat) (am un cp ln : Int) :
    Calls Tryz.prog 42 #[.agg #[.int .u64 (tq : Int), .bool rt, .int .i64 ld, .int .u64 (se : Int), .int .u64 (sq : Int), .int .i64 er, .int .u64 (lz : Int), .int .i64 am, .int .i64 un, .int .i64 cp, .int .i64 ln]] w (Says ((decide (0 ≤ ld) && decide (ld ≤ 16)) && (decide (0 ≤ er) && decide (er ≤ 20))) w) := by
  have HB0 := Lib.hid (below_box w (.cells #[.int .u64 (tq : Int), .bool rt, .int .i64 ld, .int .u64 (se : Int), .int .u64 (sq : Int), .int .i64 er, .int .u64 (lz : Int), .int .i64 am, .int .i64 un, .int .i64 cp, .int .i64 ln] 54))
  by_cases h1 : 0 ≤ ld
  · by_cases h2 : ld ≤ 16
    · rw [decide_eq_true h1, decide_eq_true h2, Bool.and_self, Bool.true_and]
      go_enter Tryz.func42, Tryz.ntmps42
      go_wp2_with fail
      refine (replyOK_any _ se sq er lz am un).mono ?_
      rintro e w1 ⟨rfl, hb⟩
      have HB := Lib.hid (ext HB0.out hb)
      clear hb
      go_wp2
      go_ret
      exact ⟨rfl, HB.out⟩
    · rw [decide_eq_true h1, decide_eq_false h2, Bool.and_false, Bool.false_and]
      have h2' : 16 < ld := by omega
      go_enter Tryz.func42, Tryz.ntmps42
      go_wp2_with fail
      go_ret
      exact ⟨rfl, HB0.out⟩
  · rw [decide_eq_false h1, Bool.false_and, Bool.false_and]
    have h1' : ld < 0 := by omega
    go_enter Tryz.func42, Tryz.ntmps42
    go_wp2_with fail
    go_ret
    exact ⟨rfl, HB0.out⟩
end Go.Proofs.YtlgbipmmpocepaaGreat.Kd

/-! Package scupperref03 at commands, replies, asks, what edges are told: it says what is sound of that kind, and gives that kind's bytes; fits over what was given. -/
namespace Go.Proofs.YtlgbipmmpocepaaGreat.Kd
open Go.RowKit By CoP Co Mo

theorem cmd_ok {xs : List Value} {d : Data} (w : World) (h : commandK.rep w (Old w) xs d) : Calls Tryz.prog 32 #[.agg xs.toArray] w (Says (commandK.sound d) w) := by
  obtain ⟨se, sq, op, ke, am, sp, le, rfl, rfl, h1, h2, h3, h4, h5, h6, h7⟩ := command_shape h
  rw [cmd_sound h1 h2 h4 h5 h6]
  exact commandOK_any w se sq op ke am sp le
theorem rep_ok {xs : List Value} {d : Data} (w : World) (h : replyK.rep w (Old w) xs d) : Calls Tryz.prog 36 #[.agg xs.toArray] w (Says (replyK.sound d) w) := by
  obtain ⟨se, sq, er, lz, am, un, rfl, rfl, h1, h2, h3, h4, h5, h6⟩ := reply_shape h
  rw [rep_sound h1 h2 h4 h5 h6]
  exact replyOK_any w se sq er lz am un
theorem ask_ok {xs : List Value} {d : Data} (w : World) (h : askK.rep w (Old w) xs d) : Calls Tryz.prog 39 #[.agg xs.toArray] w (Says (askK.sound d) w) := by
  obtain ⟨lk, ly, aq, se, sq, op, ke, am, sp, le, ak, rfl, rfl, h0, h1, h2, h3, h4, h5, h6, h7, h8⟩ := askK_shape h
  rw [ask_sound h0]
  cases lk with
  | true => exact askOK_look w ly aq se sq op ke am sp le ak
  | false =>
    have e : (decide ((ak.length : Int) ≤ 64) && (if false = true then isNoCommand (cmdD se sq op ke am sp le) else (commandK.sound (cmdD se sq op ke am sp le) && ak.isEmpty && !ly))) = ((decide (1 ≤ op) && decide (op ≤ 5) && decide ((ke.length : Int) ≤ 64)) && ak.isEmpty && !ly) := by
      rw [cmd_sound h1 h2 h4 h5 h6, if_neg (by decide)]
      cases ak with
      | nil => rfl
      | cons x t => rw [List.isEmpty_cons, Bool.and_false, Bool.false_and, Bool.and_false]
    rw [e]
    exact askOK_call w ly aq se sq op ke am sp le ak
theorem told_ok {xs : List Value} {d : Data} (w : World) (h : toldK.rep w (Old w) xs d) : Calls Tryz.prog 42 #[.agg xs.toArray] w (Says (toldK.sound d) w) := by
  obtain ⟨tq, rt, ld, se, sq, er, lz, am, un, cp, ln, rfl, rfl, h1, h2, h3, h4, h5, h6, h7, h8, h9, h10⟩ := told_shape h
  rw [told_sound h1 h9 h10, rep_sound h3 h4 h6 h7 h8]
  exact toldOK_any w tq rt ld se sq er lz am un cp ln
end Go.Proofs.YtlgbipmmpocepaaGreat.Kd
