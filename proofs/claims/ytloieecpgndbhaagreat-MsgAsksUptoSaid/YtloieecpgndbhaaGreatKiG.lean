/- Package scupperref03 at commands, replies, asks, what edges are told: it says what is sound of that kind, and gives that kind's bytes; fits over what was given. -/
import Derived.Test.YtloieecpgndbhaaGreatKiE
import Derived.Test.YtloieecpgndbhaaGreatKiF
import Derived.Test.YtloieecpgndbhaaGreatKiB
import Derived.Test.YtloieecpgndbhaaGreatKfF
namespace Go.Proofs.YtloieecpgndbhaaGreat.Kd
open Go.RowKit By CoP Co Mo

theorem cmd_ok {xs : List Value} {d : Data} (w : World) (h : commandK.rep w (Old w) xs d) : Calls Tryz.prog 36 #[.agg xs.toArray] w (Says (commandK.sound d) w) := by
  obtain ⟨se, sq, op, ke, am, sp, le, rfl, rfl, h1, h2, h3, h4, h5, h6, h7⟩ := command_shape h
  rw [cmd_sound h1 h2 h4 h5 h6]
  exact commandOK_any w se sq op ke am sp le
theorem rep_ok {xs : List Value} {d : Data} (w : World) (h : replyK.rep w (Old w) xs d) : Calls Tryz.prog 38 #[.agg xs.toArray] w (Says (replyK.sound d) w) := by
  obtain ⟨se, sq, er, lz, am, un, rfl, rfl, h1, h2, h3, h4, h5, h6⟩ := reply_shape h
  rw [rep_sound h1 h2 h4 h5 h6]
  exact replyOK_any w se sq er lz am un
theorem ask_ok {xs : List Value} {d : Data} (w : World) (h : askK.rep w (Old w) xs d) : Calls Tryz.prog 40 #[.agg xs.toArray] w (Says (askK.sound d) w) := by
  obtain ⟨lk, ly, aq, se, sq, op, ke, am, sp, le, ak, rfl, rfl, h0, h1, h2, h3, h4, h5, h6, h7, h8⟩ := askK_shape h
  rw [ask_sound h0]
  cases lk with
  | true => exact askOK_look w ly aq se sq op ke am sp le ak
  | false =>
    have e : (decide ((ak.length : Int) ≤ 64) && (if false = true then isNoCommand (cmdD se sq op ke am sp le) else (commandK.sound (cmdD se sq op ke am sp le) && ak.isEmpty && !ly))) = ((decide (1 ≤ op) && decide (op ≤ 5) && decide ((ke.length : Int) ≤ 64)) && ak.isEmpty && !ly) := by
      rw [cmd_sound h1 h2 h4 h5 h6, if_neg (by decide)]
      cases ak with
      | nil => rfl
      | cons x t => rw [List.isEmpty_cons, Bool.and_false, Bool.false_and, Bool.and_false]
    rw [e]
    exact askOK_call w ly aq se sq op ke am sp le ak
theorem told_ok {xs : List Value} {d : Data} (w : World) (h : toldK.rep w (Old w) xs d) : Calls Tryz.prog 42 #[.agg xs.toArray] w (Says (toldK.sound d) w) := by
  obtain ⟨tq, rt, ld, se, sq, er, lz, am, un, cp, ln, rfl, rfl, h1, h2, h3, h4, h5, h6, h7, h8, h9, h10⟩ := told_shape h
  rw [told_sound h1 h9 h10, rep_sound h3 h4 h6 h7 h8]
  exact toldOK_any w tq rt ld se sq er lz am un cp ln
theorem cmd_gives {xs : List Value} {d : Data} (w : World) (h : commandK.rep w (Old w) xs d) (hs : (commandK.put d).length ≤ 9437184) : Calls Tryz.prog 37 #[.agg xs.toArray] w (Gives w.heap.size (commandK.put d) w) := by
  obtain ⟨se, sq, op, ke, am, sp, le, rfl, rfl, h1, h2, h3, h4, h5, h6, h7⟩ := command_shape h
  rw [cmd_put] at hs ⊢
  have hl : ke.length ≤ (putCommand se sq op ke am sp le).length := by
    simp only [putCommand, putBytes, List.length_append]; omega
  exact command_any 0 w se h1 sq h2 op ke am sp le h6 (Nat.zero_le _) (by omega)
theorem rep_gives {xs : List Value} {d : Data} (w : World) (h : replyK.rep w (Old w) xs d) (_ : (replyK.put d).length ≤ 9437184) : Calls Tryz.prog 39 #[.agg xs.toArray] w (Gives w.heap.size (replyK.put d) w) := by
  obtain ⟨se, sq, er, lz, am, un, rfl, rfl, h1, h2, h3, h4, h5, h6⟩ := reply_shape h
  rw [rep_put]
  exact reply_any 0 w se h1 sq h2 er lz h4 am un (Nat.zero_le _) (by omega)
theorem ask_gives {xs : List Value} {d : Data} (w : World) (h : askK.rep w (Old w) xs d) (hs : (askK.put d).length ≤ 9437184) : Calls Tryz.prog 41 #[.agg xs.toArray] w (Gives w.heap.size (askK.put d) w) := by
  obtain ⟨lk, ly, aq, se, sq, op, ke, am, sp, le, ak, rfl, rfl, h0, h1, h2, h3, h4, h5, h6, h7, h8⟩ := askK_shape h
  rw [ask_put] at hs ⊢
  have hl : ke.length + ak.length ≤ (putAsk lk ly aq se sq op ke am sp le ak).length := by
    simp only [putAsk, putCommand, putBytes, List.length_append]; omega
  exact ask_any 0 w lk ly aq h0 se h1 sq h2 op ke am sp le h6 ak (Nat.zero_le _) (by omega)
theorem told_gives {xs : List Value} {d : Data} (w : World) (h : toldK.rep w (Old w) xs d) (_ : (toldK.put d).length ≤ 9437184) : Calls Tryz.prog 43 #[.agg xs.toArray] w (Gives w.heap.size (toldK.put d) w) := by
  obtain ⟨tq, rt, ld, se, sq, er, lz, am, un, cp, ln, rfl, rfl, h1, h2, h3, h4, h5, h6, h7, h8, h9, h10⟩ := told_shape h
  rw [told_put]
  exact told_any 0 w tq h1 rt ld se h3 sq h4 er lz h6 am un cp ln (Nat.zero_le _) (by omega)
/-- fits over what the package gave, and the bytes that the reference gave. -/
theorem fits_any {k : Kd} {d : Data} {w0 w1 : World} {v : Value} {er : Int} (hw : Writes k d w0 (.returned (.tuple #[v, .int .i64 er])) w1) {w : World} (hb : Below w1.heap.size w1 w) (A2 : Option Addr) (n2 c2 : Nat) (hn2 : n2 = (k.put d).length) (hr2 : Lies w w.heap.size A2 (k.put d)) :
    Calls Tryz.prog 19 #[v, .int .i64 er, .bool (k.sound d), .slice A2 n2 c2] w (fun e w' => e = .returned (.bool true) ∧ w' = w) := by
  rcases hw with ⟨_, ⟨hs, v', he, ho⟩ | ⟨hs, he⟩⟩
  · obtain ⟨A, c, rfl, _, _, _, hr, _⟩ := ho.form
    rw [hs]
    simp only [Ending.returned.injEq, Value.tuple.injEq, Array.mk.injEq, List.cons.injEq, Value.int.injEq, true_and, and_true] at he
    obtain ⟨rfl, rfl⟩ := he
    exact fits_yes A _ c A2 n2 c2 _ rfl hn2 w (lext hr hb) hr2
  · rw [hs]
    simp only [Ending.returned.injEq, Value.tuple.injEq, Array.mk.injEq, List.cons.injEq, Value.int.injEq, true_and, and_true] at he
    obtain ⟨rfl, rfl⟩ := he
    exact fits_no _ w
end Go.Proofs.YtloieecpgndbhaaGreat.Kd
