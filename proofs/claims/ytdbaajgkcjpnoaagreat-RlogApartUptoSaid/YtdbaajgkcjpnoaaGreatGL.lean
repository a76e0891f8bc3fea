/- Package msg's bytes of hard states, commands, replies, what edges are told. Written by geni.py. | What is asked of an Ask's fields together; its kind, made; its bytes. -/
import Derived.Test.YtdbaajgkcjpnoaaGreatKhB
import Derived.Test.YtdbaajgkcjpnoaaGreatGK
/-! Package msg's bytes of hard states, commands, replies, what edges are told. Written by geni.py. -/
namespace Go.Proofs.YtdbaajgkcjpnoaaGreat.Kd
open Go.RowKit By CoP Co Mo

theorem numberK_ok : numberK.Ok := numK_ok 0 18446744073709551615
theorem signedK_ok : signedK.Ok := intK_ok (-9223372036854775808) 9223372036854775807
theorem hardF_ok : ∀ k ∈ hardF, k.Ok := by
  intro k hk
  simp only [hardF, List.mem_cons, List.not_mem_nil, or_false] at hk
  rcases hk with rfl | rfl
  all_goals first | exact numberK_ok | exact signedK_ok | exact numK_ok _ _ | exact intK_ok _ _ | exact flagK_ok | exact bytesK_ok _ | exact textK_ok _ | exact commandK_ok | exact replyK_ok | exact looseK_ok commandK_ok
theorem hardK_ok : hardK.Ok := recK_ok hardF_ok _
theorem commandF_ok : ∀ k ∈ commandF, k.Ok := by
  intro k hk
  simp only [commandF, List.mem_cons, List.not_mem_nil, or_false] at hk
  rcases hk with rfl | rfl | rfl | rfl | rfl | rfl | rfl
  all_goals first | exact numberK_ok | exact signedK_ok | exact numK_ok _ _ | exact intK_ok _ _ | exact flagK_ok | exact bytesK_ok _ | exact textK_ok _ | exact commandK_ok | exact replyK_ok | exact looseK_ok commandK_ok
theorem commandK_ok : commandK.Ok := recK_ok commandF_ok _
theorem replyF_ok : ∀ k ∈ replyF, k.Ok := by
  intro k hk
  simp only [replyF, List.mem_cons, List.not_mem_nil, or_false] at hk
  rcases hk with rfl | rfl | rfl | rfl | rfl | rfl
  all_goals first | exact numberK_ok | exact signedK_ok | exact numK_ok _ _ | exact intK_ok _ _ | exact flagK_ok | exact bytesK_ok _ | exact textK_ok _ | exact commandK_ok | exact replyK_ok | exact looseK_ok commandK_ok
theorem replyK_ok : replyK.Ok := recK_ok replyF_ok _
theorem toldF_ok : ∀ k ∈ toldF, k.Ok := by
  intro k hk
  simp only [toldF, List.mem_cons, List.not_mem_nil, or_false] at hk
  rcases hk with rfl | rfl | rfl | rfl | rfl | rfl
  all_goals first | exact numberK_ok | exact signedK_ok | exact numK_ok _ _ | exact intK_ok _ _ | exact flagK_ok | exact bytesK_ok _ | exact textK_ok _ | exact commandK_ok | exact replyK_ok | exact looseK_ok commandK_ok
theorem toldK_ok : toldK.Ok := recK_ok toldF_ok _
theorem askF_ok : ∀ k ∈ askF, k.Ok := by
  intro k hk
  simp only [askF, List.mem_cons, List.not_mem_nil, or_false] at hk
  rcases hk with rfl | rfl | rfl | rfl | rfl
  all_goals first | exact numberK_ok | exact signedK_ok | exact numK_ok _ _ | exact intK_ok _ _ | exact flagK_ok | exact bytesK_ok _ | exact textK_ok _ | exact commandK_ok | exact replyK_ok | exact looseK_ok commandK_ok
theorem askK_ok : askK.Ok := recK_ok askF_ok _
end Go.Proofs.YtdbaajgkcjpnoaaGreat.Kd

/-! What is asked of an Ask's fields together; its kind, made; its bytes. -/
namespace Go.Proofs.YtdbaajgkcjpnoaaGreat.Kd
open Go.RowKit By CoP Co Mo

theorem ask_shape {w : World} {S : Nat → Prop} {vs : List Value} {ds : List Data} (h : RepAll w S askF vs ds) : ∃ (lk ly : Bool) (aq se sq : Nat) (op : Int) (ke : List UInt8) (am sp : Int) (le : Nat) (ak : List UInt8),
    vs = [.bool lk, .bool ly, .int .u64 (aq : Int), .int .u64 (se : Int), .int .u64 (sq : Int), .int .i64 op, .string (str ke), .int .i64 am, .int .i64 sp, .int .u64 (le : Int), .string (str ak)] ∧
    ds = [.lit (.bool lk), .lit (.bool ly), .lit (.int .u64 (aq : Int)), .agg [.lit (.int .u64 (se : Int)), .lit (.int .u64 (sq : Int)), .lit (.int .i64 op), .lit (.string ke), .lit (.int .i64 am), .lit (.int .i64 sp), .lit (.int .u64 (le : Int))], .lit (.string ak)] ∧
    (aq < 18446744073709551616 ∧ se < 18446744073709551616 ∧ sq < 18446744073709551616 ∧ le < 18446744073709551616) ∧ (-9223372036854775808 ≤ op ∧ op ≤ 9223372036854775807) ∧ (-9223372036854775808 ≤ am ∧ am ≤ 9223372036854775807) ∧ (-9223372036854775808 ≤ sp ∧ sp ≤ 9223372036854775807) ∧ ke.length ≤ 140737488355328 ∧ ak.length ≤ 140737488355328 := by
  obtain ⟨_, _, _, _, rfl, rfl, ⟨lk, rfl, rfl⟩, _, _, _, _, rfl, rfl, ⟨ly, rfl, rfl⟩, _, _, _, _, rfl, rfl, ⟨aq, h1, rfl, rfl⟩, _, _, _, _, rfl, rfl, ⟨_, rfl, hc⟩, _, _, _, _, rfl, rfl, ⟨ak, rfl, rfl, h9⟩, rfl, rfl⟩ := h
  obtain ⟨_, _, _, _, rfl, rfl, ⟨se, h2, rfl, rfl⟩, _, _, _, _, rfl, rfl, ⟨sq, h3, rfl, rfl⟩, _, _, _, _, rfl, rfl, ⟨op, h4, h4b, rfl, rfl⟩, _, _, _, _, rfl, rfl, ⟨ke, rfl, rfl, h5⟩, _, _, _, _, rfl, rfl, ⟨am, h6, h6b, rfl, rfl⟩, _, _, _, _, rfl, rfl, ⟨sp, h7, h7b, rfl, rfl⟩, _, _, _, _, rfl, rfl, ⟨le, h8, rfl, rfl⟩, rfl, rfl⟩ := hc
  exact ⟨lk, ly, aq, se, sq, op, ke, am, sp, le, ak, rfl, rfl, ⟨h1, h2, h3, h8⟩, ⟨h4, h4b⟩, ⟨h6, h6b⟩, ⟨h7, h7b⟩, h5, h9⟩
end Go.Proofs.YtdbaajgkcjpnoaaGreat.Kd
