/- Folder scupperlaw03's own answers and fits, as contracts of calls. | Folder scupperlaw03's fits, as contracts of calls: where the bytes are the same; where there are none. -/
import Derived.Test.YtloieecpgndbhaaGreatGK
import Derived.Test.YtloieecpgndbhaaGreatGL
import Derived.Test.YtloieecpgndbhaaGreatGE
import Derived.BigQuiet
/-! Folder scupperlaw03's own answers and fits, as contracts of calls. -/
namespace Go.Proofs.YtloieecpgndbhaaGreat.Kd
open Go.RowKit By CoP Co Mo

theorem hard52 : hardK.put (.agg [.lit (.int .u64 (5 : Nat)), .lit (.int .i64 2)]) = [1, 5, 1, 2] := by
  decide +kernel
set_option maxRecDepth 100000 in
theorem answers3_yes (w : World) : Calls Tryz.prog 18 #[] w (Says true w) := by
  have hrep : ∀ w : World, hardK.rep w (Old w) [.int .u64 ((5 : Nat) : Int), .int .i64 2] (.agg [.lit (.int .u64 (5 : Nat)), .lit (.int .i64 2)]) := fun w => ⟨_, rfl, _, _, _, _, rfl, rfl, ⟨5, by omega, rfl, rfl⟩, _, _, _, _, rfl, rfl, ⟨2, by omega, by omega, rfl, rfl⟩, rfl, rfl⟩
  have hs : hardK.sound (.agg [.lit (.int .u64 (5 : Nat)), .lit (.int .i64 2)]) = true := by decide +kernel
  have hcall := fun w' : World => msgHard_any w' rfl (hrep w') (fun _ => by rw [hard52]; decide)
  have HC := Lib.hid hcall
  have HS := Lib.hid hs
  clear hcall hs hrep
  go_enter Tryz.func18, Tryz.ntmps18
  go_wp2_with fail
  refine (HC.out _).mono ?_
  rintro e w1 ⟨hb, hw⟩
  rcases hw with ⟨_, v, rfl, ho⟩ | ⟨h0, _⟩
  · rw [hard52] at ho
    obtain ⟨A, c, rfl, _, _, _, hr, _⟩ := ho.form
    have htx : (convert 23 9 (.slice A 4 c)).run Tryz.prog w1 = .ok (.string ⟨#[1, 5, 1, 2]⟩) w1 := run_text w1 c rfl hr
    clear ho hr
    go_wp2
    go_ret
    exact ⟨rfl, hb⟩
  · rw [HS.out] at h0
    cases h0
end Go.Proofs.YtloieecpgndbhaaGreat.Kd

/-! Folder scupperlaw03's fits, as contracts of calls: where the bytes are the same; where there are none. -/
namespace Go.Proofs.YtloieecpgndbhaaGreat.Kd
open Go.RowKit By CoP Co

theorem fits_yes (A : Option Addr) (n c : Nat) (A2 : Option Addr) (n2 c2 : Nat) (l : List UInt8) (hn : n = l.length) (hn2 : n2 = l.length) {B : Nat} (w : World) (hr : Lies w B A l) (hr2 : Lies w B A2 l) :
    Calls Tryz.prog 19 #[.slice A n c, .int .i64 0, .bool true, .slice A2 n2 c2] w (fun e w' => e = .returned (.bool true) ∧ w' = w) := by
  have h1 := run_text w c hn hr
  have h2 := run_text w c2 hn2 hr2
  clear hr hr2 hn hn2
  go_enter Tryz.func19, Tryz.ntmps19
  go_wp2
  go_ret
  exact ⟨rfl, rfl⟩
theorem fits_no (v : Value) (w : World) :
    Calls Tryz.prog 19 #[.slice none 0 0, .int .i64 2, .bool false, v] w (fun e w' => e = .returned (.bool true) ∧ w' = w) := by
  go_enter Tryz.func19, Tryz.ntmps19
  go_wp2
  go_ret
  exact ⟨rfl, rfl⟩
end Go.Proofs.YtloieecpgndbhaaGreat.Kd
