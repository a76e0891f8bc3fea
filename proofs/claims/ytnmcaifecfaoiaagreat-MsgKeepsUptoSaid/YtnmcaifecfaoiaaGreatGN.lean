/- Folder scupperlaw03's own answers and fits, as contracts of calls. | Folder scupperlaw03's fits, as contracts of calls: where the bytes are the same; where there are none. -/
import Derived.Test.YtnmcaifecfaoiaaGreatGK
import Derived.Test.YtnmcaifecfaoiaaGreatGL
import Derived.Test.YtnmcaifecfaoiaaGreatGE
import Derived.BigQuiet
/-! Folder scupperlaw03's own answers and fits, as contracts of calls. -/
namespace Go.Proofs.YtnmcaifecfaoiaaGreat.Kd
open Go.RowKit By CoP Co Mo

theorem hard52 : hardK.put (.agg [.lit (.int .u64 (5 : Nat)), .lit (.int .i64 2)]) = [1, 5, 1, 2] := by
  decide +kernel
set_option maxRecDepth 100000 in
theorem answers3_yes (w : World) : Calls Tryz.prog 6 #[] w (Says true w) := by
  have hrep : ∀ w : World, hardK.rep w (Old w) [.int .u64 ((5 : Nat) : Int), .int .i64 2] (.agg [.lit (.int .u64 (5 : Nat)), .lit (.int .i64 2)]) := fun w => ⟨_, rfl, _, _, _, _, rfl, rfl, ⟨5, by omega, rfl, rfl⟩, _, _, _, _, rfl, rfl, ⟨2, by omega, by omega, rfl, rfl⟩, rfl, rfl⟩
  have hs : hardK.sound (.agg [.lit (.int .u64 (5 : Nat)), .lit (.int .i64 2)]) = true := by decide +kernel
  have hcall := fun w' : World => msgHard_any w' rfl (hrep w') (fun _ => by rw [hard52]; decide)
  have HC := Lib.hid hcall
  have HS := Lib.hid hs
  clear hcall hs hrep
  go_enter Tryz.func6, Tryz.ntmps6
  go_wp2_with fail
  refine (HC.out _).mono ?_
  rintro e w1 ⟨hb, hw⟩
  rcases hw with ⟨_, v, rfl, ho⟩ | ⟨h0, _⟩
  · rw [hard52] at ho
    obtain ⟨A, c, rfl, _, _, _, hr, _⟩ := ho.form
    have htx : (convert 27 9 (.slice A 4 c)).run Tryz.prog w1 = .ok (.string ⟨#[1, 5, 1, 2]⟩) w1 := run_text w1 c rfl hr
    clear ho hr
    go_wp2
    go_ret
    exact ⟨rfl, hb⟩
  · rw [HS.out] at h0
    cases h0
end Go.Proofs.YtnmcaifecfaoiaaGreat.Kd

/-! Folder scupperlaw03's fits, as contracts of calls: where the bytes are the same; where there are none. -/
namespace Go.Proofs.YtnmcaifecfaoiaaGreat.Kd
open Go.RowKit By CoP Co

end Go.Proofs.YtnmcaifecfaoiaaGreat.Kd
