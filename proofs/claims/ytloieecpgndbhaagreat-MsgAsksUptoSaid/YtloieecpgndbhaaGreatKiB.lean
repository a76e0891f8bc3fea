/- Folder scupperlaw03's fits, as contracts of calls: where the bytes are the same; where there are none. -/
import Derived.Test.YtloieecpgndbhaaGreatCoW
namespace Go.Proofs.YtloieecpgndbhaaGreat.Kd
open Go.RowKit By CoP Co

theorem fits_yes (A : Option Addr) (n c : Nat) (A2 : Option Addr) (n2 c2 : Nat) (l : List UInt8) (hn : n = l.length) (hn2 : n2 = l.length) {B : Nat} (w : World) (hr : Lies w B A l) (hr2 : Lies w B A2 l) :
    Calls Tryz.prog 19 #[.slice A n c, .int .i64 0, .bool true, .slice A2 n2 c2] w (fun e w' => e = .returned (.bool true) ∧ w' = w) := by
  have h1 := run_text w c hn hr
  have h2 := run_text w c2 hn2 hr2
  clear hr hr2 hn hn2
  go_enter Tryz.func19, Tryz.ntmps19
  go_wp2
  go_ret
  exact ⟨rfl, rfl⟩
theorem fits_no (v : Value) (w : World) :
    Calls Tryz.prog 19 #[.slice none 0 0, .int .i64 2, .bool false, v] w (fun e w' => e = .returned (.bool true) ∧ w' = w) := by
  go_enter Tryz.func19, Tryz.ntmps19
  go_wp2
  go_ret
  exact ⟨rfl, rfl⟩
end Go.Proofs.YtloieecpgndbhaaGreat.Kd
