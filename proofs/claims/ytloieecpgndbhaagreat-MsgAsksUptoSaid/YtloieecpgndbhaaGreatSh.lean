/- The library's own contract of bits.Len64, laid at this program's numbers. -/
import Derived.Shelf.Strconv.Itoa0
import Derived.Test.YtloieecpgndbhaaGreatProg
namespace Go.Proofs.YtloieecpgndbhaaGreat.Sh
open Go.Shelf
def ren : Go.Shelf.Ren := ⟨fun | 129 => 393 | n => n, fun | 53 => 22 | 3 => 3 | 4 => 4 | 46 => 377 | 5 => 5 | 9 => 9 | n => n, fun | n => n⟩
theorem lays : Go.Proofs.Lays.n129 Tryz.prog ren := {
  mixed := by kernel_rfl
  f129 := Tryz.func393.trans (congrArg some (by kernel_rfl))
  t3 := Tryz.underlying3
  a3 := Tryz.isAgg3
  z3 := Tryz.sizeOf3
  v3 := Tryz.zeroValue3
  t4 := Tryz.underlying4
  a4 := Tryz.isAgg4
  z4 := Tryz.sizeOf4
  v4 := Tryz.zeroValue4
  t5 := Tryz.underlying5
  a5 := Tryz.isAgg5
  z5 := Tryz.sizeOf5
  v5 := Tryz.zeroValue5
  t9 := Tryz.underlying9
  a9 := Tryz.isAgg9
  z9 := Tryz.sizeOf9
  v9 := Tryz.zeroValue9
  t46 := Tryz.underlying377
  a46 := Tryz.isAgg377
  z46 := Tryz.sizeOf377
  v46 := Tryz.zeroValue377
  t53 := Tryz.underlying22
  a53 := Tryz.isAgg22
  z53 := Tryz.sizeOf22
  v53 := Tryz.zeroValue22 }
theorem len64 (x : Int) (w : World) (h0 : 0 ≤ x) (h1 : x ≤ 18446744073709551615) :
    Calls Tryz.prog 393 #[.int .u64 x] w fun e w' => e = .returned (.int .i64 (Lib.bitLen x.toNat)) ∧ w' = w := Any.bits_Len64 lays x w h0 h1
end Go.Proofs.YtloieecpgndbhaaGreat.Sh
