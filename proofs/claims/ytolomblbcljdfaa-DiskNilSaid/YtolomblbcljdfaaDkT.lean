/- What types of package disk are: closed facts. -/
import Derived.Test.YtolomblbcljdfaaMpA
import Derived.Test.YtolomblbcljdfaaBy
namespace Go.Proofs.Ytolomblbcljdfaa.Dk
open Go.RowKit Go.Maps By Mp
abbrev tPM : TypeId := 84
abbrev tFM : TypeId := 66
abbrev tPiece : TypeId := 92
abbrev tFile : TypeId := 86
abbrev tStr : TypeId := 9
abbrev tInt : TypeId := 3
theorem keyS : Keyed Try.prog tStr := string_keyed Try.underlying9
theorem keyI : Keyed Try.prog tInt := int_keyed Try.underlying3
def zeroP : Array Value := Array.replicate 256 (.int .u8 0)
theorem zero_piece (w : World) : (zeroValue tPiece).run Try.prog w = .ok (.agg zeroP) w := by kernel_rfl
theorem zero_file (w : World) : (zeroValue tFile).run Try.prog w = .ok (.agg #[.int .i64 0, .map none]) w := by kernel_rfl
theorem info_piece : (Try.prog.info? tPiece).map (·.size) = some 256 := by kernel_rfl
theorem info_file : (Try.prog.info? tFile).map (·.size) = some 2 := by kernel_rfl
theorem zeroP_size : zeroP.size = 256 := by simp [zeroP]
theorem zeroP_one : zeroP.all (·.oneCell') = true := by kernel_rfl
end Go.Proofs.Ytolomblbcljdfaa.Dk
