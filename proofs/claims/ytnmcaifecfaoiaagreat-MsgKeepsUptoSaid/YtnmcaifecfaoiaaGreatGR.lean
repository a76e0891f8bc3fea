/- Package scupperref03's EntryOK, ShotOK, HardOK, as contracts of calls. Written by genok.py. | Package scupperref03 at entries, configurations, snapshots, hard states: it says what is sound of that kind, and gives that kind's bytes. -/
import Derived.Test.YtnmcaifecfaoiaaGreatGO
import Derived.Laws.Tables
import Derived.Deep.RegionLaw
/-! Package scupperref03's EntryOK, ShotOK, HardOK, as contracts of calls. Written by genok.py. -/
namespace Go.Proofs.YtnmcaifecfaoiaaGreat.Kd
open Go.RowKit By CoP Co Mo

theorem below_box3 (w : World) (o : Obj) : Below w.heap.size w (w.alloc o) := (Below.refl _ _).alloc (Nat.le_refl _) _
end Go.Proofs.YtnmcaifecfaoiaaGreat.Kd

/-! Package scupperref03 at entries, configurations, snapshots, hard states: it says what is sound of that kind, and gives that kind's bytes. -/
namespace Go.Proofs.YtnmcaifecfaoiaaGreat.Kd
open Go.RowKit By CoP Co Mo

end Go.Proofs.YtnmcaifecfaoiaaGreat.Kd
