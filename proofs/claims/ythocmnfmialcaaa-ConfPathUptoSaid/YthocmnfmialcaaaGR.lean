/- Package scupperref03's EntryOK, ShotOK, HardOK, as contracts of calls. Written by genok.py. | Package scupperref03 at entries, configurations, snapshots, hard states: it says what is sound of that kind, and gives that kind's bytes. -/
import Derived.Test.YthocmnfmialcaaaGO
import Derived.Laws.Tables
import Derived.Deep.RegionLaw
/-! Package scupperref03's EntryOK, ShotOK, HardOK, as contracts of calls. Written by genok.py. -/
namespace Go.Proofs.Ythocmnfmialcaaa.Kd
open Go.RowKit By CoP Co Mo

theorem below_box3 (w : World) (o : Obj) : Below w.heap.size w (w.alloc o) := (Below.refl _ _).alloc (Nat.le_refl _) _
end Go.Proofs.Ythocmnfmialcaaa.Kd

/-! Package scupperref03 at entries, configurations, snapshots, hard states: it says what is sound of that kind, and gives that kind's bytes. -/
namespace Go.Proofs.Ythocmnfmialcaaa.Kd
open Go.RowKit By CoP Co Mo

theorem conf_ok {xs : List Value} {d : Data} (w : World) (h : confK.rep w (Old w) xs d) : Calls Try.prog 11 #[.agg xs.toArray] w (Says (confK.sound d) w) := by
  obtain ⟨A, c, l, A2, c2, l2, rfl, rfl, h1, h2, h3, h4, h5, h6⟩ := confK_shape h
  rw [conf_sound]
  exact confOK_any w.heap.size w A _ c l rfl h3 A2 _ c2 l2 rfl h6 (Nat.le_refl _) h2 h5
end Go.Proofs.Ythocmnfmialcaaa.Kd
