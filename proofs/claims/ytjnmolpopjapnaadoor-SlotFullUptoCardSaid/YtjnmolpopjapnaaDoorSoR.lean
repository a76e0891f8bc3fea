/- The walks of SlotActs and SlotFull. -/
import Derived.Test.YtjnmolpopjapnaaDoorSoQ
namespace Go.Proofs.YtjnmolpopjapnaaDoor.So
open Go.RowKit Go.Maps By Mp Dk

theorem lies_later {w w' : World} {A : Option Addr} {l : List A1} (h : LiesA w w.heap.size A l) (hb : Below w.heap.size w w') : LiesA w' w'.heap.size A l := fun hn => by
  obtain ⟨g, o, e, hg, hc⟩ := h hn
  refine ⟨g, o, e, Nat.lt_of_lt_of_le hg hb.size, fun k x hx => ?_⟩
  obtain ⟨p, h1, h2, h3⟩ := hc k x hx
  exact ⟨p, fun j u hu => (hb.cell (show (⟨g, o + k * 4 + j, none⟩ : Addr).block < w.heap.size from hg)).trans (h1 j u hu), h2, (h3.below hb).more hb.size⟩
set_option maxRecDepth 100000 in
set_option maxHeartbeats 4000000 in
theorem slotActs_any (A : Option Addr) (c : Nat) (l : List A1) (w : World) (hA : LiesA w w.heap.size A l) (hok : ActsOk l) (hl : l.length ≤ 1048576) : Calls Tryd.prog 3 #[.slice A l.length c] w (True_ w) := by
  have HA := Lib.hid hA
  have HAN := Lib.hid (answers_any w)
  have HRN := Lib.hid (fun w' (h : LiesA w' w'.heap.size A l) => run_any A c l 400000 w' h hok hl (by decide))
  clear hA hok hl
  go_enter Tryd.func3, Tryd.ntmps3
  go_wp2_with fail
  refine HAN.out.mono ?_
  rintro e w1 ⟨rfl, hb1⟩
  have HB1 := Lib.hid hb1
  have HR1 := Lib.hid (HRN.out w1 (lies_later HA.out hb1))
  clear hb1
  go_wp2_with fail
  refine HR1.out.mono ?_
  rintro e w2 ⟨rfl, hb2⟩
  have HB2 := Lib.hid (By.ext HB1.out hb2)
  clear hb2
  go_wp2
  go_ret
  exact ⟨rfl, HB2.out⟩
set_option maxRecDepth 100000 in
set_option maxHeartbeats 4000000 in
theorem slotFull_any (A : Option Addr) (c : Nat) (l : List A1) (k : Int) (w : World) (hA : LiesA w w.heap.size A l) (hok : ActsOk l) (hl : l.length ≤ 1048576) (hk : 0 ≤ k ∧ k ≤ 65535) : Calls Tryd.prog 4 #[.slice A l.length c, .int .u16 k] w (True_ w) := by
  have HA := Lib.hid hA
  have HAN := Lib.hid (answers_any w)
  have HRN := Lib.hid (fun w' (h : LiesA w' w'.heap.size A l) => run_any A c l (k % 300) w' h hok hl (by omega))
  obtain ⟨h0, h1⟩ := hk
  clear hA hok hl
  go_enter Tryd.func4, Tryd.ntmps4
  go_wp2_with fail
  refine HAN.out.mono ?_
  rintro e w1 ⟨rfl, hb1⟩
  have HB1 := Lib.hid hb1
  have HR1 := Lib.hid (HRN.out w1 (lies_later HA.out hb1))
  clear hb1
  go_wp2_with fail
  refine HR1.out.mono ?_
  rintro e w2 ⟨rfl, hb2⟩
  have HB2 := Lib.hid (By.ext HB1.out hb2)
  clear hb2
  go_wp2
  go_ret
  exact ⟨rfl, HB2.out⟩
end Go.Proofs.YtjnmolpopjapnaaDoor.So
