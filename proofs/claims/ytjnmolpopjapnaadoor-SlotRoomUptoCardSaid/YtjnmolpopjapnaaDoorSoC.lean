/- Package slot's path: the name of a turn's file, as a contract of a call. -/
import Derived.Test.YtjnmolpopjapnaaDoorSoB
import Derived.StillTailTactics
import Derived.Deep.RegionHeld3
namespace Go.Proofs.YtjnmolpopjapnaaDoor.So
open Go.RowKit Go.Maps By Mp Dk

set_option maxRecDepth 100000 in
theorem small_any (t : Nat) (ht : t < 3) (w : World) : Calls Tryd.prog 92 #[.int .i64 (t : Int)] w (Ret (.string (str [UInt8.ofNat (48 + t)])) w) := by
  rcases lt3 ht with rfl | rfl | rfl
  all_goals
    go_enter Tryd.func92, Tryd.ntmps92
    go_wp2
    go_ret
    exact ⟨rfl, rfl⟩
set_option maxRecDepth 100000 in
theorem itoa_any (t : Nat) (ht : t < 3) (w : World) : Calls Tryd.prog 59 #[.int .i64 (t : Int)] w (Ret (.string (str [UInt8.ofNat (48 + t)])) w) := by
  have hf : Calls Tryd.prog 85 #[.int .i64 (t : Int), .int .i64 10] w (Ret (.string (str [UInt8.ofNat (48 + t)])) w) := by
    obtain ⟨X, hX⟩ : ∃ X, X = str [UInt8.ofNat (48 + t)] := ⟨_, rfl⟩
    have HS := Lib.hid (small_any t ht w)
    rw [← hX] at HS ⊢
    clear hX
    have h0 : (0 : Int) ≤ (t : Int) := by omega
    have h1 : (t : Int) < 100 := by omega
    clear ht
    go_enter Tryd.func85, Tryd.ntmps85
    go_wp2_with fail
    refine HS.out.mono ?_
    rintro e w' ⟨rfl, rfl⟩
    go_wp2
    go_ret
    exact ⟨rfl, rfl⟩
  have hi : Calls Tryd.prog 68 #[.int .i64 (t : Int)] w (Ret (.string (str [UInt8.ofNat (48 + t)])) w) := by
    obtain ⟨X, hX⟩ : ∃ X, X = str [UInt8.ofNat (48 + t)] := ⟨_, rfl⟩
    have HF := Lib.hid hf
    rw [← hX] at HF ⊢
    clear ht hf hX
    go_enter Tryd.func68, Tryd.ntmps68
    go_wp2_with fail
    refine HF.out.mono ?_
    rintro e w' ⟨rfl, rfl⟩
    go_wp2
    go_ret
    exact ⟨rfl, rfl⟩
  obtain ⟨X, hX⟩ : ∃ X, X = str [UInt8.ofNat (48 + t)] := ⟨_, rfl⟩
  have HI := Lib.hid hi
  rw [← hX] at HI ⊢
  clear ht hf hi hX
  go_enter Tryd.func59, Tryd.ntmps59
  go_wp2_with fail
  refine HI.out.mono ?_
  rintro e w' ⟨rfl, rfl⟩
  go_wp2
  go_ret
  exact ⟨rfl, rfl⟩
theorem str_cat (a b : Bs) : str a ++ str b = str (a ++ b) := by
  unfold str
  apply ByteArray.ext
  simp
theorem run_catS (w : World) (a b : Bs) (h : a.length + b.length ≤ 9223372036854775807) : (Op.stringOp .add (str a) (str b)).run Tryd.prog w = .ok (.string (str (a ++ b))) w := by
  rw [← str_cat]
  have h2 : ¬ (((str a).size + (str b).size : Nat) : Int) > IntKind.i64.max := by
    rw [show (str a).size = a.length from rfl, show (str b).size = b.length from rfl]
    show ¬ ((a.length + b.length : Nat) : Int) > 9223372036854775807
    omega
  unfold Op.stringOp
  dsimp only
  rw [if_neg h2]
  rfl
set_option maxRecDepth 100000 in
set_option maxHeartbeats 2000000 in
theorem path_any (g d : Nat) (nm : Bs) (dead : Bool) (t : Nat) (w : World) (h : SlotAt w g d nm dead) (ht : t < 3) (hl : nm.length ≤ 8) : Calls Tryd.prog 44 #[.pointer (some ⟨g, 0, none⟩), .int .i64 (t : Int)] w (RetB (.string (str (pth nm t))) w) := by
  have HI := Lib.hid (fun w' => itoa_any t ht w')
  have h1 := h.cells.2.1
  have HC := Lib.hid (fun (w' : World) (hb : Below w.heap.size w w') => ((hb.cell (show (⟨g, 1, none⟩ : Addr).block < w.heap.size from h.lt)).trans h1 : w'.cell? ⟨g, 1, none⟩ = some (.string (str nm))))
  obtain ⟨s0, hs0⟩ : ∃ s0, s0 = str nm := ⟨_, rfl⟩
  obtain ⟨s1, hs1⟩ : ∃ s1, s1 = str (nm ++ [46]) := ⟨_, rfl⟩
  obtain ⟨s2, hs2⟩ : ∃ s2, s2 = str [UInt8.ofNat (48 + t)] := ⟨_, rfl⟩
  obtain ⟨s3, hs3⟩ : ∃ s3, s3 = str (pth nm t) := ⟨_, rfl⟩
  have c1 : ∀ w', (Op.stringOp .add s0 { data := #[46] }).run Tryd.prog w' = .ok (.string s1) w' := fun w' => by rw [hs0, hs1]; exact run_catS w' nm [46] (by simp; omega)
  have c2 : ∀ w', (Op.stringOp .add s1 s2).run Tryd.prog w' = .ok (.string s3) w' := fun w' => by
    have h := run_catS w' (nm ++ [46]) [UInt8.ofNat (48 + t)] (by simp; omega)
    rw [List.append_assoc] at h
    rw [hs1, hs2, hs3]
    exact h
  rw [← hs2] at HI
  rw [← hs0] at h1 HC
  rw [← hs3]
  clear hs0 hs1 hs2 hs3 h ht hl
  go_enter Tryd.func44, Tryd.ntmps44
  go_wp2
  go_quiet (exact (HI.out _).mono (fun e w' h => ⟨h.1, _, h.2.symm⟩))
  go_wp2
  go_ret
  exact ⟨rfl, ⟨rfl, rfl, rfl, Nat.le_refl _, fun _ _ => rfl⟩⟩
end Go.Proofs.YtjnmolpopjapnaaDoor.So
