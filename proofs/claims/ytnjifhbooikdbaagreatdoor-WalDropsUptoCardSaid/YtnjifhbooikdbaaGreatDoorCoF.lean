/- Frame, its reference's, and what every law of layer 2 asks first, as contracts of calls. -/
import Derived.Test.YtnjifhbooikdbaaGreatDoorGE
import Derived.Test.YtnjifhbooikdbaaGreatDoorCoS
namespace Go.Proofs.YtnjifhbooikdbaaGreatDoor.Co
open Go.RowKit By CoP

theorem four_cells (n : Nat) (hn : n < 4294967296) : #[Value.int .u8 ((n : Int) / 16777216), .int .u8 ((n : Int) / 65536 % 256), .int .u8 ((n : Int) / 256 % 256), .int .u8 ((n : Int) % 256)] = (bvs (be 4 n)).toArray := by
  have h : be 4 n = [UInt8.ofNat (n / 16777216), UInt8.ofNat (n / 65536), UInt8.ofNat (n / 256), UInt8.ofNat n] := by simp [be, List.range_succ]
  rw [h]
  simp only [bvs, List.map_cons, List.map_nil, bv, ofNat_mod]
  have e1 : (n : Int) / 16777216 = ((n / 16777216 % 256 : Nat) : Int) := by omega
  have e2 : (n : Int) / 65536 % 256 = ((n / 65536 % 256 : Nat) : Int) := by omega
  have e3 : (n : Int) / 256 % 256 = ((n / 256 % 256 : Nat) : Int) := by omega
  have e4 : (n : Int) % 256 = ((n % 256 : Nat) : Int) := by omega
  rw [e1, e2, e3, e4]
/-- Gives bytes of the call's own, and an error. -/
def GivesE (base : Nat) (l : List UInt8) (er : Int) (w : World) (e : Ending) (w' : World) : Prop := ∃ v, e = .returned (.tuple #[v, .int .i64 er]) ∧ Own base w' v l ∧ Below base w w'
set_option maxHeartbeats 400000 in
theorem frame_large (A : Option Addr) (m c : Nat) (hm : 65536 < m) (w : World) : Calls Tryz.prog 44 #[.slice A m c] w (GivesE w.heap.size [] 7 w) := by
  go_enter Tryz.func44, Tryz.ntmps44
  go_wp2
  go_ret2
  exact ⟨_, rfl, Own.nil _ _, Below.refl _ _⟩
set_option maxHeartbeats 800000 in
theorem frame_ok (A : Option Addr) (m c B : Nat) (d : List UInt8) (hm : m = d.length) (hm6 : m ≤ 65536) (w : World) (hr : Lies w B A d) (hB : B ≤ w.heap.size) :
    Calls Tryz.prog 44 #[.slice A m c] w (GivesE w.heap.size (frame d) 0 w) := by
  have HM := Lib.hid hm
  clear hm
  have h6 : ¬ (65536 < m) := by omega
  go_enter Tryz.func44, Tryz.ntmps44
  go_wp2_with fail
  refine (split_any (base := w.heap.size) _ [] m 4 _ _ rfl rfl (by omega) (by omega) w (Own.nil _ _) (Nat.le_refl _) (by simp)).mono ?_
  rintro e w1 ⟨v1, rfl, ho1, hb1⟩
  rw [List.nil_append] at ho1
  obtain ⟨A1, c1, rfl, _, _, _, hr1, _⟩ := ho1.form
  rw [be_length] at ho1 ⊢
  have hz1 := hb1.size
  have hrd := hr.below (hb1.mono hB)
  have HL2 := Lib.hid (LiesL.two c1 c (be_length 4 m).symm HM.out hr1 (hrd.more (Nat.le_trans hB hz1)) (Nat.le_refl _))
  have HO1 := Lib.hid ho1
  have HRD := Lib.hid hrd
  have HB1 := Lib.hid hb1
  clear ho1 hr1 hrd hb1 hr
  go_wp2_with fail
  refine (sum_any _ 2 2 _ [be 4 m, d] rfl (by omega) (by intro l hl; have h1 := HM.out; simp at hl; rcases hl with rfl | rfl; · rw [be_length]; omega
                                                         · omega) _ HL2.out).mono ?_
  rintro e w2 ⟨rfl, rfl⟩
  clear HL2
  have HS := Lib.hid (show crc [be 4 m, d].flatten = crc (be 4 d.length ++ d) by rw [HM.out]; simp)
  have hlt := crc_lt [be 4 m, d].flatten
  generalize crc [be 4 m, d].flatten = s at HS hlt
  have hlt2 : (s : Int) ≤ 4294967295 := by omega
  go_wp2_with fail
  refine (split_any (base := w.heap.size) _ (be 4 m) s 4 _ _ rfl rfl (by omega) (by omega) _ (HO1.out.alloc _) (by rw [World.size_alloc]; omega) (by rw [be_length]; omega)).mono ?_
  rintro e w2 ⟨v2, rfl, ho2, hb2⟩
  have hbb := (HB1.out.alloc hz1 _).trans hb2
  have hz2 := hbb.size
  have hr2 := (HRD.out.alloc (Nat.le_trans hB hz1) _).below (hb2.mono hB)
  have HBB := Lib.hid hbb
  clear hb2 hbb HO1 HRD HB1
  go_wp2_with (at_builtin; refine wpList_app rfl (.tmp 20) (.tmp 21) rfl rfl ho2 rfl HM.out hr2 ?cs ?cb ?_)
  case cs => have := HM.out; rw [List.length_append, be_length, be_length]; omega
  case cb => exact hz2
  intro v3 w3 ho3 hb3 _
  have HO3 := Lib.hid ho3
  have HB3 := Lib.hid hb3
  clear ho3 hb3 ho2 hr2
  go_wp2
  go_ret2
  refine ⟨_, rfl, ?_, HBB.out.trans HB3.out⟩
  have h3 := HO3.out
  unfold frame
  rw [← HS.out, ← HM.out]
  simpa using h3

end Go.Proofs.YtnjifhbooikdbaaGreatDoor.Co
