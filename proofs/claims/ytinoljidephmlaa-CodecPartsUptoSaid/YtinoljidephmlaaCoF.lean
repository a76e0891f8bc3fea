/- Frame, its reference's, and what every law of layer 2 asks first, as contracts of calls. -/
import Derived.Test.YtinoljidephmlaaCoR
import Derived.Lib.SlBytesConst
namespace Go.Proofs.Ytinoljidephmlaa.Co
open Go.RowKit By CoP

/-- Gives bytes of the call's own, and an error. -/
def GivesE (base : Nat) (l : List UInt8) (er : Int) (w : World) (e : Ending) (w' : World) : Prop := ∃ v, e = .returned (.tuple #[v, .int .i64 er]) ∧ Own base w' v l ∧ Below base w w'
set_option maxHeartbeats 400000 in
theorem frame_large (A : Option Addr) (m c : Nat) (hm : 65536 < m) (w : World) : Calls Try.prog 22 #[.slice A m c] w (GivesE w.heap.size [] 7 w) := by
  go_enter Try.func22, Try.ntmps22
  go_wp2
  go_ret2
  exact ⟨_, rfl, Own.nil _ _, Below.refl _ _⟩
set_option maxHeartbeats 400000 in
theorem rframe_large (A : Option Addr) (m c : Nat) (hm : 65536 < m) (w : World) : Calls Try.prog 23 #[.slice A m c] w (GivesE w.heap.size [] 7 w) := by
  go_enter Try.func23, Try.ntmps23
  go_wp2
  go_ret2
  exact ⟨_, rfl, Own.nil _ _, Below.refl _ _⟩
set_option maxHeartbeats 800000 in
theorem frame_ok (A : Option Addr) (m c B : Nat) (d : List UInt8) (hm : m = d.length) (hm6 : m ≤ 65536) (w : World) (hr : Lies w B A d) (hB : B ≤ w.heap.size) :
    Calls Try.prog 22 #[.slice A m c] w (GivesE w.heap.size (frame d) 0 w) := by
  have HM := Lib.hid hm
  clear hm
  have h6 : ¬ (65536 < m) := by omega
  go_enter Try.func22, Try.ntmps22
  go_wp2_with fail
  refine (split_any (base := w.heap.size) _ [] m 4 _ _ rfl rfl (by omega) (by omega) w (Own.nil _ _) (Nat.le_refl _) (by simp)).mono ?_
  rintro e w1 ⟨v1, rfl, ho1, hb1⟩
  rw [List.nil_append] at ho1
  obtain ⟨A1, c1, rfl, _, _, _, hr1, _⟩ := ho1.form
  rw [be_length] at ho1 ⊢
  have hz1 := hb1.size
  have hrd := hr.below (hb1.mono hB)
  have HL2 := Lib.hid (LiesL.two c1 c (be_length 4 m).symm HM.out hr1 (hrd.more (Nat.le_trans hB hz1)) (Nat.le_refl _))
  have HO1 := Lib.hid ho1
  have HRD := Lib.hid hrd
  have HB1 := Lib.hid hb1
  clear ho1 hr1 hrd hb1 hr
  go_wp2_with fail
  refine (sum_any _ 2 2 _ [be 4 m, d] rfl (by omega) (by intro l hl; have h1 := HM.out; simp at hl; rcases hl with rfl | rfl; · rw [be_length]; omega
                                                         · omega) _ HL2.out).mono ?_
  rintro e w2 ⟨rfl, rfl⟩
  clear HL2
  have HS := Lib.hid (show crc [be 4 m, d].flatten = crc (be 4 d.length ++ d) by rw [HM.out]; simp)
  have hlt := crc_lt [be 4 m, d].flatten
  generalize crc [be 4 m, d].flatten = s at HS hlt
  have hlt2 : (s : Int) ≤ 4294967295 := by omega
  go_wp2_with fail
  refine (split_any (base := w.heap.size) _ (be 4 m) s 4 _ _ rfl rfl (by omega) (by omega) _ (HO1.out.alloc _) (by rw [World.size_alloc]; omega) (by rw [be_length]; omega)).mono ?_
  rintro e w2 ⟨v2, rfl, ho2, hb2⟩
  have hbb := (HB1.out.alloc hz1 _).trans hb2
  have hz2 := hbb.size
  have hr2 := (HRD.out.alloc (Nat.le_trans hB hz1) _).below (hb2.mono hB)
  have HBB := Lib.hid hbb
  clear hb2 hbb HO1 HRD HB1
  go_wp2_with (at_builtin; refine wpList_app rfl (.tmp 20) (.tmp 21) rfl rfl ho2 rfl HM.out hr2 ?cs ?cb ?_)
  case cs => have := HM.out; rw [List.length_append, be_length, be_length]; omega
  case cb => exact hz2
  intro v3 w3 ho3 hb3 _
  have HO3 := Lib.hid ho3
  have HB3 := Lib.hid hb3
  clear ho3 hb3 ho2 hr2
  go_wp2
  go_ret2
  refine ⟨_, rfl, ?_, HBB.out.trans HB3.out⟩
  have h3 := HO3.out
  unfold frame
  rw [← HS.out, ← HM.out]
  simpa using h3

set_option maxHeartbeats 800000 in
theorem rframe_ok (A : Option Addr) (m c B : Nat) (d : List UInt8) (hm : m = d.length) (hm6 : m ≤ 65536) (w : World) (hr : Lies w B A d) (hB : B ≤ w.heap.size) :
    Calls Try.prog 23 #[.slice A m c] w (GivesE w.heap.size (frame d) 0 w) := by
  have HM := Lib.hid hm
  clear hm
  have h6 : ¬ (65536 < m) := by omega
  go_enter Try.func23, Try.ntmps23
  go_wp2_with fail
  refine (four_any m _ rfl (by omega) w).mono ?_
  rintro e w1 ⟨v1, rfl, ho1, hb1⟩
  obtain ⟨A1, c1, rfl, _, _, _, hr1, _⟩ := ho1.form
  rw [be_length] at ho1 ⊢
  have hz1 := hb1.size
  have hrd := hr.below (hb1.mono hB)
  have hoa := Own.made w1 w1.heap.size #[] 0 (Nat.le_refl _) (by decide) rfl
  have HR1 := Lib.hid hr1
  have HRD := Lib.hid hrd
  have HB1 := Lib.hid hb1
  clear ho1 hr1 hrd hb1 hr
  go_wp2_with (at_builtin; refine wpList_app rfl (.tmp 14) (.tmp 15) rfl rfl hoa rfl (be_length 4 m).symm (HR1.out.alloc (Nat.le_refl _) _) ?cs ?cb ?_)
  case cs => rw [be_length]; simp
  case cb => rw [World.size_alloc]; omega
  intro v2 w2 ho2 hb2 _
  have hb2' := ((Below.refl w1.heap.size w1).alloc (Nat.le_refl _) (.cells #[] 5)).trans hb2
  have hz2 := hb2'.size
  have HB2 := Lib.hid hb2'
  clear hb2 hb2' hoa
  go_wp2_with (at_builtin; refine wpList_app rfl (.tmp 16) (.tmp 17) rfl rfl ho2 rfl HM.out (HRD.out.below (HB2.out.mono (by omega))) ?cs3 ?cb3 ?_)
  case cs3 => have := HM.out; rw [be_length]; omega
  case cb3 => exact hz2
  intro v3 w3 ho3 hb3 _
  have HB3 := Lib.hid (HB2.out.trans hb3)
  clear hb3 ho2 HB2
  obtain ⟨A3, c3, rfl, _, _, _, hr3, _⟩ := ho3.form
  have hz3 := HB3.out.size
  have HR3 := Lib.hid hr3
  have HR1b := Lib.hid (HR1.out.below HB3.out)
  have HRDb := Lib.hid (HRD.out.below (HB3.out.mono (by omega)))
  have hoa := Own.made w3 w3.heap.size #[] 0 (Nat.le_refl _) (by decide) rfl
  have hlen3 : (be 4 m ++ d).length = m + 4 := by have := HM.out; rw [List.length_append, be_length]; omega
  have HL3 := Lib.hid hlen3
  rw [hlen3]
  clear hr3 ho3 HR1 HRD hlen3
  go_wp2_with (at_builtin; refine wpList_app rfl (.tmp 19) (.tmp 20) rfl rfl hoa rfl (be_length 4 m).symm (HR1b.out.alloc (by omega) _) ?cs4 ?cb4 ?_)
  case cs4 => rw [be_length]; simp
  case cb4 => rw [World.size_alloc]; omega
  intro v4 w4 ho4 hb4 _
  have hb4' := ((Below.refl w3.heap.size w3).alloc (Nat.le_refl _) (.cells #[] 5)).trans hb4
  have HB4 := Lib.hid hb4'
  have HO4 := Lib.hid ho4
  clear hb4 hb4' hoa ho4
  go_wp2_with fail
  refine (rsum_any A3 (m + 4) c3 _ (be 4 m ++ d) HL3.out.symm (by omega) w4 (HR3.out.below HB4.out)).mono ?_
  rintro e w5 ⟨rfl, rfl⟩
  have HS := Lib.hid (show crc (be 4 m ++ d) = crc (be 4 d.length ++ d) by rw [HM.out])
  have hlt := crc_lt (be 4 m ++ d)
  generalize crc (be 4 m ++ d) = s at HS hlt
  go_wp2_with fail
  refine (four_any s _ rfl hlt w4).mono ?_
  rintro e w5 ⟨v5, rfl, ho5, hb5⟩
  obtain ⟨A5, c5, rfl, _, _, _, hr5, _⟩ := ho5.form
  rw [be_length] at ho5 ⊢
  have hz4 := HB4.out.size
  have hz5 := hb5.size
  have HO5 := Lib.hid (HO4.out.kept hb5 (Nat.le_refl _))
  have HB5 := Lib.hid (HB4.out.trans (hb5.mono hz4))
  have HR5 := Lib.hid hr5
  clear ho5 hr5 hb5 hlt
  go_wp2_with (at_builtin; refine wpList_app rfl (.tmp 21) (.tmp 24) rfl rfl HO5.out rfl (be_length 4 s).symm HR5.out ?cs6 ?cb6 ?_)
  case cs6 => rw [be_length, be_length]; omega
  case cb6 => omega
  intro v6 w6 ho6 hb6 _
  have HB6 := Lib.hid (HB5.out.trans hb6)
  have HO6 := Lib.hid ho6
  clear ho6 hb6 HO5 HR5
  go_wp2_with (at_builtin; refine wpList_app rfl (.tmp 26) (.tmp 27) rfl rfl HO6.out rfl HM.out (HRDb.out.below (HB6.out.mono (by omega))) ?cs7 ?cb7 ?_)
  case cs7 => have := HM.out; rw [List.length_append, be_length, be_length]; omega
  case cb7 => exact HB6.out.size
  intro v7 w7 ho7 hb7 _
  have HB7 := Lib.hid (HB6.out.trans hb7)
  have HO7 := Lib.hid ho7
  clear ho7 hb7
  go_wp2
  go_ret2
  refine ⟨_, rfl, ?_, HB1.out.trans ((HB3.out.mono hz1).trans (HB7.out.mono (by omega)))⟩
  have h3 := HO7.out.more (show w.heap.size ≤ w3.heap.size by omega)
  unfold frame
  rw [← HS.out, ← HM.out]
  simpa using h3

theorem crc_check : crc [49, 50, 51, 52, 53, 54, 55, 56, 57] = 3421780262 := by decide +kernel
theorem num_check : putNum 256 = [2, 1, 0] := by
  have h : lows 256 = [0, 1] := by rw [lows_pos (by omega), lows_pos (by omega), lows_zero]; rfl
  unfold putNum nb
  rw [h]
  rfl
theorem check_bytes : (bvs [49, 50, 51, 52, 53, 54, 55, 56, 57]).toArray = #[Value.int .u8 49, .int .u8 50, .int .u8 51, .int .u8 52, .int .u8 53, .int .u8 54, .int .u8 55, .int .u8 56, .int .u8 57] := rfl
theorem check_lies (w1 : World) : LiesL ((w1.alloc (.cells #[.int .u8 49, .int .u8 50, .int .u8 51, .int .u8 52, .int .u8 53, .int .u8 54, .int .u8 55, .int .u8 56, .int .u8 57] 5 (9, 10))).alloc (.cells #[.slice (some ⟨w1.heap.size, 0, none⟩) 9 9] 22))
    (w1.heap.size + 1 + 1) (some ⟨w1.heap.size + 1, 0, none⟩) [[49, 50, 51, 52, 53, 54, 55, 56, 57]] := by
  have h1 := Lies.litM w1 [49, 50, 51, 52, 53, 54, 55, 56, 57] (9, 10)
  rw [check_bytes] at h1
  have h2 := LiesL.one (n1 := 9) 9 rfl h1 (by rw [World.size_alloc]; exact Nat.le_refl _)
  rw [World.size_alloc] at h2
  exact h2
def True_ (w : World) (e : Ending) (w' : World) : Prop := e = .returned (.bool true) ∧ Below w.heap.size w w'
set_option maxHeartbeats 800000 in
theorem answers_yes (w : World) : Calls Try.prog 13 #[] w (True_ w) := by
  go_enter Try.func13, Try.ntmps13
  go_wp2_with fail
  refine (putNum_any none 0 0 0 [] 256 _ rfl (by omega) rfl w (Lies.empty _ _ _) (Nat.zero_le _) (by simp)).mono ?_
  rintro e w1 ⟨v1, rfl, ho1, hb1⟩
  rw [List.nil_append, num_check] at ho1
  obtain ⟨A1, c1, rfl, _, _, _, hr1, _⟩ := ho1.form
  have ht : (convert 22 9 (.slice A1 3 c1)).run Try.prog w1 = .ok (.string ⟨#[2, 1, 0]⟩) w1 := run_text w1 c1 rfl hr1
  have HB1 := Lib.hid hb1
  clear ho1 hr1 hb1
  have HL := Lib.hid (check_lies w1)
  have qc := fun (w : World) (C : Array Value) (n c : Nat) => Lib.run_convert_bytes_const (P := Try.prog) w 22 5 C n c Try.underlying22 Try.underlying5
  go_wp2_with fail
  refine (sum_any (some ⟨w1.heap.size + 1, 0, none⟩) 1 1 (w1.heap.size + 1 + 1) [[49, 50, 51, 52, 53, 54, 55, 56, 57]] rfl (by omega) (by intro l hl; simp at hl; subst hl; simp) _ HL.out).mono ?_
  rintro e w2 ⟨rfl, rfl⟩
  have hc : crc [[49, 50, 51, 52, 53, 54, 55, 56, 57]].flatten = 3421780262 := crc_check
  rw [hc]
  clear hc HL
  go_wp2
  go_ret
  exact ⟨rfl, (HB1.out.alloc HB1.out.size _).alloc (by rw [World.size_alloc]; have := HB1.out.size; omega) _⟩
end Go.Proofs.Ytinoljidephmlaa.Co
