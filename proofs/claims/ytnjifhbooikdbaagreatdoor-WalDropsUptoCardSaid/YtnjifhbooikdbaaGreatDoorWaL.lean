/- Package wal: calls of a nil log; what every law of layer 5 asks first; the walk of WalNil. -/
import Derived.Test.YtnjifhbooikdbaaGreatDoorWaH
import Derived.Test.YtnjifhbooikdbaaGreatDoorWaK
namespace Go.Proofs.YtnjifhbooikdbaaGreatDoor.Wa
open Go.RowKit Go.Maps By Mp Dk

theorem lread_nil (w : World) : Calls Tryz.prog 12 #[.pointer none, .int .u64 1] w (Ret (.tuple #[.slice none 0 0, .int .i64 1]) w) := by
  go_enter Tryz.func12, Tryz.ntmps12
  go_wp2_with fail
  refine (works_nil _).mono ?_
  rintro e w' ⟨rfl, rfl⟩
  go_wp2
  go_ret2
  exact ⟨rfl, rfl⟩
theorem lappend_nil (A : Option Addr) (n c : Nat) (w : World) : Calls Tryz.prog 7 #[.pointer none, .slice A n c] w (Ret (.int .i64 1) w) := by
  go_enter Tryz.func7, Tryz.ntmps7
  go_wp2_with fail
  refine (works_nil _).mono ?_
  rintro e w' ⟨rfl, rfl⟩
  go_wp2
  go_ret
  exact ⟨rfl, rfl⟩
theorem lcut_nil (w : World) : Calls Tryz.prog 11 #[.pointer none, .int .u64 1] w (Ret (.int .i64 1) w) := by
  go_enter Tryz.func11, Tryz.ntmps11
  go_wp2_with fail
  refine (works_nil _).mono ?_
  rintro e w' ⟨rfl, rfl⟩
  go_wp2
  go_ret
  exact ⟨rfl, rfl⟩
theorem ldrop_nil (w : World) : Calls Tryz.prog 9 #[.pointer none, .int .u64 1] w (Ret (.int .i64 1) w) := by
  go_enter Tryz.func9, Tryz.ntmps9
  go_wp2_with fail
  refine (works_nil _).mono ?_
  rintro e w' ⟨rfl, rfl⟩
  go_wp2
  go_ret
  exact ⟨rfl, rfl⟩
theorem lfirst_nil (w : World) : Calls Tryz.prog 10 #[.pointer none] w (Ret (.int .u64 0) w) := by
  go_enter Tryz.func10, Tryz.ntmps10
  go_wp2
  go_ret
  exact ⟨rfl, rfl⟩
theorem lnext_nil (w : World) : Calls Tryz.prog 8 #[.pointer none] w (Ret (.int .u64 0) w) := by
  go_enter Tryz.func8, Tryz.ntmps8
  go_wp2_with fail
  refine (lfirst_nil _).mono ?_
  rintro e w' ⟨rfl, rfl⟩
  go_wp2
  go_ret
  exact ⟨rfl, rfl⟩
def recs : List Bs := [[7], [8]]
def nm0 : Bs := [119, 46, 48, 46, 49, 46, 98]
def ansS : DS := chgS (newDS 9000) 1 nm0 0 (framesB recs)
theorem ans1 : chgE (newDS 9000) 1 nm0 0 (framesB recs) = 0 := by kernel_rfl
theorem ans2 : readE ansS nm0 = 0 := by kernel_rfl
theorem ans3 : readB ansS nm0 = framesB recs := by kernel_rfl
def ansL : List Seg := [⟨0, 1, true, endsOf 0 recs⟩]
theorem recs_len : (framesB recs).length = 18 := by kernel_rfl
theorem ans_hk : ∀ (k : Nat) (sg : Seg), ansL[k]? = some sg → sg.first ≤ 2 → (∀ (b : Nat) (u : Seg), k < b → ansL[b]? = some u → 2 < u.first) → 2 ≤ sg.next ∧ ∃ (B : Bs) (U : Nat), readE ansS sg.name = 0 ∧ readB ansS sg.name = B ∧ B.length ≤ 140737488355328 ∧ sg.start 2 ≤ B.length ∧ CoP.unR (B.drop (sg.start 2)) = ([8], U, 0) := by
  intro k sg hk _ _
  cases k with
  | succ k => simp [ansL] at hk
  | zero =>
    simp only [ansL, List.getElem?_cons_zero, Option.some.injEq] at hk
    subst hk
    have hn : Seg.name ⟨0, 1, true, endsOf 0 recs⟩ = nm0 := seg0_name
    rw [hn]
    refine ⟨by show 2 ≤ 1 + (endsOf 0 recs).length; rw [endsOf_length]; decide, framesB recs, (CoP.frame [8]).length, ans2, ans3, by rw [recs_len]; decide, by rw [recs_len]; decide, ?_⟩
    have hst : Seg.start ⟨0, 1, true, endsOf 0 recs⟩ 2 = 9 := rfl
    rw [hst]
    have hd : (framesB recs).drop 9 = CoP.frame [8] ++ [] := by
      show (CoP.frame [7] ++ (CoP.frame [8] ++ [])).drop 9 = _
      rw [List.drop_append_of_le_length (by rw [CoP.frame_length]; decide)]
      have h1 : (CoP.frame [7]).drop 9 = [] := List.drop_eq_nil_of_le (by rw [CoP.frame_length]; decide)
      rw [h1]
      rfl
    rw [hd]
    exact CoP.unR_frame [8] (by decide) []
/-- Three boxes: two records and the list of them. -/
theorem recs_lie (w : World) : LiesL (((w.alloc (.cells #[.int .u8 7] 5)).alloc (.cells #[.int .u8 8] 5)).alloc (.cells #[.slice (some ⟨w.heap.size, 0, none⟩) 1 1, .slice (some ⟨w.heap.size + 1, 0, none⟩) 1 1] 32)) (w.heap.size + 3) (some ⟨w.heap.size + 2, 0, none⟩) recs := by
  have z1 : (w.alloc (.cells #[.int .u8 7] 5)).heap.size = w.heap.size + 1 := World.size_alloc _ _
  have z2 : ((w.alloc (.cells #[.int .u8 7] 5)).alloc (.cells #[.int .u8 8] 5)).heap.size = w.heap.size + 2 := by rw [World.size_alloc, z1]
  have r1 : ((w.alloc (.cells #[.int .u8 7] 5)).alloc (.cells #[.int .u8 8] 5)).heap[w.heap.size]? = some (.cells #[.int .u8 7] 5) := (heap_alloc_old _ _ (by rw [z1]; omega)).trans (heap_alloc_new w _)
  have r2 : ((w.alloc (.cells #[.int .u8 7] 5)).alloc (.cells #[.int .u8 8] 5)).heap[w.heap.size + 1]? = some (.cells #[.int .u8 8] 5) := by
    have h := heap_alloc_new (w.alloc (.cells #[.int .u8 7] 5)) (.cells #[.int .u8 8] 5)
    rwa [z1] at h
  have h := LiesL.two (w := (w.alloc (.cells #[.int .u8 7] 5)).alloc (.cells #[.int .u8 8] 5)) (B := w.heap.size + 2) (A1 := some ⟨w.heap.size, 0, none⟩) (A2 := some ⟨w.heap.size + 1, 0, none⟩) (n1 := 1) (n2 := 1) 1 1 (l1 := [7]) (l2 := [8]) rfl rfl (fun _ => ⟨w.heap.size, 0, rfl, by omega, fun j x hx => by
    cases j with
    | zero =>
      injection hx with hx
      subst hx
      rw [cell_of_row _ _ _ _ _ _ r1]
      rfl
    | succ j => simp at hx⟩) (fun _ => ⟨w.heap.size + 1, 0, rfl, by omega, fun j x hx => by
    cases j with
    | zero =>
      injection hx with hx
      subst hx
      rw [cell_of_row _ _ _ _ _ _ r2]
      rfl
    | succ j => simp at hx⟩) (by rw [z2]; omega)
  rw [z2] at h
  exact h
set_option maxRecDepth 100000 in
set_option maxHeartbeats 4000000 in
theorem answers_any (w : World) : Calls Tryz.prog 6 #[] w (True_ w) := by
  have HN := Lib.hid (new_any 9000 w rfl)
  have q1 := logTest
  go_enter Tryz.func6, Tryz.ntmps6
  go_wp2_with fail
  refine HN.out.mono ?_
  rintro e w1 ⟨d, S, rfl, hd1, hS1, hb1⟩
  have HD1 := Lib.hid hd1
  have HS1 := Lib.hid hS1
  have HB1 := Lib.hid hb1
  have HOP := Lib.hid (open_new d (newDS 9000) S w1 hd1 rfl (by decide) rfl)
  clear HN hd1 hS1 hb1
  go_wp2_with fail
  refine HOP.out.mono ?_
  rintro e w2 ⟨g, T, rfl, hl2, hT2, hb2⟩
  have HL2 := Lib.hid hl2
  have HT2 := Lib.hid hT2
  have HB2 := Lib.hid hb2
  clear HOP hl2 hT2 hb2
  go_upto_region 5 with fail
  obtain ⟨w3, hw3⟩ : ∃ w3, w3 = (((w2.alloc (.cells #[.int .u8 7] 5)).alloc (.cells #[.int .u8 8] 5)).alloc (.cells #[.slice (some ⟨w2.heap.size, 0, none⟩) 1 1, .slice (some ⟨w2.heap.size + 1, 0, none⟩) 1 1] 32)) := ⟨_, rfl⟩
  have hb3 : Below w2.heap.size w2 w3 := by rw [hw3]; exact bAlloc (bAlloc (bAlloc (Below.refl _ _) _) _) _
  have hz3 : w3.heap.size = w2.heap.size + 3 := by rw [hw3, World.size_alloc, World.size_alloc, World.size_alloc]
  have hr3 : LiesL w3 w3.heap.size (some ⟨w2.heap.size + 2, 0, none⟩) recs := by
    have h := recs_lie w2
    rw [← hw3] at h
    rw [hz3]
    exact h
  have hl3 : LogW w3 g d [] false T (.slice none 0 0) [] := HL2.out.keep (fun b hb => hb3.block b (HL2.out.lt b hb)) hb3.size
  have hd3 := HD1.out.below (By.ext HB2.out hb3)
  have happ := append_first g d (newDS 9000) S T (some ⟨w2.heap.size + 2, 0, none⟩) 2 recs w3 hl3 hd3 (fun b ht hs => by have := HT2.out b ht; have := (dlt HD1.out).1 b hs; omega) (by decide) hr3 (fun l hl => by
    simp only [recs, List.mem_cons, List.not_mem_nil, or_false] at hl
    rcases hl with rfl | rfl <;> decide) (by decide) (by decide) (by rw [recs_len]; decide) (by rw [seg0_name]; exact ans1)
  rw [seg0_name] at happ
  have HAP := Lib.hid (show Calls Tryz.prog 7 #[.pointer (some ⟨g, 0, none⟩), .slice (some ⟨w2.heap.size + 2, 0, none⟩) 2 2] w3 (AppPost g d ansL ansS S T w3) from happ)
  have HB3 := Lib.hid (By.ext HB1.out (By.ext HB2.out hb3))
  have HW3 := Lib.hid hw3
  have HST := Lib.hid (show ∀ b, S b ∨ T b → w.heap.size ≤ b from fun b hb => hb.elim (HS1.out b) (fun h => Nat.le_trans HB1.out.size (HT2.out b h)))
  clear hb3 hz3 hr3 hl3 hd3 happ hw3 HL2 HT2 HD1 HS1 HB1 HB2
  go_wp2_with fail
  rw [← HW3.out]
  clear HW3
  refine HAP.out.mono ?_
  rintro e w4 ⟨rfl, S4, T4, hd4, hl4, -, hS4, hT4, hk4⟩
  have HD4 := Lib.hid hd4
  have HL4 := Lib.hid hl4
  have HB4 := Lib.hid (show Below w.heap.size w w4 from HB3.out.trans (hk4.below HB3.out.size HST.out))
  have HRD := Lib.hid (lread_any g d 2 ansS S4 T4 ansL [8] w4 hl4 hd4 (fun a b s u hab hs hu => by
    cases a with
    | succ a => simp [ansL] at hs
    | zero =>
      cases b with
      | succ b => simp [ansL] at hu
      | zero =>
        rw [hs] at hu
        injection hu with hu
        exact hu ▸ Nat.le_refl _) (by decide) (by decide) (by show 2 < 1 + (endsOf 0 recs).length; rw [endsOf_length]; decide) ans_hk)
  clear hd4 hl4 hS4 hT4 hk4 HAP HB3 HST
  go_wp2_with fail
  refine HRD.out.mono ?_
  rintro e w5 ⟨vr, rfl, hor, hb5⟩
  obtain ⟨Ar, cr, hvr, -, -, -, hlr, -⟩ := hor.form
  subst hvr
  have HB5 := Lib.hid (By.ext HB4.out hb5)
  have HNX := Lib.hid (next_any g d ansL false T4 w5 (HL4.out.below hb5))
  rw [show nextS ansL = 3 from rfl] at HNX
  have htx := run_text w5 (n := 1) cr rfl hlr
  have htl : ((str [8]).toList == [8]) = true := by rw [str_toList]; rfl
  clear hor hb5 hlr HRD
  go_wp2_with fail
  refine HNX.out.mono ?_
  rintro e w6 ⟨rfl, hb6⟩
  have HB6 := Lib.hid (By.ext HB5.out hb6)
  clear hb6 htx htl
  go_wp2
  go_ret
  exact ⟨rfl, HB6.out⟩
end Go.Proofs.YtnjifhbooikdbaaGreatDoor.Wa
