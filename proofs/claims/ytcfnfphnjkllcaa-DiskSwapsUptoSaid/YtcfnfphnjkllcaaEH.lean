/- The laws' begin, small, and act but for Put, as contracts of calls. | The laws' act: Sync, Read, Room, Fuse, Fall and nothing, as contracts of calls. | The laws' act: Put, as a contract of a call; act as a whole. -/
import Derived.Test.YtcfnfphnjkllcaaLaA
/-! The laws' begin, small, and act but for Put, as contracts of calls. -/
namespace Go.Proofs.Ytcfnfphnjkllcaa.Dk
open Go.RowKit Go.Maps By Mp

set_option maxRecDepth 100000 in
set_option maxHeartbeats 4000000 in
theorem act_cut (g r : Nat) (s : DS) (S T M : Nat → Prop) (a : A1) (A : Option Addr) (c : Nat) (w : World) (hp : PairAt w g r s S T M) (hcnt : s.cnt ≤ 68719476736) (hnl : a.name.length ≤ 140737488355328) (hk : a.kind = 2) :
    Calls Try.prog 14 #[.pointer (some ⟨g, 0, none⟩), .pointer (some ⟨r, 0, none⟩), aV a (A, c)] w (PStep (.bool true) g r (actS s a) S T M w) := by
  obtain ⟨kd, nm, n, d, m⟩ := a
  have hk : kd = 2 := hk
  subst hk
  have hst : actS s ⟨2, nm, n, d, m⟩ = chgS s 2 nm n [] := by simp [actS]
  rw [hst]
  clear hst
  have hcnt : s.cnt ≤ 68719476736 := hcnt
  show Calls Try.prog 14 #[.pointer (some ⟨g, 0, none⟩), .pointer (some ⟨r, 0, none⟩), .agg #[.int .i64 2, .string (str nm), .int .i64 n, .slice A d.length c, .int .u64 (m : Int)]] w _
  obtain ⟨w0, hw0⟩ : ∃ w0, w0 = w.alloc (.cells #[.int .i64 2, .string (str nm), .int .i64 n, .slice A d.length c, .int .u64 (m : Int)] tAct) := ⟨_, rfl⟩
  have hb0 : Below w.heap.size w w0 := by rw [hw0]; exact (Below.refl _ _).alloc (Nat.le_refl _) _
  have hxr : w0.heap[w.heap.size]? = some (.cells #[.int .i64 2, .string (str nm), .int .i64 n, .slice A d.length c, .int .u64 (m : Int)] tAct (0, 0)) := by rw [hw0]; exact heap_alloc_new w _
  have hx0 : w0.cell? ⟨w.heap.size, 0, none⟩ = some (.int .i64 2) := by rw [cell_of_row w0 _ 0 _ _ _ hxr]; rfl
  have HALL := Lib.hid (fun (w' : World) (h : w'.heap[w.heap.size]? = some (.cells #[.int .i64 2, .string (str nm), .int .i64 n, .slice A d.length c, .int .u64 (m : Int)] tAct (0, 0))) => (show w'.cell? ⟨w.heap.size, 1, none⟩ = some (.string (str nm)) ∧ w'.cell? ⟨w.heap.size, 2, none⟩ = some (.int .i64 n) ∧ w'.cell? ⟨w.heap.size, 4, none⟩ = some (.int .u64 (m : Int)) from ⟨by rw [cell_of_row w' _ 1 _ _ _ h]; rfl, by rw [cell_of_row w' _ 2 _ _ _ h]; rfl, by rw [cell_of_row w' _ 4 _ _ _ h]; rfl⟩))
  have HP0 := Lib.hid (hp.below hb0)
  have HL := Lib.hid (show ∀ b, S b ∨ T b → b < w.heap.size from fun b h => h.elim (hp.d.lt.1 b) (hp.r.lt.1 b))
  have HMT := Lib.hid hp.r.lt.2.1
  have HXR := Lib.hid hxr
  have HB0 := Lib.hid hb0
  have HW0 := Lib.hid hw0
  have hnl : nm.length ≤ 140737488355328 := hnl
  obtain ⟨er, her⟩ : ∃ er, chgE s 2 nm n [] = er := ⟨_, rfl⟩
  obtain ⟨s2, hs2⟩ : ∃ s2, chgS s 2 nm n [] = s2 := ⟨_, rfl⟩
  rw [hs2]
  have HER := Lib.hid her
  have HS2 := Lib.hid hs2
  clear her hs2
  clear hp hb0 hxr
  go_enter Try.func14, Try.ntmps14
  go_upto_region 1 with fail
  rw [← HW0.out]
  clear hw0 HW0
  have hca := cut_any g s S nm n w0.drew (HP0.out.below (Below.refl _ _).drew).d hcnt hnl
  rw [HER.out, HS2.out] at hca
  have HCA := Lib.hid hca
  clear hca
  go_upto_region 5 with fail
  go_region_held3 (fun w' => w'.cell? ⟨w.heap.size, 1, none⟩ = some (.string (str nm)) ∧ w'.cell? ⟨w.heap.size, 2, none⟩ = some (.int .i64 n) ∧ w'.cell? ⟨w.heap.size, 4, none⟩ = some (.int .u64 (m : Int)))
    (first
      | assumption
      | exact HALL.out _ HXR.out
      | exact HALL.out _ HX6.out
      | exact HALL.out _ HX7.out)
    (first
      | (go_at_call 28; refine HCA.out.mono ?_; rintro e w6 ⟨rfl, S6, hd6, hS6, hk6⟩
         have HX6 := Lib.hid ((hk6.block _ (row_lt HXR.out) (fun h => Nat.lt_irrefl _ (HL.out _ (.inl h)))).trans HXR.out)
         have hch := rchange_any r s T M 2 nm n [] none 0 0 w6 (HP0.out.r.keep (fun b hb => (hk6.block b (HP0.out.r.lt.1 b hb) (fun h => HP0.out.sep b h hb))) hk6.size) hcnt (by omega) (fun _ => rfl) (by simp) hnl rfl (Nat.le_refl _) (fun _ => False) (fun _ h => h.elim) lies_nil
         rw [HER.out, HS2.out] at hch
         unfold wV at hch
         have HCH := Lib.hid hch
         have HD6 := Lib.hid hd6
         have HS6 := Lib.hid hS6
         have HK6 := Lib.hid hk6
         clear hd6 hS6 hk6 hch)
      | (go_at_call 35; refine HCH.out.mono ?_; rintro e w7 ⟨rfl, T7, M7, hr7, hT7, hM7, hk7⟩
         have HX7 := Lib.hid ((hk7.block _ (row_lt HX6.out) (fun h => Nat.lt_irrefl _ (HL.out _ (.inr (HMT.out _ h))))).trans HX6.out)
         have HST := Lib.hid (pstep_dr (val := .bool true) HP0.out (Below.refl _ w0).drew HD6.out HS6.out HK6.out hr7 hT7 hM7 hk7)
         clear hr7 hT7 hM7 hk7))
  go_wp2
  go_ret
  exact HST.out.from_ HB0.out
set_option maxRecDepth 100000 in
set_option maxHeartbeats 4000000 in
theorem act_rem (g r : Nat) (s : DS) (S T M : Nat → Prop) (a : A1) (A : Option Addr) (c : Nat) (w : World) (hp : PairAt w g r s S T M) (hcnt : s.cnt ≤ 68719476736) (hnl : a.name.length ≤ 140737488355328) (hk : a.kind = 3) :
    Calls Try.prog 14 #[.pointer (some ⟨g, 0, none⟩), .pointer (some ⟨r, 0, none⟩), aV a (A, c)] w (PStep (.bool true) g r (actS s a) S T M w) := by
  obtain ⟨kd, nm, n, d, m⟩ := a
  have hk : kd = 3 := hk
  subst hk
  have hst : actS s ⟨3, nm, n, d, m⟩ = chgS s 3 nm 0 [] := by simp [actS]
  rw [hst]
  clear hst
  have hcnt : s.cnt ≤ 68719476736 := hcnt
  show Calls Try.prog 14 #[.pointer (some ⟨g, 0, none⟩), .pointer (some ⟨r, 0, none⟩), .agg #[.int .i64 3, .string (str nm), .int .i64 n, .slice A d.length c, .int .u64 (m : Int)]] w _
  obtain ⟨w0, hw0⟩ : ∃ w0, w0 = w.alloc (.cells #[.int .i64 3, .string (str nm), .int .i64 n, .slice A d.length c, .int .u64 (m : Int)] tAct) := ⟨_, rfl⟩
  have hb0 : Below w.heap.size w w0 := by rw [hw0]; exact (Below.refl _ _).alloc (Nat.le_refl _) _
  have hxr : w0.heap[w.heap.size]? = some (.cells #[.int .i64 3, .string (str nm), .int .i64 n, .slice A d.length c, .int .u64 (m : Int)] tAct (0, 0)) := by rw [hw0]; exact heap_alloc_new w _
  have hx0 : w0.cell? ⟨w.heap.size, 0, none⟩ = some (.int .i64 3) := by rw [cell_of_row w0 _ 0 _ _ _ hxr]; rfl
  have HALL := Lib.hid (fun (w' : World) (h : w'.heap[w.heap.size]? = some (.cells #[.int .i64 3, .string (str nm), .int .i64 n, .slice A d.length c, .int .u64 (m : Int)] tAct (0, 0))) => (show w'.cell? ⟨w.heap.size, 1, none⟩ = some (.string (str nm)) ∧ w'.cell? ⟨w.heap.size, 2, none⟩ = some (.int .i64 n) ∧ w'.cell? ⟨w.heap.size, 4, none⟩ = some (.int .u64 (m : Int)) from ⟨by rw [cell_of_row w' _ 1 _ _ _ h]; rfl, by rw [cell_of_row w' _ 2 _ _ _ h]; rfl, by rw [cell_of_row w' _ 4 _ _ _ h]; rfl⟩))
  have HP0 := Lib.hid (hp.below hb0)
  have HL := Lib.hid (show ∀ b, S b ∨ T b → b < w.heap.size from fun b h => h.elim (hp.d.lt.1 b) (hp.r.lt.1 b))
  have HMT := Lib.hid hp.r.lt.2.1
  have HXR := Lib.hid hxr
  have HB0 := Lib.hid hb0
  have HW0 := Lib.hid hw0
  have hnl : nm.length ≤ 140737488355328 := hnl
  obtain ⟨er, her⟩ : ∃ er, chgE s 3 nm 0 [] = er := ⟨_, rfl⟩
  obtain ⟨s2, hs2⟩ : ∃ s2, chgS s 3 nm 0 [] = s2 := ⟨_, rfl⟩
  rw [hs2]
  have HER := Lib.hid her
  have HS2 := Lib.hid hs2
  clear her hs2
  clear hp hb0 hxr
  go_enter Try.func14, Try.ntmps14
  go_upto_region 1 with fail
  rw [← HW0.out]
  clear hw0 HW0
  have hca := remove_any g s S nm w0.drew (HP0.out.below (Below.refl _ _).drew).d hcnt hnl
  rw [HER.out, HS2.out] at hca
  have HCA := Lib.hid hca
  clear hca
  go_upto_region 7 with fail
  go_region_held3 (fun w' => w'.cell? ⟨w.heap.size, 1, none⟩ = some (.string (str nm)) ∧ w'.cell? ⟨w.heap.size, 2, none⟩ = some (.int .i64 n) ∧ w'.cell? ⟨w.heap.size, 4, none⟩ = some (.int .u64 (m : Int)))
    (first
      | assumption
      | exact HALL.out _ HXR.out
      | exact HALL.out _ HX6.out
      | exact HALL.out _ HX7.out)
    (first
      | (go_at_call 29; refine HCA.out.mono ?_; rintro e w6 ⟨rfl, S6, hd6, hS6, hk6⟩
         have HX6 := Lib.hid ((hk6.block _ (row_lt HXR.out) (fun h => Nat.lt_irrefl _ (HL.out _ (.inl h)))).trans HXR.out)
         have hch := rchange_any r s T M 3 nm 0 [] none 0 0 w6 (HP0.out.r.keep (fun b hb => (hk6.block b (HP0.out.r.lt.1 b hb) (fun h => HP0.out.sep b h hb))) hk6.size) hcnt (by omega) (fun _ => rfl) (by simp) hnl rfl (Nat.le_refl _) (fun _ => False) (fun _ h => h.elim) lies_nil
         rw [HER.out, HS2.out] at hch
         unfold wV at hch
         have HCH := Lib.hid hch
         have HD6 := Lib.hid hd6
         have HS6 := Lib.hid hS6
         have HK6 := Lib.hid hk6
         clear hd6 hS6 hk6 hch)
      | (go_at_call 35; refine HCH.out.mono ?_; rintro e w7 ⟨rfl, T7, M7, hr7, hT7, hM7, hk7⟩
         have HX7 := Lib.hid ((hk7.block _ (row_lt HX6.out) (fun h => Nat.lt_irrefl _ (HL.out _ (.inr (HMT.out _ h))))).trans HX6.out)
         have HST := Lib.hid (pstep_dr (val := .bool true) HP0.out (Below.refl _ w0).drew HD6.out HS6.out HK6.out hr7 hT7 hM7 hk7)
         clear hr7 hT7 hM7 hk7))
  go_wp2
  go_ret
  exact HST.out.from_ HB0.out
end Go.Proofs.Ytcfnfphnjkllcaa.Dk

/-! The laws' act: Sync, Read, Room, Fuse, Fall and nothing, as contracts of calls. -/
namespace Go.Proofs.Ytcfnfphnjkllcaa.Dk
open Go.RowKit Go.Maps By Mp

set_option maxRecDepth 100000 in
set_option maxHeartbeats 4000000 in
theorem act_sync (g r : Nat) (s : DS) (S T M : Nat → Prop) (a : A1) (A : Option Addr) (c : Nat) (w : World) (hp : PairAt w g r s S T M) (hcnt : s.cnt ≤ 68719476736) (hk : a.kind = 4) :
    Calls Try.prog 14 #[.pointer (some ⟨g, 0, none⟩), .pointer (some ⟨r, 0, none⟩), aV a (A, c)] w (PStep (.bool true) g r (actS s a) S T M w) := by
  obtain ⟨kd, nm, n, d, m⟩ := a
  have hk : kd = 4 := hk
  subst hk
  have hst : actS s ⟨4, nm, n, d, m⟩ = synS s := by simp [actS]
  rw [hst]
  clear hst
  have hcnt : s.cnt ≤ 68719476736 := hcnt
  show Calls Try.prog 14 #[.pointer (some ⟨g, 0, none⟩), .pointer (some ⟨r, 0, none⟩), .agg #[.int .i64 4, .string (str nm), .int .i64 n, .slice A d.length c, .int .u64 (m : Int)]] w _
  obtain ⟨w0, hw0⟩ : ∃ w0, w0 = w.alloc (.cells #[.int .i64 4, .string (str nm), .int .i64 n, .slice A d.length c, .int .u64 (m : Int)] tAct) := ⟨_, rfl⟩
  have hb0 : Below w.heap.size w w0 := by rw [hw0]; exact (Below.refl _ _).alloc (Nat.le_refl _) _
  have hxr : w0.heap[w.heap.size]? = some (.cells #[.int .i64 4, .string (str nm), .int .i64 n, .slice A d.length c, .int .u64 (m : Int)] tAct (0, 0)) := by rw [hw0]; exact heap_alloc_new w _
  have hx0 : w0.cell? ⟨w.heap.size, 0, none⟩ = some (.int .i64 4) := by rw [cell_of_row w0 _ 0 _ _ _ hxr]; rfl
  have HALL := Lib.hid (fun (w' : World) (h : w'.heap[w.heap.size]? = some (.cells #[.int .i64 4, .string (str nm), .int .i64 n, .slice A d.length c, .int .u64 (m : Int)] tAct (0, 0))) => (show w'.cell? ⟨w.heap.size, 1, none⟩ = some (.string (str nm)) ∧ w'.cell? ⟨w.heap.size, 2, none⟩ = some (.int .i64 n) ∧ w'.cell? ⟨w.heap.size, 4, none⟩ = some (.int .u64 (m : Int)) from ⟨by rw [cell_of_row w' _ 1 _ _ _ h]; rfl, by rw [cell_of_row w' _ 2 _ _ _ h]; rfl, by rw [cell_of_row w' _ 4 _ _ _ h]; rfl⟩))
  have HP0 := Lib.hid (hp.below hb0)
  have HL := Lib.hid (show ∀ b, S b ∨ T b → b < w.heap.size from fun b h => h.elim (hp.d.lt.1 b) (hp.r.lt.1 b))
  have HMT := Lib.hid hp.r.lt.2.1
  have HXR := Lib.hid hxr
  have HB0 := Lib.hid hb0
  have HW0 := Lib.hid hw0
  clear hp hb0 hxr
  go_enter Try.func14, Try.ntmps14
  go_upto_region 1 with fail
  rw [← HW0.out]
  clear hw0 HW0
  have HCA := Lib.hid (sync_any g s S w0 HP0.out.d hcnt)
  obtain ⟨er, her⟩ : ∃ er, synE s = er := ⟨_, rfl⟩
  rw [her] at HCA
  have HER := Lib.hid her
  clear her
  go_wp2_with (first
    | (go_at_call 19; refine HCA.out.mono ?_; rintro e w6 ⟨rfl, S6, hd6, hS6, hk6⟩
       have hch := rsync_any r s T M w6 (HP0.out.r.keep (fun b hb => (hk6.block b (HP0.out.r.lt.1 b hb) (fun h => HP0.out.sep b h hb))) hk6.size) hcnt
       rw [HER.out] at hch
       have HCH := Lib.hid hch
       have HD6 := Lib.hid hd6
       have HS6 := Lib.hid hS6
       have HK6 := Lib.hid hk6
       clear hd6 hS6 hk6 hch)
    | (go_at_call 25; refine HCH.out.mono ?_; rintro e w7 ⟨rfl, T7, M7, hr7, hT7, hM7, hk7⟩
       have HST := Lib.hid (pstep_dr (val := .bool true) HP0.out (Below.refl _ w0) HD6.out HS6.out HK6.out hr7 hT7 hM7 hk7)
       clear hr7 hT7 hM7 hk7))
  go_ret
  exact HST.out.from_ HB0.out
set_option maxRecDepth 100000 in
set_option maxHeartbeats 4000000 in
theorem act_fall (g r : Nat) (s : DS) (S T M : Nat → Prop) (a : A1) (A : Option Addr) (c : Nat) (w : World) (hp : PairAt w g r s S T M) (hcnt : s.cnt ≤ 68719476736) (hm : a.mask < 18446744073709551616) (hk : a.kind = 8) :
    Calls Try.prog 14 #[.pointer (some ⟨g, 0, none⟩), .pointer (some ⟨r, 0, none⟩), aV a (A, c)] w (PStep (.bool true) g r (actS s a) S T M w) := by
  obtain ⟨kd, nm, n, d, m⟩ := a
  have hk : kd = 8 := hk
  subst hk
  have hst : actS s ⟨8, nm, n, d, m⟩ = falS s m n := by simp [actS]
  rw [hst]
  clear hst
  have hcnt : s.cnt ≤ 68719476736 := hcnt
  show Calls Try.prog 14 #[.pointer (some ⟨g, 0, none⟩), .pointer (some ⟨r, 0, none⟩), .agg #[.int .i64 8, .string (str nm), .int .i64 n, .slice A d.length c, .int .u64 (m : Int)]] w _
  obtain ⟨w0, hw0⟩ : ∃ w0, w0 = w.alloc (.cells #[.int .i64 8, .string (str nm), .int .i64 n, .slice A d.length c, .int .u64 (m : Int)] tAct) := ⟨_, rfl⟩
  have hb0 : Below w.heap.size w w0 := by rw [hw0]; exact (Below.refl _ _).alloc (Nat.le_refl _) _
  have hxr : w0.heap[w.heap.size]? = some (.cells #[.int .i64 8, .string (str nm), .int .i64 n, .slice A d.length c, .int .u64 (m : Int)] tAct (0, 0)) := by rw [hw0]; exact heap_alloc_new w _
  have hx0 : w0.cell? ⟨w.heap.size, 0, none⟩ = some (.int .i64 8) := by rw [cell_of_row w0 _ 0 _ _ _ hxr]; rfl
  have HALL := Lib.hid (fun (w' : World) (h : w'.heap[w.heap.size]? = some (.cells #[.int .i64 8, .string (str nm), .int .i64 n, .slice A d.length c, .int .u64 (m : Int)] tAct (0, 0))) => (show w'.cell? ⟨w.heap.size, 1, none⟩ = some (.string (str nm)) ∧ w'.cell? ⟨w.heap.size, 2, none⟩ = some (.int .i64 n) ∧ w'.cell? ⟨w.heap.size, 4, none⟩ = some (.int .u64 (m : Int)) from ⟨by rw [cell_of_row w' _ 1 _ _ _ h]; rfl, by rw [cell_of_row w' _ 2 _ _ _ h]; rfl, by rw [cell_of_row w' _ 4 _ _ _ h]; rfl⟩))
  have HP0 := Lib.hid (hp.below hb0)
  have HL := Lib.hid (show ∀ b, S b ∨ T b → b < w.heap.size from fun b h => h.elim (hp.d.lt.1 b) (hp.r.lt.1 b))
  have HMT := Lib.hid hp.r.lt.2.1
  have HXR := Lib.hid hxr
  have HB0 := Lib.hid hb0
  have HW0 := Lib.hid hw0
  have hm : m < 18446744073709551616 := hm
  clear hp hb0 hxr
  go_enter Try.func14, Try.ntmps14
  go_upto_region 1 with fail
  rw [← HW0.out]
  clear hw0 HW0
  have HCA := Lib.hid (rfall_any r s T M m n w0 HP0.out.r hcnt)
  have hA := HALL.out w0 HXR.out
  obtain ⟨-, ha2, ha4⟩ := hA
  go_wp2_with (first
    | (go_at_call 37; refine HCA.out.mono ?_; rintro e w6 ⟨rfl, T6, M6, hr6, hT6, hM6, hk6⟩
       have hx6 := (hk6.block _ (row_lt HXR.out) (fun h => Nat.lt_irrefl _ (HL.out _ (.inr (HMT.out _ h))))).trans HXR.out
       obtain ⟨-, hb2, hb4⟩ := HALL.out w6 hx6
       have HCH := Lib.hid (fall_any g s S m n w6 (HP0.out.d.keep (fun b hb => hk6.block b (HP0.out.d.lt.1 b hb) (fun h => HP0.out.sep b hb (HMT.out _ h))) hk6.size) hm hcnt)
       have HR6 := Lib.hid hr6
       have HT6 := Lib.hid hT6
       have HM6 := Lib.hid hM6
       have HK6 := Lib.hid hk6
       clear hr6 hT6 hM6 hk6 hx6)
    | (go_at_call 20; refine HCH.out.mono ?_; rintro e w7 ⟨rfl, S7, hd7, hS7, hk7⟩
       have HST := Lib.hid (pstep_rd (val := .bool true) HP0.out (Below.refl _ w0) HR6.out HT6.out HM6.out HK6.out hd7 hS7 hk7)
       clear hd7 hS7 hk7))
  go_ret
  exact HST.out.from_ HB0.out
set_option maxRecDepth 100000 in
set_option maxHeartbeats 4000000 in
theorem act_read (g r : Nat) (s : DS) (S T M : Nat → Prop) (a : A1) (A : Option Addr) (c : Nat) (w : World) (hp : PairAt w g r s S T M) (hcnt : s.cnt ≤ 68719476736) (hnl : a.name.length ≤ 140737488355328) (hk : a.kind = 5) :
    Calls Try.prog 14 #[.pointer (some ⟨g, 0, none⟩), .pointer (some ⟨r, 0, none⟩), aV a (A, c)] w (PStep (.bool true) g r (actS s a) S T M w) := by
  obtain ⟨kd, nm, n, d, m⟩ := a
  have hk : kd = 5 := hk
  subst hk
  have hst : actS s ⟨5, nm, n, d, m⟩ = s := by simp [actS]
  rw [hst]
  clear hst
  have hcnt : s.cnt ≤ 68719476736 := hcnt
  show Calls Try.prog 14 #[.pointer (some ⟨g, 0, none⟩), .pointer (some ⟨r, 0, none⟩), .agg #[.int .i64 5, .string (str nm), .int .i64 n, .slice A d.length c, .int .u64 (m : Int)]] w _
  obtain ⟨w0, hw0⟩ : ∃ w0, w0 = w.alloc (.cells #[.int .i64 5, .string (str nm), .int .i64 n, .slice A d.length c, .int .u64 (m : Int)] tAct) := ⟨_, rfl⟩
  have hb0 : Below w.heap.size w w0 := by rw [hw0]; exact (Below.refl _ _).alloc (Nat.le_refl _) _
  have hxr : w0.heap[w.heap.size]? = some (.cells #[.int .i64 5, .string (str nm), .int .i64 n, .slice A d.length c, .int .u64 (m : Int)] tAct (0, 0)) := by rw [hw0]; exact heap_alloc_new w _
  have hx0 : w0.cell? ⟨w.heap.size, 0, none⟩ = some (.int .i64 5) := by rw [cell_of_row w0 _ 0 _ _ _ hxr]; rfl
  have HALL := Lib.hid (fun (w' : World) (h : w'.heap[w.heap.size]? = some (.cells #[.int .i64 5, .string (str nm), .int .i64 n, .slice A d.length c, .int .u64 (m : Int)] tAct (0, 0))) => (show w'.cell? ⟨w.heap.size, 1, none⟩ = some (.string (str nm)) ∧ w'.cell? ⟨w.heap.size, 2, none⟩ = some (.int .i64 n) ∧ w'.cell? ⟨w.heap.size, 4, none⟩ = some (.int .u64 (m : Int)) from ⟨by rw [cell_of_row w' _ 1 _ _ _ h]; rfl, by rw [cell_of_row w' _ 2 _ _ _ h]; rfl, by rw [cell_of_row w' _ 4 _ _ _ h]; rfl⟩))
  have HP0 := Lib.hid (hp.below hb0)
  have HL := Lib.hid (show ∀ b, S b ∨ T b → b < w.heap.size from fun b h => h.elim (hp.d.lt.1 b) (hp.r.lt.1 b))
  have HMT := Lib.hid hp.r.lt.2.1
  have HXR := Lib.hid hxr
  have HB0 := Lib.hid hb0
  have HW0 := Lib.hid hw0
  have hnl : nm.length ≤ 140737488355328 := hnl
  clear hp hb0 hxr
  go_enter Try.func14, Try.ntmps14
  go_upto_region 1 with fail
  rw [← HW0.out]
  clear hw0 HW0
  obtain ⟨l, hl⟩ : ∃ l, readB s nm = l := ⟨_, rfl⟩
  obtain ⟨er, her⟩ : ∃ er, readE s nm = er := ⟨_, rfl⟩
  have hca := read_any g s S nm w0 HP0.out.d hnl
  rw [hl, her] at hca
  have HCA := Lib.hid hca
  have HE := Lib.hid (And.intro hl her)
  clear hl her hca
  obtain ⟨ha1, -, -⟩ := HALL.out w0 HXR.out
  go_wp2_with (first | (go_at_call 23; refine HCA.out.mono ?_; rintro e w6 ⟨v6, rfl, ho6, hb6⟩
                        obtain ⟨hc1, -, -⟩ := HALL.out w6 ((hb6.block _ (row_lt HXR.out)).trans HXR.out)
                        obtain ⟨A6, c6, rfl, _, _, _, hl6, _⟩ := ho6.form
                        have hch := rread_any r s T M nm w6 (HP0.out.r.below hb6) hcnt hnl
                        rw [HE.out.1, HE.out.2] at hch
                        have HCH := Lib.hid hch
                        have HL6 := Lib.hid hl6
                        have HB6 := Lib.hid hb6
                        clear hch hl6 hb6 ho6) | fail)
  refine HCH.out.mono ?_
  rintro e w7 ⟨A7, c7, rfl, hl7, hb7⟩
  have htx := run_text w7 (n := l.length) c6 rfl (HL6.out.below hb7)
  have hty := run_text w7 (n := l.length) c7 rfl hl7
  have htl : ((str l).toList == (str l).toList) = true := beq_self_eq_true _
  have HB7 := Lib.hid (By.ext HB6.out hb7)
  clear hl7 hb7
  go_wp2
  go_ret
  exact (pstep_same HP0.out HB7.out).from_ HB0.out
set_option maxRecDepth 100000 in
set_option maxHeartbeats 4000000 in
theorem act_room (g r : Nat) (s : DS) (S T M : Nat → Prop) (a : A1) (A : Option Addr) (c : Nat) (w : World) (hp : PairAt w g r s S T M) (hcnt : s.cnt ≤ 68719476736) (hk : a.kind = 6) :
    Calls Try.prog 14 #[.pointer (some ⟨g, 0, none⟩), .pointer (some ⟨r, 0, none⟩), aV a (A, c)] w (PStep (.bool true) g r (actS s a) S T M w) := by
  obtain ⟨kd, nm, n, d, m⟩ := a
  have hk : kd = 6 := hk
  subst hk
  have hst : actS s ⟨6, nm, n, d, m⟩ = roomS s n := by simp [actS]
  rw [hst]
  clear hst
  have hcnt : s.cnt ≤ 68719476736 := hcnt
  show Calls Try.prog 14 #[.pointer (some ⟨g, 0, none⟩), .pointer (some ⟨r, 0, none⟩), .agg #[.int .i64 6, .string (str nm), .int .i64 n, .slice A d.length c, .int .u64 (m : Int)]] w _
  obtain ⟨w0, hw0⟩ : ∃ w0, w0 = w.alloc (.cells #[.int .i64 6, .string (str nm), .int .i64 n, .slice A d.length c, .int .u64 (m : Int)] tAct) := ⟨_, rfl⟩
  have hb0 : Below w.heap.size w w0 := by rw [hw0]; exact (Below.refl _ _).alloc (Nat.le_refl _) _
  have hxr : w0.heap[w.heap.size]? = some (.cells #[.int .i64 6, .string (str nm), .int .i64 n, .slice A d.length c, .int .u64 (m : Int)] tAct (0, 0)) := by rw [hw0]; exact heap_alloc_new w _
  have hx0 : w0.cell? ⟨w.heap.size, 0, none⟩ = some (.int .i64 6) := by rw [cell_of_row w0 _ 0 _ _ _ hxr]; rfl
  have HALL := Lib.hid (fun (w' : World) (h : w'.heap[w.heap.size]? = some (.cells #[.int .i64 6, .string (str nm), .int .i64 n, .slice A d.length c, .int .u64 (m : Int)] tAct (0, 0))) => (show w'.cell? ⟨w.heap.size, 1, none⟩ = some (.string (str nm)) ∧ w'.cell? ⟨w.heap.size, 2, none⟩ = some (.int .i64 n) ∧ w'.cell? ⟨w.heap.size, 4, none⟩ = some (.int .u64 (m : Int)) from ⟨by rw [cell_of_row w' _ 1 _ _ _ h]; rfl, by rw [cell_of_row w' _ 2 _ _ _ h]; rfl, by rw [cell_of_row w' _ 4 _ _ _ h]; rfl⟩))
  have HP0 := Lib.hid (hp.below hb0)
  have HL := Lib.hid (show ∀ b, S b ∨ T b → b < w.heap.size from fun b h => h.elim (hp.d.lt.1 b) (hp.r.lt.1 b))
  have HMT := Lib.hid hp.r.lt.2.1
  have HXR := Lib.hid hxr
  have HB0 := Lib.hid hb0
  have HW0 := Lib.hid hw0
  clear hp hb0 hxr
  go_enter Try.func14, Try.ntmps14
  go_upto_region 1 with fail
  rw [← HW0.out]
  clear hw0 HW0
  have hca := room_any g s S n w0 HP0.out.d
  obtain ⟨ha1, ha2, -⟩ := HALL.out w0 HXR.out
  cases hpl : placeB n with
  | false =>
    rw [hpl] at hca
    have HCA := Lib.hid hca
    have HRS := Lib.hid (show roomS s n = s by unfold roomS; rw [hpl, if_neg (by simp)])
    have hp2 : n < 0 ∨ 4194304 < n := by
      simp [placeB] at hpl
      omega
    clear hca hpl
    go_wp2_with fail
    refine HCA.out.mono ?_
    rintro e w6 ⟨rfl, S6, hd6, hS6, hk6⟩
    obtain ⟨hb1, hb2, -⟩ := HALL.out w6 ((hk6.block _ (row_lt HXR.out) (fun h => Nat.lt_irrefl _ (HL.out _ (.inl h)))).trans HXR.out)
    have HST := Lib.hid (pstep_dr (val := .bool true) HP0.out (Below.refl _ w0) hd6 hS6 hk6 (HRS.out.symm ▸ HP0.out.r.keep (fun b hb => (hk6.block b (HP0.out.r.lt.1 b hb) (fun h => HP0.out.sep b h hb))) hk6.size) (fun _ h => .inl h) (fun _ h => .inl h) (Kept.refl M w6))
    clear hd6 hS6 hk6 HCA
    by_cases hlo : n < 0
    · have d1 : decide (n < 0) = true := decide_eq_true hlo
      go_wp2
      go_ret
      exact HST.out.from_ HB0.out
    · have d1 : decide (n < 0) = false := decide_eq_false hlo
      have d2 : decide (n > 4194304) = true := decide_eq_true (by omega)
      go_wp2
      go_ret
      exact HST.out.from_ HB0.out
  | true =>
    rw [hpl] at hca
    have HCA := Lib.hid hca
    have hp2 : 0 ≤ n ∧ n ≤ 4194304 := by simpa [placeB] using hpl
    have HRS := Lib.hid (show roomS s n = { s with room := n } by unfold roomS; rw [if_pos hpl])
    have d1 : decide (n < 0) = false := decide_eq_false (by omega)
    have d2 : decide (n > 4194304) = false := decide_eq_false (by omega)
    clear hca hpl
    go_wp2_with fail
    refine HCA.out.mono ?_
    rintro e w6 ⟨rfl, S6, hd6, hS6, hk6⟩
    obtain ⟨hb1, hb2, -⟩ := HALL.out w6 ((hk6.block _ (row_lt HXR.out) (fun h => Nat.lt_irrefl _ (HL.out _ (.inl h)))).trans HXR.out)
    have hr6 := HP0.out.r.keep (fun b hb => (hk6.block b (HP0.out.r.lt.1 b hb) (fun h => HP0.out.sep b h hb))) hk6.size
    have hfr : w6.frozen? ⟨r, 2, none⟩ = false := by
      obtain ⟨v, u, h⟩ := hr6
      exact frozen_of_row w6 r 2 _ _ h.row
    have hcl : w6.cell? ⟨r, 2, none⟩ = some (.int .i64 s.room) := by
      obtain ⟨v, u, h⟩ := hr6
      rw [cell_of_row w6 r 2 _ _ _ h.row]; rfl
    have hok := HP0.out.d.lt.2.2
    have hr7 := rd_set (s' := { s with room := n }) hr6 2 (.int .i64 n) (fun v u => rfl) rfl rfl ⟨hok.up, hok.fit, hok.un, hp2, hok.fuse⟩
    have HST := Lib.hid (pstep_dr (val := .bool true) HP0.out (Below.refl _ w0) hd6 hS6 hk6 (HRS.out.symm ▸ hr7) (fun _ h => .inl h) (fun _ h => .inl h) ((Kept.refl M w6).setCell (p := ⟨r, 2, none⟩) (fun _ => HP0.out.r.lt.2.2) _))
    clear hd6 hS6 hk6 hr6 hr7 HCA
    go_wp2
    go_ret
    exact HST.out.from_ HB0.out
set_option maxRecDepth 100000 in
set_option maxHeartbeats 4000000 in
theorem act_fuse (g r : Nat) (s : DS) (S T M : Nat → Prop) (a : A1) (A : Option Addr) (c : Nat) (w : World) (hp : PairAt w g r s S T M) (hcnt : s.cnt ≤ 68719476736) (hm : a.n ≤ 9223372036854775807) (hk : a.kind = 7) :
    Calls Try.prog 14 #[.pointer (some ⟨g, 0, none⟩), .pointer (some ⟨r, 0, none⟩), aV a (A, c)] w (PStep (.bool true) g r (actS s a) S T M w) := by
  obtain ⟨kd, nm, n, d, m⟩ := a
  have hk : kd = 7 := hk
  subst hk
  have hst : actS s ⟨7, nm, n, d, m⟩ = fuseS s n := by simp [actS]
  rw [hst]
  clear hst
  have hcnt : s.cnt ≤ 68719476736 := hcnt
  show Calls Try.prog 14 #[.pointer (some ⟨g, 0, none⟩), .pointer (some ⟨r, 0, none⟩), .agg #[.int .i64 7, .string (str nm), .int .i64 n, .slice A d.length c, .int .u64 (m : Int)]] w _
  obtain ⟨w0, hw0⟩ : ∃ w0, w0 = w.alloc (.cells #[.int .i64 7, .string (str nm), .int .i64 n, .slice A d.length c, .int .u64 (m : Int)] tAct) := ⟨_, rfl⟩
  have hb0 : Below w.heap.size w w0 := by rw [hw0]; exact (Below.refl _ _).alloc (Nat.le_refl _) _
  have hxr : w0.heap[w.heap.size]? = some (.cells #[.int .i64 7, .string (str nm), .int .i64 n, .slice A d.length c, .int .u64 (m : Int)] tAct (0, 0)) := by rw [hw0]; exact heap_alloc_new w _
  have hx0 : w0.cell? ⟨w.heap.size, 0, none⟩ = some (.int .i64 7) := by rw [cell_of_row w0 _ 0 _ _ _ hxr]; rfl
  have HALL := Lib.hid (fun (w' : World) (h : w'.heap[w.heap.size]? = some (.cells #[.int .i64 7, .string (str nm), .int .i64 n, .slice A d.length c, .int .u64 (m : Int)] tAct (0, 0))) => (show w'.cell? ⟨w.heap.size, 1, none⟩ = some (.string (str nm)) ∧ w'.cell? ⟨w.heap.size, 2, none⟩ = some (.int .i64 n) ∧ w'.cell? ⟨w.heap.size, 4, none⟩ = some (.int .u64 (m : Int)) from ⟨by rw [cell_of_row w' _ 1 _ _ _ h]; rfl, by rw [cell_of_row w' _ 2 _ _ _ h]; rfl, by rw [cell_of_row w' _ 4 _ _ _ h]; rfl⟩))
  have HP0 := Lib.hid (hp.below hb0)
  have HL := Lib.hid (show ∀ b, S b ∨ T b → b < w.heap.size from fun b h => h.elim (hp.d.lt.1 b) (hp.r.lt.1 b))
  have HMT := Lib.hid hp.r.lt.2.1
  have HXR := Lib.hid hxr
  have HB0 := Lib.hid hb0
  have HW0 := Lib.hid hw0
  have hm : n ≤ 9223372036854775807 := hm
  clear hp hb0 hxr
  go_enter Try.func14, Try.ntmps14
  go_upto_region 1 with fail
  rw [← HW0.out]
  clear hw0 HW0
  have hca := fuse_any g s S n w0 HP0.out.d hm
  obtain ⟨ha1, ha2, -⟩ := HALL.out w0 HXR.out
  by_cases hpl : 0 ≤ n
  · rw [if_pos hpl] at hca
    have HCA := Lib.hid hca
    have HRS := Lib.hid (show fuseS s n = { s with fuse := n } by unfold fuseS; rw [if_pos hpl])
    have d1 : decide (n < 0) = false := decide_eq_false (by omega)
    clear hca
    go_wp2_with fail
    refine HCA.out.mono ?_
    rintro e w6 ⟨rfl, S6, hd6, hS6, hk6⟩
    obtain ⟨hb1, hb2, -⟩ := HALL.out w6 ((hk6.block _ (row_lt HXR.out) (fun h => Nat.lt_irrefl _ (HL.out _ (.inl h)))).trans HXR.out)
    have hr6 := HP0.out.r.keep (fun b hb => (hk6.block b (HP0.out.r.lt.1 b hb) (fun h => HP0.out.sep b h hb))) hk6.size
    have hfr : w6.frozen? ⟨r, 3, none⟩ = false := by
      obtain ⟨v, u, h⟩ := hr6
      exact frozen_of_row w6 r 3 _ _ h.row
    have hcl : w6.cell? ⟨r, 3, none⟩ = some (.int .i64 s.fuse) := by
      obtain ⟨v, u, h⟩ := hr6
      rw [cell_of_row w6 r 3 _ _ _ h.row]; rfl
    have hok := HP0.out.d.lt.2.2
    have hr7 := rd_set (s' := { s with fuse := n }) hr6 3 (.int .i64 n) (fun v u => rfl) rfl rfl ⟨hok.up, hok.fit, hok.un, hok.room, ⟨hpl, hm⟩⟩
    have HST := Lib.hid (pstep_dr (val := .bool true) HP0.out (Below.refl _ w0) hd6 hS6 hk6 (HRS.out.symm ▸ hr7) (fun _ h => .inl h) (fun _ h => .inl h) ((Kept.refl M w6).setCell (p := ⟨r, 3, none⟩) (fun _ => HP0.out.r.lt.2.2) _))
    clear hd6 hS6 hk6 hr6 hr7 HCA
    go_wp2
    go_ret
    exact HST.out.from_ HB0.out
  · rw [if_neg hpl] at hca
    have HCA := Lib.hid hca
    have HRS := Lib.hid (show fuseS s n = s by unfold fuseS; rw [if_neg hpl])
    have d1 : decide (n < 0) = true := decide_eq_true (by omega)
    clear hca
    go_wp2_with fail
    refine HCA.out.mono ?_
    rintro e w6 ⟨rfl, S6, hd6, hS6, hk6⟩
    obtain ⟨hb1, hb2, -⟩ := HALL.out w6 ((hk6.block _ (row_lt HXR.out) (fun h => Nat.lt_irrefl _ (HL.out _ (.inl h)))).trans HXR.out)
    have HST := Lib.hid (pstep_dr (val := .bool true) HP0.out (Below.refl _ w0) hd6 hS6 hk6 (HRS.out.symm ▸ HP0.out.r.keep (fun b hb => (hk6.block b (HP0.out.r.lt.1 b hb) (fun h => HP0.out.sep b h hb))) hk6.size) (fun _ h => .inl h) (fun _ h => .inl h) (Kept.refl M w6))
    clear hd6 hS6 hk6 HCA
    go_wp2
    go_ret
    exact HST.out.from_ HB0.out
set_option maxRecDepth 100000 in
set_option maxHeartbeats 4000000 in
theorem act_none (g r : Nat) (s : DS) (S T M : Nat → Prop) (a : A1) (A : Option Addr) (c : Nat) (w : World) (hp : PairAt w g r s S T M) (hk : a.kind ≠ 1 ∧ a.kind ≠ 2 ∧ a.kind ≠ 3 ∧ a.kind ≠ 4 ∧ a.kind ≠ 5 ∧ a.kind ≠ 6 ∧ a.kind ≠ 7 ∧ a.kind ≠ 8) :
    Calls Try.prog 14 #[.pointer (some ⟨g, 0, none⟩), .pointer (some ⟨r, 0, none⟩), aV a (A, c)] w (PStep (.bool true) g r (actS s a) S T M w) := by
  obtain ⟨kd, nm, n, d, m⟩ := a
  obtain ⟨k1, k2, k3, k4, k5, k6, k7, k8⟩ := hk
  have K1 := Lib.hid (show ¬ kd = 1 from k1)
  have K2 := Lib.hid (show ¬ kd = 2 from k2)
  have K3 := Lib.hid (show ¬ kd = 3 from k3)
  have K4 := Lib.hid (show ¬ kd = 4 from k4)
  have K5 := Lib.hid (show ¬ kd = 5 from k5)
  have K6 := Lib.hid (show ¬ kd = 6 from k6)
  have K7 := Lib.hid (show ¬ kd = 7 from k7)
  have K8 := Lib.hid (show ¬ kd = 8 from k8)
  clear k1 k2 k3 k4 k5 k6 k7 k8
  have hst : actS s ⟨kd, nm, n, d, m⟩ = s := by unfold actS; simp only [K1.out, K2.out, K3.out, K4.out, K6.out, K7.out, K8.out, if_false]
  rw [hst]
  clear hst
  show Calls Try.prog 14 #[.pointer (some ⟨g, 0, none⟩), .pointer (some ⟨r, 0, none⟩), .agg #[.int .i64 kd, .string (str nm), .int .i64 n, .slice A d.length c, .int .u64 (m : Int)]] w _
  obtain ⟨w0, hw0⟩ : ∃ w0, w0 = w.alloc (.cells #[.int .i64 kd, .string (str nm), .int .i64 n, .slice A d.length c, .int .u64 (m : Int)] tAct) := ⟨_, rfl⟩
  have hb0 : Below w.heap.size w w0 := by rw [hw0]; exact (Below.refl _ _).alloc (Nat.le_refl _) _
  have hxr : w0.heap[w.heap.size]? = some (.cells #[.int .i64 kd, .string (str nm), .int .i64 n, .slice A d.length c, .int .u64 (m : Int)] tAct (0, 0)) := by rw [hw0]; exact heap_alloc_new w _
  have hx0 : w0.cell? ⟨w.heap.size, 0, none⟩ = some (.int .i64 kd) := by rw [cell_of_row w0 _ 0 _ _ _ hxr]; rfl
  have HALL := Lib.hid (fun (w' : World) (h : w'.heap[w.heap.size]? = some (.cells #[.int .i64 kd, .string (str nm), .int .i64 n, .slice A d.length c, .int .u64 (m : Int)] tAct (0, 0))) => (show w'.cell? ⟨w.heap.size, 1, none⟩ = some (.string (str nm)) ∧ w'.cell? ⟨w.heap.size, 2, none⟩ = some (.int .i64 n) ∧ w'.cell? ⟨w.heap.size, 4, none⟩ = some (.int .u64 (m : Int)) from ⟨by rw [cell_of_row w' _ 1 _ _ _ h]; rfl, by rw [cell_of_row w' _ 2 _ _ _ h]; rfl, by rw [cell_of_row w' _ 4 _ _ _ h]; rfl⟩))
  have HP0 := Lib.hid (hp.below hb0)
  have HL := Lib.hid (show ∀ b, S b ∨ T b → b < w.heap.size from fun b h => h.elim (hp.d.lt.1 b) (hp.r.lt.1 b))
  have HMT := Lib.hid hp.r.lt.2.1
  have HXR := Lib.hid hxr
  have HB0 := Lib.hid hb0
  have HW0 := Lib.hid hw0
  clear hp hb0 hxr
  go_enter Try.func14, Try.ntmps14
  go_upto_region 1 with fail
  rw [← HW0.out]
  clear hw0 HW0
  have q1 : (kd == 1) = false := by simpa using K1.out
  have q2 : (kd == 2) = false := by simpa using K2.out
  have q3 : (kd == 3) = false := by simpa using K3.out
  have q4 : (kd == 4) = false := by simpa using K4.out
  have q5 : (kd == 5) = false := by simpa using K5.out
  have q6 : (kd == 6) = false := by simpa using K6.out
  have q7 : (kd == 7) = false := by simpa using K7.out
  have q8 : (kd == 8) = false := by simpa using K8.out
  go_wp2
  go_ret
  exact (pstep_same HP0.out (Below.refl _ _)).from_ HB0.out
end Go.Proofs.Ytcfnfphnjkllcaa.Dk

/-! The laws' act: Put, as a contract of a call; act as a whole. -/
namespace Go.Proofs.Ytcfnfphnjkllcaa.Dk
open Go.RowKit Go.Maps By Mp

set_option maxRecDepth 100000 in
set_option maxHeartbeats 4000000 in
theorem act_put (g r : Nat) (s : DS) (S T M : Nat → Prop) (a : A1) (A : Option Addr) (c : Nat) (w : World) (hp : PairAt w g r s S T M) (hcnt : s.cnt ≤ 68719476736) (hnl : a.name.length ≤ 140737488355328) (hdl : a.data.length ≤ 1099511627776) (hc : a.data.length ≤ c) (SD : Nat → Prop) (hSD : ∀ b, SD b → ¬ S b ∧ ¬ T b ∧ b < w.heap.size) (hd : LiesS w SD A a.data) (hk : a.kind = 1) :
    Calls Try.prog 14 #[.pointer (some ⟨g, 0, none⟩), .pointer (some ⟨r, 0, none⟩), aV a (A, c)] w (PStep (.bool true) g r (actS s a) S T M w) := by
  obtain ⟨kd, nm, n, d, m⟩ := a
  have hk : kd = 1 := hk
  subst hk
  have hst : actS s ⟨1, nm, n, d, m⟩ = chgS s 1 nm n d := by simp [actS]
  rw [hst]
  clear hst
  have hcnt : s.cnt ≤ 68719476736 := hcnt
  show Calls Try.prog 14 #[.pointer (some ⟨g, 0, none⟩), .pointer (some ⟨r, 0, none⟩), .agg #[.int .i64 1, .string (str nm), .int .i64 n, .slice A d.length c, .int .u64 (m : Int)]] w _
  obtain ⟨w0, hw0⟩ : ∃ w0, w0 = w.alloc (.cells #[.int .i64 1, .string (str nm), .int .i64 n, .slice A d.length c, .int .u64 (m : Int)] tAct) := ⟨_, rfl⟩
  have hb0 : Below w.heap.size w w0 := by rw [hw0]; exact (Below.refl _ _).alloc (Nat.le_refl _) _
  have hxr : w0.heap[w.heap.size]? = some (.cells #[.int .i64 1, .string (str nm), .int .i64 n, .slice A d.length c, .int .u64 (m : Int)] tAct (0, 0)) := by rw [hw0]; exact heap_alloc_new w _
  have hx0 : w0.cell? ⟨w.heap.size, 0, none⟩ = some (.int .i64 1) := by rw [cell_of_row w0 _ 0 _ _ _ hxr]; rfl
  have HALL := Lib.hid (fun (w' : World) (h : w'.heap[w.heap.size]? = some (.cells #[.int .i64 1, .string (str nm), .int .i64 n, .slice A d.length c, .int .u64 (m : Int)] tAct (0, 0))) => (show w'.cell? ⟨w.heap.size, 1, none⟩ = some (.string (str nm)) ∧ w'.cell? ⟨w.heap.size, 2, none⟩ = some (.int .i64 n) ∧ w'.cell? ⟨w.heap.size, 3, none⟩ = some (.slice A d.length c) from ⟨by rw [cell_of_row w' _ 1 _ _ _ h]; rfl, by rw [cell_of_row w' _ 2 _ _ _ h]; rfl, by rw [cell_of_row w' _ 3 _ _ _ h]; rfl⟩))
  have HP0 := Lib.hid (hp.below hb0)
  have HL := Lib.hid (show ∀ b, S b ∨ T b → b < w.heap.size from fun b h => h.elim (hp.d.lt.1 b) (hp.r.lt.1 b))
  have HMT := Lib.hid hp.r.lt.2.1
  have HXR := Lib.hid hxr
  have HB0 := Lib.hid hb0
  have HW0 := Lib.hid hw0
  have hnl : nm.length ≤ 140737488355328 := hnl
  have hdl : d.length ≤ 1099511627776 := hdl
  have hc : d.length ≤ c := hc
  have HD := Lib.hid (show LiesS w SD A d from hd)
  have HSD := Lib.hid hSD
  obtain ⟨er, her⟩ : ∃ er, chgE s 1 nm n d = er := ⟨_, rfl⟩
  obtain ⟨s2, hs2⟩ : ∃ s2, chgS s 1 nm n d = s2 := ⟨_, rfl⟩
  rw [hs2]
  have HER := Lib.hid her
  have HS2 := Lib.hid hs2
  have HG := Lib.hid (hp.d.lt.1 g hp.d.lt.2.1)
  have HRT := Lib.hid (hp.r.lt.2.1 r hp.r.lt.2.2)
  clear her hs2 hd hSD
  clear hp hb0 hxr
  go_enter Try.func14, Try.ntmps14
  go_upto_region 1 with fail
  rw [← HW0.out]
  clear hw0 HW0
  have HXA := Lib.hid (show (w0.alloc (.cells #[] 5)).drew.heap[w.heap.size]? = _ from (heap_alloc_old w0 _ (row_lt HXR.out)).trans HXR.out)
  have HOWN := Lib.hid (show Own w0.heap.size (w0.alloc (.cells #[] 5)).drew (.slice (some ⟨w0.heap.size, 0, none⟩) 0 0) [] from Own.made w0 w0.heap.size #[] 0 (Nat.le_refl _) (by decide) rfl)
  have HLA := Lib.hid (show Lies (w0.alloc (.cells #[] 5)).drew w0.heap.size A d from (((HD.out.lies (fun b hb => (HSD.out b hb).2.2)).below HB0.out).more HB0.out.size).alloc (Nat.le_refl _) _)
  have HZA := Lib.hid (show w0.heap.size ≤ (w0.alloc (.cells #[] 5)).drew.heap.size by show _ ≤ (w0.alloc _).heap.size; simp)
  have HBA := Lib.hid (show Below w0.heap.size w0 (w0.alloc (.cells #[] 5)).drew from ((Below.refl _ _).alloc (Nat.le_refl _) _).drew)
  go_upto_region 3 with fail
  go_region_held3 (fun w' => w'.cell? ⟨w.heap.size, 1, none⟩ = some (.string (str nm)) ∧ w'.cell? ⟨w.heap.size, 2, none⟩ = some (.int .i64 n) ∧ w'.cell? ⟨w.heap.size, 3, none⟩ = some (.slice A d.length c))
    (first
      | assumption
      | exact HALL.out _ HXR.out
      | exact HALL.out _ HXA.out
      | exact HALL.out _ HX5.out
      | exact HALL.out _ HX6.out
      | exact HALL.out _ HX7.out)
    (first
      | (refine step_appB rfl (.tmp 22) (.tmp 24) rfl (v := .slice (some ⟨w0.heap.size, 0, none⟩) 0 0) (by simp [Act.eval]) HOWN.out (A := A) (m := d.length) (c := c) (by simp [Act.eval]) rfl HLA.out (by simp; omega) HZA.out ?_
         intro v5 w5 ho5 hg5 hv5
         rw [List.nil_append] at ho5
         obtain ⟨A5, c5, rfl, hc5, _, _, _, _⟩ := ho5.form
         have hb5 : Below w0.heap.size w0 w5 := HBA.out.grown hg5 HZA.out (fun q e => by injection e with e; exact Nat.le_of_eq e)
         have HX5 := Lib.hid ((hb5.block _ (row_lt HXR.out)).trans HXR.out)
         have hca := put_any g s S nm n d A5 d.length c5 w5 (HP0.out.d.below hb5) hcnt (by omega) hnl rfl hc5 (fun b => w0.heap.size ≤ b ∧ b < w5.heap.size ∧ U8 w5 b) (fun b hb => ⟨fun e => by have := HG.out; have := HB0.out.size; omega, hb.2.1⟩) (lies8 ho5)
         rw [HER.out, HS2.out] at hca
         have HCA := Lib.hid hca
         have HB5 := Lib.hid hb5
         clear ho5 hg5 hv5 hc5 hb5 hca)
      | (go_at_call 27; refine HCA.out.mono ?_; rintro e w6 ⟨rfl, S6, hd6, hS6, hk6⟩
         have HX6 := Lib.hid ((hk6.block _ (row_lt HX5.out) (fun h => Nat.lt_irrefl _ (HL.out _ (.inl h)))).trans HX5.out)
         have hl6 : LiesS w6 SD A d := HD.out.keep (fun b hb => by
           have h1 := HSD.out b hb
           have h2 := HB0.out.size
           exact (hk6.block b (Nat.lt_of_lt_of_le h1.2.2 (Nat.le_trans h2 HB5.out.size)) h1.1).trans ((HB5.out.block b (Nat.lt_of_lt_of_le h1.2.2 h2)).trans (HB0.out.block b h1.2.2))) (fun _ h => h)
         have hch := rchange_any r s T M 1 nm n d A d.length c w6 ((HP0.out.r.below HB5.out).keep (fun b hb => (hk6.block b ((HP0.out.r.below HB5.out).lt.1 b hb) (fun h => HP0.out.sep b h hb))) hk6.size) hcnt (by omega) (fun h => absurd rfl h) hdl hnl rfl hc SD (fun b hb => ⟨fun e => (HSD.out b hb).2.1 (e ▸ HRT.out), Nat.lt_of_lt_of_le (HSD.out b hb).2.2 (Nat.le_trans HB0.out.size (Nat.le_trans HB5.out.size hk6.size))⟩) hl6
         rw [HER.out, HS2.out] at hch
         unfold wV at hch
         have HCH := Lib.hid hch
         have HD6 := Lib.hid hd6
         have HS6 := Lib.hid hS6
         have HK6 := Lib.hid hk6
         clear hd6 hS6 hk6 hch hl6)
      | (go_at_call 35; refine HCH.out.mono ?_; rintro e w7 ⟨rfl, T7, M7, hr7, hT7, hM7, hk7⟩
         have HX7 := Lib.hid ((hk7.block _ (row_lt HX6.out) (fun h => Nat.lt_irrefl _ (HL.out _ (.inr (HMT.out _ h))))).trans HX6.out)
         have HST := Lib.hid (pstep_dr (val := .bool true) HP0.out HB5.out HD6.out HS6.out HK6.out hr7 hT7 hM7 hk7)
         clear hr7 hT7 hM7 hk7))
  go_wp2
  go_ret
  exact HST.out.from_ HB0.out
/-- What an act may be. -/
structure ActOk (a : A1) : Prop where
  name : a.name.length ≤ 140737488355328
  data : a.data.length ≤ 1099511627776
  n : a.n ≤ 9223372036854775807
  mask : a.mask < 18446744073709551616
theorem act_any (g r : Nat) (s : DS) (S T M : Nat → Prop) (a : A1) (A : Option Addr) (c : Nat) (w : World) (hp : PairAt w g r s S T M) (hcnt : s.cnt ≤ 68719476736) (ha : ActOk a) (hc : a.data.length ≤ c) (SD : Nat → Prop) (hSD : ∀ b, SD b → ¬ S b ∧ ¬ T b ∧ b < w.heap.size) (hd : LiesS w SD A a.data) :
    Calls Try.prog 14 #[.pointer (some ⟨g, 0, none⟩), .pointer (some ⟨r, 0, none⟩), aV a (A, c)] w (PStep (.bool true) g r (actS s a) S T M w) := by
  by_cases k1 : a.kind = 1
  · exact act_put g r s S T M a A c w hp hcnt ha.name ha.data hc SD hSD hd k1
  by_cases k2 : a.kind = 2
  · exact act_cut g r s S T M a A c w hp hcnt ha.name k2
  by_cases k3 : a.kind = 3
  · exact act_rem g r s S T M a A c w hp hcnt ha.name k3
  by_cases k4 : a.kind = 4
  · exact act_sync g r s S T M a A c w hp hcnt k4
  by_cases k5 : a.kind = 5
  · exact act_read g r s S T M a A c w hp hcnt ha.name k5
  by_cases k6 : a.kind = 6
  · exact act_room g r s S T M a A c w hp hcnt k6
  by_cases k7 : a.kind = 7
  · exact act_fuse g r s S T M a A c w hp hcnt ha.n k7
  by_cases k8 : a.kind = 8
  · exact act_fall g r s S T M a A c w hp hcnt ha.mask k8
  exact act_none g r s S T M a A c w hp ⟨k1, k2, k3, k4, k5, k6, k7, k8⟩
end Go.Proofs.Ytcfnfphnjkllcaa.Dk
