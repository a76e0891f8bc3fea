/- Package disk's settle, as a contract of a call. -/
import Derived.Test.YtnjifhbooikdbaaGreatDoorDkK
namespace Go.Proofs.YtnjifhbooikdbaaGreatDoor.Dk
open Go.RowKit Go.Maps By Mp

/-- Behind k of the changes. -/
def SetMid (g : Nat) (bm : Option Nat) (U : Nat) (sm : Option Nat) (G : Fs) (ps : Bs → Option Nat) (v : Value) (room fuse : Int) (down : Bool) (l : List W1) (w wr : World) : Prop :=
  ∃ sm' ps', wr.heap[g]? = some (.cells (diskC bm U sm' (fsize (l.foldl doW G)) v room fuse down) tDisk (0, 0)) ∧ FilesAt wr sm' (l.foldl doW G) ps' ∧ (∀ q, foot sm' (l.foldl doW G) ps' q → foot sm G ps q ∨ w.heap.size ≤ q) ∧ Kept (fun b => b = g ∨ foot sm G ps b) w wr
theorem foldl_snoc {l : List W1} {k : Nat} (h : k < l.length) (G : Fs) : (l.take (k + 1)).foldl doW G = doW ((l.take k).foldl doW G) l[k] := by
  rw [List.take_succ_eq_append_getElem h, List.foldl_append]; rfl
set_option maxRecDepth 100000 in
set_option maxHeartbeats 2000000 in
theorem settle_any (g : Nat) (bm : Option Nat) (U : Nat) (sm : Option Nat) (G : Fs) (ps : Bs → Option Nat) (v : Value) (room fuse : Int) (down : Bool) (v0 : Value) (l : List W1) (w : World)
    (hrow : w.heap[g]? = some (.cells (diskC bm U sm (fsize G) v room fuse down) tDisk (0, 0))) (hf : FilesAt w sm G ps) (hup : Up G) (hfit : Fit G) (hw : WsAt w 0 (U8 w) v0 l) (hok : ∀ x ∈ l, OkW x) (hlen : G.length + l.length ≤ 68719476736) :
    Calls Tryz.prog 72 #[.pointer (some ⟨g, 0, none⟩), v0] w (Does (SetMid g bm U sm G ps (.slice none 0 0) room fuse down l w)) := by
  obtain ⟨A, c, rfl, hc, hm, hub⟩ := hw.form
  unfold maxLen at hm
  have hne8 : ∀ b, U8 w b → b ≠ g := by
    rintro b ⟨cs, fr, hb⟩ e
    rw [e, hrow] at hb
    injection hb with hb
    injection hb with _ hb
    exact tDisk_ne8 hb
  obtain ⟨ac0, hac1, hac2, hac3⟩ := hw
  have hwt : ∀ b, (Value.slice A l.length c).ownBlock = some b → ∃ cur, w.heap[b]? = some (.cells cur tWrite (0, 0)) := fun b hb => ownsRow_type hac2 hb
  have hneW : ∀ b, (Value.slice A l.length c).ownBlock = some b → b ≠ g := by
    intro b hb e
    obtain ⟨cur, hc⟩ := hwt b hb
    rw [e, hrow] at hc
    injection hc with hc
    injection hc with _ hc
    exact tDisk_neW hc
  have hlt8 : ∀ b, U8 w b → b < w.heap.size := by rintro b ⟨cs, fr, hb⟩; exact row_lt hb
  have hKeep8 : ∀ wr, Kept (fun b => b = g ∨ foot sm G ps b) w wr → ∀ b, U8 w b → wr.heap[b]? = w.heap[b]? := fun wr hk b hb => hk.block b (hlt8 b hb) (fun e => e.elim (hne8 b hb) (u8_foot hf hb))
  have hKeepW : ∀ wr, Kept (fun b => b = g ∨ foot sm G ps b) w wr → WsAt wr 0 (U8 w) (.slice A l.length c) l := fun wr hk => by
    have hw : WsAt w 0 (U8 w) (.slice A l.length c) l := ⟨ac0, hac1, hac2, hac3⟩
    refine hw.keep (fun b hb => ?_) (hKeep8 wr hk) (fun _ h => h)
    obtain ⟨cur, hcu⟩ := hwt b hb
    exact hk.block b (row_lt hcu) (fun e => e.elim (hneW b hb) (fun hq => foot_map hf hq hcu))
  have K8 := Lib.hid hKeep8
  have KW := Lib.hid hKeepW
  have N8 := Lib.hid hne8
  have L8 := Lib.hid hlt8
  have ROW := Lib.hid hrow
  have HF := Lib.hid hf
  have HUP := Lib.hid hup
  have HFIT := Lib.hid hfit
  have HOK := Lib.hid hok
  have HLEN := Lib.hid hlen
  have hlg := row_lt hrow
  clear hKeep8 hKeepW hne8 hlt8 hneW hwt hac1 hac2 hac3 ac0 hrow hf hup hfit hok hub hlen
  go_enter Tryz.func72, Tryz.ntmps72
  go_wp2
  go_loopw [8] (fun i wr => ∃ k : Nat, k ≤ l.length ∧ i = .int .i64 (k : Int) ∧ SetMid g bm U sm G ps v room fuse down (l.take k) w wr) (fun i _ => l.length - (intOf i).toNat)
  case atStart => exact ⟨0, Nat.zero_le _, rfl, sm, ps, ROW.out, HF.out, fun q h => .inl h, Kept.refl _ _⟩
  case round =>
    obtain ⟨k, hk, rfl, sm1, ps1, hr1, hf1, hft1, hk1⟩ := hrel
    have HR1 := Lib.hid hr1
    have HF1 := Lib.hid hf1
    have HT1 := Lib.hid hft1
    have HK1 := Lib.hid hk1
    clear hr1 hf1 hft1 hk1
    by_cases hlt : k < l.length
    · obtain ⟨ub, cap, A1, c1, e0, _, hub, hd1, hd2, hx0, hx1, hx2, hx3⟩ := (KW.out wr HK1.out).at_ hlt
      obtain ⟨x, hx⟩ : ∃ x, x = l[k] := ⟨_, rfl⟩
      have hox := HOK.out x (hx ▸ List.getElem_mem hlt)
      have hsn := foldl_snoc hlt G
      rw [← hx] at hd1 hd2 hx0 hx1 hx2 hx3 hsn
      simp only [Value.slice.injEq, true_and] at e0
      obtain ⟨rfl, rfl⟩ := e0
      have HSN := Lib.hid hsn
      have HD := Lib.hid hd2
      have HOX := Lib.hid hox
      have HD1 := Lib.hid hd1
      clear hx hd2 hsn hox hd1
      obtain ⟨w4, hw4⟩ : ∃ w4, w4 = wr.alloc (.cells #[.int .i64 (x.kind : Nat), .string (str x.name), .int .i64 (x.off : Nat), .slice A1 x.data.length c1] tWrite) := ⟨_, rfl⟩
      have hbx : w4.heap[wr.heap.size]? = some (.cells #[.int .i64 (x.kind : Nat), .string (str x.name), .int .i64 (x.off : Nat), .slice A1 x.data.length c1] tWrite (0, 0)) := by rw [hw4]; exact heap_alloc_new wr _
      have hb4 : Below wr.heap.size wr w4 := by rw [hw4]; exact (Below.refl _ _).alloc (Nat.le_refl _) _
      have hq0 : w4.cell? ⟨wr.heap.size, 0, none⟩ = some (.int .i64 (x.kind : Nat)) := by rw [cell_of_row w4 _ 0 _ _ _ hbx]; rfl
      have hq1 : w4.cell? ⟨wr.heap.size, 1, none⟩ = some (.string (str x.name)) := by rw [cell_of_row w4 _ 1 _ _ _ hbx]; rfl
      have hq2 : w4.cell? ⟨wr.heap.size, 2, none⟩ = some (.int .i64 (x.off : Nat)) := by rw [cell_of_row w4 _ 2 _ _ _ hbx]; rfl
      have hq3 : w4.cell? ⟨wr.heap.size, 3, none⟩ = some (.slice A1 x.data.length c1) := by rw [cell_of_row w4 _ 3 _ _ _ hbx]; rfl
      have HB4 := Lib.hid hb4
      have HW4 := Lib.hid hw4
      clear hbx hb4
      have hlgr := row_lt HR1.out
      have hzr : w.heap.size ≤ wr.heap.size := HK1.out.size
      have hdo := fdo_any g 2 (diskC bm U sm1 (fsize ((l.take k).foldl doW G)) v room fuse down) tDisk sm1 ((l.take k).foldl doW G) ps1 x A1 c1 w4.drew ((HB4.out.block g hlgr).trans HR1.out) ⟨rfl, rfl⟩ (HF1.out.keep (fun q hq => HB4.out.block q (HF1.out.lt hq))) (up_all HUP.out) (fit_all HFIT.out (fun y hy => HOK.out y (List.mem_of_mem_take hy)))
        (by have h1 := len_all (l := l.take k) HUP.out; have h2 := HLEN.out; rw [List.length_take] at h1; omega) HOX.out HD1.out (U8 w) (fun b hb => ⟨N8.out b hb, Nat.lt_of_lt_of_le (L8.out b hb) (Nat.le_trans hzr HB4.out.size)⟩) (HD.out.keep (fun b hb => HB4.out.block b (Nat.lt_of_lt_of_le (L8.out b hb) hzr)) (fun _ h => h))
      unfold wV at hdo
      have HDO := Lib.hid hdo
      clear hdo
      go_upto_region 3 with fail
      rw [← HW4.out]
      clear hw4 HW4
      go_still_tail 4, (by kernel_rfl)
      change wpList _ _ _ _ _ w4.drew
      go_wp2_with fail
      refine HDO.out.mono ?_
      rintro e w6 ⟨rfl, sm2, ps2, hr2, hf2, hft2, hk2⟩
      have HR2 := Lib.hid hr2
      have HF2 := Lib.hid hf2
      have HT2 := Lib.hid hft2
      have HK2 := Lib.hid hk2
      clear hr2 hf2 hft2 hk2 HDO hq0 hq1 hq2 hq3
      go_wp2
      go_roundw
      case rel =>
        have hz4 : wr.heap.size ≤ w4.drew.heap.size := HB4.out.size
        refine ⟨k + 1, by omega, by go_num, ?_⟩
        unfold SetMid
        rw [HSN.out]
        refine ⟨sm2, ps2, HR2.out, HF2.out, fun q hq => ?_, ?_⟩
        · rcases HT2.out q hq with h | h
          · exact HT1.out q h
          · exact .inr (Nat.le_trans hzr (Nat.le_trans hz4 h))
        · refine ((HK1.out.trans (Kept.of_below HB4.out)).drew).step HK2.out ?_
          rintro b hb (h | h)
          · exact .inl h
          · rcases HT1.out b h with h | h
            · exact .inr h
            · omega
      case measure => simp [intOf]; omega
    · have hke : k = l.length := by omega
      have HKE := Lib.hid hke
      subst hke
      have hc4 : wr.cell? ⟨g, 4, none⟩ = some v := by rw [cell_of_row wr g 4 _ _ _ HR1.out]; rfl
      have hf4 : wr.frozen? ⟨g, 4, none⟩ = false := frozen_of_row wr g 4 _ _ HR1.out
      go_wp2
      go_end0
      have h4 := heap_setCell_same wr g 4 _ _ (.slice none 0 0) HR1.out
      have hoth : ∀ b, b ≠ g → (wr.setCell ⟨g, 4, none⟩ (.slice none 0 0)).heap[b]? = wr.heap[b]? := fun b hb => heap_setCell_other wr ⟨g, 4, none⟩ b _ hb
      have hne : ∀ q, foot sm1 ((l.take l.length).foldl doW G) ps1 q → q ≠ g := fun q hq e => foot_map HF1.out hq (e ▸ HR1.out)
      have h := HF1.out
      have h2 := HT1.out
      rw [List.take_length] at h4 hne h h2
      exact ⟨rfl, sm1, ps1, h4, h.keep (fun q hq => hoth q (hne q hq)), h2, HK1.out.setCell (p := ⟨g, 4, none⟩) (fun _ => .inl rfl) _⟩
end Go.Proofs.YtnjifhbooikdbaaGreatDoor.Dk
