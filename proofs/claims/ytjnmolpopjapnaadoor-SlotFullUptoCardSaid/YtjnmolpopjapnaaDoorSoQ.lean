/- The law's run: acts on a slot, as a contract of a call. -/
import Derived.Test.YtjnmolpopjapnaaDoorSoO
import Derived.Test.YtjnmolpopjapnaaDoorSoP
import Derived.Deep.CutBlock
namespace Go.Proofs.YtjnmolpopjapnaaDoor.So
open Go.RowKit Go.Maps By Mp Dk

/-- All files are the slot's. -/
def Only (nm : Bs) (F : Fs) : Prop := ∀ n, ¬ Mine nm n → fget F n = none
theorem none_nil {F : Fs} (h : ∀ n, fget F n = none) : F = [] := by
  cases F with
  | nil => rfl
  | cons q s => have := h q.1; rw [fget_cons, if_pos rfl] at this; cases this
theorem only_len {nm : Bs} {F : Fs} (hu : Up F) (h : Only nm F) : F.length ≤ 3 := by
  have h1 := (size_del (pth nm 0) hu).2
  have h2 := (size_del (pth nm 1) (hu.del (pth nm 0))).2
  have h3 := (size_del (pth nm 2) ((hu.del (pth nm 0)).del (pth nm 1))).2
  have he : fdel (pth nm 2) (fdel (pth nm 1) (fdel (pth nm 0) F)) = [] := none_nil (fun n => by
    rw [fget_del, fget_del, fget_del]
    by_cases e2 : n = pth nm 2
    · rw [if_pos e2]
    · rw [if_neg e2]
      by_cases e1 : n = pth nm 1
      · rw [if_pos e1]
      · rw [if_neg e1]
        by_cases e0 : n = pth nm 0
        · rw [if_pos e0]
        · rw [if_neg e0]
          refine h n ?_
          rintro ⟨t, ht, e⟩
          rcases lt3 ht with rfl | rfl | rfl
          · exact e0 e
          · exact e1 e
          · exact e2 e)
  rw [he] at h3
  have hs : ∀ (b : Bool), (if b = true then 1 else 0) ≤ 1 := fun b => by cases b <;> decide
  have i1 := hs (fget F (pth nm 0)).isSome
  have i2 := hs (fget (fdel (pth nm 0) F) (pth nm 1)).isSome
  have i3 := hs (fget (fdel (pth nm 1) (fdel (pth nm 0) F)) (pth nm 2)).isSome
  simp only [List.length_nil] at h3
  omega
theorem only_same {nm : Bs} {F G : Fs} (h : Only nm F) (hs : ∀ n, ¬ Mine nm n → fget G n = fget F n) : Only nm G := fun n hn => (hs n hn).trans (h n hn)
theorem save_out {nm : Bs} (hnm : sname nm = true) {F : Fs} (hu : Up F) (hlen : F.length ≤ 4000) (hna : NotAll (fileOf F nm)) {D : Bs} (hd : D.length ≤ 65520) (room fu : Int) : Out nm F room fu D (saveX nm D (lev F room fu)) := by
  have h := replace_out hnm hu hlen hna hd room fu
  have e : saveX nm D (lev F room fu) = replaceX nm D ⟨F, [], room, fu, false⟩ := by unfold saveX; rw [if_neg (by omega)]; rfl
  rw [e]
  exact h
/-- A slot that is well, and the value that it must have. -/
structure RS (w wr : World) (d g : Nat) (F : Fs) (room fu : Int) (S : Nat → Prop) (A : Option Addr) (VB : Bs) (sm : Bool) : Prop where
  sys : Sys wr g d [118] (lev F room fu) S
  only : Only [118] F
  na : NotAll (fileOf F [118])
  val : valOf (fileOf F [118]) = if sm then some VB else none
  lies : LiesS wr (fun b => ¬ S b ∧ b ≠ g ∧ b < wr.heap.size) A VB
  far : (∀ b, S b → w.heap.size ≤ b) ∧ w.heap.size ≤ g
  bel : Below w.heap.size w wr
theorem RS.below {w wr w' : World} {d g : Nat} {F : Fs} {room fu : Int} {S : Nat → Prop} {A : Option Addr} {VB : Bs} {sm : Bool} (h : RS w wr d g F room fu S A VB sm) (hb : Below wr.heap.size wr w') : RS w w' d g F room fu S A VB sm :=
  ⟨h.sys.below hb, h.only, h.na, h.val, h.lies.keep (fun b hb2 => hb.block b hb2.2.2) (fun b hb2 => ⟨hb2.1, hb2.2.1, Nat.lt_of_lt_of_le hb2.2.2 hb.size⟩), h.far, By.ext h.bel hb⟩
/-- A disk that is to fall: whatever it loses the slot has the value, or what was being saved. -/
structure FS (w wr : World) (d : Nat) (s : DS) (room : Int) (S : Nat → Prop) (A : Option Addr) (VB : Bs) (sm tried : Bool) (A2 : Option Addr) (D : Bs) : Prop where
  disk : DiskAt wr d s S
  few : s.cnt ≤ 100
  outs : ∀ m t, ∃ G, falS s m t = lev G room 0 ∧ Up G ∧ Only [118] G ∧ NotAll (fileOf G [118]) ∧ (valOf (fileOf G [118]) = (if sm then some VB else none) ∨ (tried = true ∧ valOf (fileOf G [118]) = some D))
  lies : LiesS wr (fun b => ¬ S b ∧ b < wr.heap.size) A VB
  lies2 : LiesS wr (fun b => ¬ S b ∧ b < wr.heap.size) A2 D
  far : ∀ b, S b → w.heap.size ≤ b
  bel : Below w.heap.size w wr
theorem FS.of {w wr : World} {d g : Nat} {F : Fs} {room fu : Int} {S : Nat → Prop} {A : Option Addr} {VB : Bs} {sm : Bool} (h : RS w wr d g F room fu S A VB sm) : FS w wr d (lev F room fu) room S A VB sm false none [] :=
  ⟨h.sys.disk, by have := only_len (dlt h.sys.disk).2.2.up h.only; unfold DS.cnt lev at *; simp at *; omega, fun m t => ⟨F, rfl, (dlt h.sys.disk).2.2.up, h.only, h.na, .inl h.val⟩, h.lies.keep (fun _ _ => rfl) (fun b hb => ⟨hb.1, hb.2.2⟩), fun hn => absurd hn (by simp), h.far.1, h.bel⟩
theorem FS.below {w wr w' : World} {d : Nat} {s : DS} {room : Int} {S : Nat → Prop} {A : Option Addr} {VB : Bs} {sm tried : Bool} {A2 : Option Addr} {D : Bs} (h : FS w wr d s room S A VB sm tried A2 D) (hb : Below wr.heap.size wr w') : FS w w' d s room S A VB sm tried A2 D :=
  ⟨h.disk.below hb, h.few, h.outs, h.lies.keep (fun b hb2 => hb.block b hb2.2) (fun b hb2 => ⟨hb2.1, Nat.lt_of_lt_of_le hb2.2 hb.size⟩), h.lies2.keep (fun b hb2 => hb.block b hb2.2) (fun b hb2 => ⟨hb2.1, Nat.lt_of_lt_of_le hb2.2 hb.size⟩), h.far, By.ext h.bel hb⟩
/-- A call on the disk that leaves another room, or fuse. -/
theorem RS.stepped {w wr w' : World} {d g : Nat} {F : Fs} {room fu room' fu' : Int} {S : Nat → Prop} {A : Option Addr} {VB : Bs} {sm : Bool} {val : Value} {e : Ending} (h : RS w wr d g F room fu S A VB sm) (hs : DStep val d (lev F room' fu') S wr e w') :
    ∃ S', RS w w' d g F room' fu' S' A VB sm ∧ ∀ b, ¬ S b → b < wr.heap.size → w'.heap[b]? = wr.heap[b]? := by
  obtain ⟨-, S', hd, hS, hk⟩ := hs
  have hlt := (dlt h.sys.disk).1
  have hgl := h.sys.slot.lt
  have hz := hk.size
  refine ⟨S', ⟨⟨h.sys.slot.kept h.sys.sep hk, hd, fun e => ?_⟩, h.only, h.na, h.val, h.lies.keep (fun b hb => hk.block b hb.2.2 hb.1) (fun b hb => ⟨fun e => ?_, hb.2.1, Nat.lt_of_lt_of_le hb.2.2 hz⟩), ⟨fun b hb => ?_, h.far.2⟩, h.bel.trans (hk.below h.bel.size h.far.1)⟩, fun b hb hl => hk.block b hl hb⟩
  · rcases hS g e with h1 | h1
    · exact h.sys.sep h1
    · omega
  · rcases hS b e with h1 | h1
    · exact hb.1 h1
    · omega
  · rcases hS b hb with h1 | h1
    · exact h.far.1 b h1
    · have := h.bel.size; omega
/-- Behind a Save. -/
theorem save_cases {w w4 w5 : World} {d g : Nat} {F : Fs} {room fu : Int} {S : Nat → Prop} {A A2 : Option Addr} {VB D : Bs} {sm : Bool} {e : Ending} (h : RS w w4 d g F room fu S A VB sm) (hl2 : LiesS w4 (fun b => ¬ S b ∧ b ≠ g ∧ b < w4.heap.size) A2 D)
    (hp : SavePost g d [118] (saveX [118] D (lev F room fu)) S w4 e w5) :
    (∀ b, ¬ S b → b ≠ g → b < w4.heap.size → w5.heap[b]? = w4.heap[b]?) ∧
    ((65520 < D.length ∧ (saveX [118] D (lev F room fu)).1 = 7 ∧ ∃ S5, RS w w5 d g F room fu S5 A VB sm) ∨
     (D.length ≤ 65520 ∧ (saveX [118] D (lev F room fu)).1 = 0 ∧ ∃ G fu' S5, RS w w5 d g G room fu' S5 A2 D true) ∨
     (D.length ≤ 65520 ∧ (saveX [118] D (lev F room fu)).1 = 10 ∧ ∃ G fu' S5, RS w w5 d g G room fu' S5 A VB sm) ∨
     (D.length ≤ 65520 ∧ (saveX [118] D (lev F room fu)).1 = 11 ∧ ∃ s S5, FS w w5 d s room S5 A VB sm true A2 D)) := by
  obtain ⟨-, S5, hd5, hS5, hk5, hs5, hg5⟩ := hp
  have hz := hk5.size
  have hup : Up F := (dlt h.sys.disk).2.2.up
  have hlen : F.length ≤ 3 := only_len hup h.only
  have hbl : ∀ b, ¬ S b → b ≠ g → b < w4.heap.size → w5.heap[b]? = w4.heap[b]? := fun b h1 h2 h3 => hk5.block b h3 (fun e => by
    rcases e with e | e
    · exact h1 e
    · exact h2 e)
  have hfar : ∀ b, S5 b → w.heap.size ≤ b := fun b hb => by
    rcases hS5 b hb with h1 | h1
    · exact h.far.1 b h1
    · have := h.bel.size; omega
  have hbel : Below w.heap.size w w5 := h.bel.trans (hk5.below h.bel.size (fun b hb => by
    rcases hb with hb | hb
    · exact h.far.1 b hb
    · rw [hb]; exact h.far.2))
  have hcv : ∀ {A : Option Addr} {VB : Bs}, LiesS w4 (fun b => ¬ S b ∧ b ≠ g ∧ b < w4.heap.size) A VB → LiesS w5 (fun b => ¬ S5 b ∧ b ≠ g ∧ b < w5.heap.size) A VB := fun hl => hl.keep (fun b hb => hbl b hb.1 hb.2.1 hb.2.2) (fun b hb => ⟨fun e => by
    rcases hS5 b e with h1 | h1
    · exact hb.1 h1
    · omega, hb.2.1, Nat.lt_of_lt_of_le hb.2.2 hz⟩)
  have hmk : ∀ {G : Fs} {fu' : Int} {A : Option Addr} {VB : Bs} {sm : Bool}, (saveX [118] D (lev F room fu)).2 = lev G room fu' → (saveX [118] D (lev F room fu)).1 ≠ 11 → Only [118] G → NotAll (fileOf G [118]) → valOf (fileOf G [118]) = (if sm then some VB else none) → LiesS w4 (fun b => ¬ S b ∧ b ≠ g ∧ b < w4.heap.size) A VB → RS w w5 d g G room fu' S5 A VB sm := fun e1 e2 ho hn hv hl => by
    rw [e1] at hd5
    rw [decide_eq_false e2] at hs5
    exact ⟨⟨hs5, hd5, hg5⟩, ho, hn, hv, hcv hl, ⟨hfar, h.far.2⟩, hbel⟩
  refine ⟨hbl, ?_⟩
  by_cases h6 : 65520 < D.length
  · have e : saveX [118] D (lev F room fu) = (7, lev F room fu) := by unfold saveX; rw [if_pos h6]
    exact .inl ⟨h6, by rw [e], S5, hmk (by rw [e]) (by rw [e]; show (7 : Int) ≠ 11; decide) h.only h.na h.val h.lies⟩
  · rcases save_out (nm := [118]) rfl hup (by omega) h.na (show D.length ≤ 65520 by omega) room fu with ⟨h1, G, fu', _, h3, h4⟩ | ⟨h1, _, G, fu', h3, h4, h5, h7, h8⟩ | ⟨h1, _, h3, h4⟩
    · have hv := saved_val (next_lt _) (show D.length ≤ 65520 by omega) h4
      exact .inr (.inl ⟨by omega, h1, G, fu', S5, hmk h3 (by rw [h1]; decide) (only_same h.only h4.2.2.2) hv.2.2 hv.2.1 hl2⟩)
    · exact .inr (.inr (.inl ⟨by omega, h1, G, fu', S5, hmk h3 (by rw [h1]; decide) (only_same h.only h5) h8 (h7.trans h.val) h.lies⟩))
    · refine .inr (.inr (.inr ⟨by omega, h1, _, S5, hd5, by omega, fun m t => ?_, (hcv h.lies).keep (fun _ _ => rfl) (fun b hb => ⟨hb.1, hb.2.2⟩), (hcv hl2).keep (fun _ _ => rfl) (fun b hb => ⟨hb.1, hb.2.2⟩), hfar, hbel⟩))
      obtain ⟨G, g1, g2, g3, g4, g5⟩ := h4 m t
      refine ⟨G, g1, g2, only_same h.only g3, g5, ?_⟩
      rcases g4 with g4 | g4
      · exact .inl (g4.trans h.val)
      · exact .inr ⟨rfl, g4⟩
/-- A disk that fell, and the slot that was opened on it. -/
theorem FS.fallen {w wr w1 w2 : World} {d g' : Nat} {s : DS} {room : Int} {S : Nat → Prop} {A : Option Addr} {VB : Bs} {sm tried : Bool} {A2 : Option Addr} {D : Bs} {G : Fs} {S1 : Nat → Prop} (h : FS w wr d s room S A VB sm tried A2 D) (hd : DiskAt w1 d (lev G room 0) S1) (hS : ∀ b, S1 b → S b ∨ wr.heap.size ≤ b) (hk : Kept S wr w1) (hs : SlotAt w2 g' d [118] false) (hg : w1.heap.size ≤ g') (hb : Below w1.heap.size w1 w2)
    (ho : Only [118] G) (hn : NotAll (fileOf G [118])) :
    (valOf (fileOf G [118]) = (if sm then some VB else none) → RS w w2 d g' G room 0 S1 A VB sm) ∧ (valOf (fileOf G [118]) = some D → RS w w2 d g' G room 0 S1 A2 D true) ∧ LiesS w2 (fun b => b < w2.heap.size) A2 D := by
  have hz := hk.size
  have hz2 := hb.size
  have hsys : Sys w2 g' d [118] (lev G room 0) S1 := sys_new hd hs hg hb
  have hcv : ∀ {A : Option Addr} {VB : Bs}, LiesS wr (fun b => ¬ S b ∧ b < wr.heap.size) A VB → LiesS w2 (fun b => ¬ S1 b ∧ b ≠ g' ∧ b < w2.heap.size) A VB := fun hl => hl.keep (fun b hb2 => (hb.block b (by omega)).trans (hk.block b hb2.2 hb2.1)) (fun b hb2 => ⟨fun e => by
    rcases hS b e with h1 | h1
    · exact hb2.1 h1
    · omega, by omega, by omega⟩)
  have hfar : (∀ b, S1 b → w.heap.size ≤ b) ∧ w.heap.size ≤ g' := ⟨fun b hb2 => by
    rcases hS b hb2 with h1 | h1
    · exact h.far b h1
    · have := h.bel.size; omega, by have := h.bel.size; omega⟩
  have hbel : Below w.heap.size w w2 := By.ext (h.bel.trans (hk.below h.bel.size h.far)) hb
  exact ⟨fun hv => ⟨hsys, ho, hn, hv, hcv h.lies, hfar, hbel⟩, fun hv => ⟨hsys, ho, hn, hv, hcv h.lies2, hfar, hbel⟩, (hcv h.lies2).keep (fun _ _ => rfl) (fun b hb2 => hb2.2.2)⟩
theorem has_ok {f : Nat → Fl} {VB : Bs} {sm : Bool} (h : valOf f = if sm then some VB else none) : hasB f VB sm = true := by
  unfold hasB
  cases sm with
  | true => rw [h]; simp
  | false => rw [h]; simp
theorem fuse_lev (d : Nat) (F : Fs) (room fu : Int) (S : Nat → Prop) (n : Int) (w : World) (h : DiskAt w d (lev F room fu) S) (h0 : 0 ≤ n) (h1 : n ≤ 9223372036854775807) : Calls Tryd.prog 19 #[.pointer (some ⟨d, 0, none⟩), .int .i64 n] w (DStep (.int .i64 0) d (lev F room n) S w) := by
  have hf := fuse_any d (lev F room fu) S n w h h1
  rw [if_pos h0, show fuseS (lev F room fu) n = lev F room n by unfold fuseS; rw [if_pos h0]; rfl] at hf
  exact hf
/-- The act's box. -/
def BoxA (q : Nat) (kd xn : Int) (Ax : Option Addr) (nd cx mk : Nat) (w : World) : Prop := w.heap[q]? = some (.cells #[.int .i64 kd, .int .i64 xn, .slice Ax nd cx, .int .u64 (mk : Int)] tAct (0, 0))
theorem BoxA.cells {q : Nat} {kd xn : Int} {Ax : Option Addr} {nd cx mk : Nat} {w w' : World} (h : BoxA q kd xn Ax nd cx mk w) (hb : Below w.heap.size w w') : w'.cell? ⟨q, 0, none⟩ = some (.int .i64 kd) ∧ w'.cell? ⟨q, 1, none⟩ = some (.int .i64 xn) ∧ w'.cell? ⟨q, 2, none⟩ = some (.slice Ax nd cx) ∧ w'.cell? ⟨q, 3, none⟩ = some (.int .u64 (mk : Int)) := by
  have h' := (hb.block _ (row_lt h)).trans h
  exact ⟨by rw [cell_of_row w' q 0 _ _ _ h']; rfl, by rw [cell_of_row w' q 1 _ _ _ h']; rfl, by rw [cell_of_row w' q 2 _ _ _ h']; rfl, by rw [cell_of_row w' q 3 _ _ _ h']; rfl⟩
/-- What stands behind the act's own part: the slot is well, or the disk is to fall. -/
def CutP (w : World) (d g q : Nat) (kd xn : Int) (Ax : Option Addr) (nd cx mk : Nat) (v sb nx tr fl : Value) (wx : World) : Prop :=
  ∃ (A : Option Addr) (nv cv : Nat) (VB : Bs) (sm : Bool), v = .slice A nv cv ∧ nv = VB.length ∧ sb = .bool sm ∧ BoxA q kd xn Ax nd cx mk wx ∧
    ((fl = .bool false ∧ tr = .bool false ∧ ∃ F room fu S, RS w wx d g F room fu S A VB sm) ∨
     (∃ (tried : Bool) (A2 : Option Addr) (n2 c2 : Nat) (D2 : Bs) (s : DS) (room : Int) (S : Nat → Prop), fl = .bool true ∧ tr = .bool tried ∧ nx = .slice A2 n2 c2 ∧ n2 = D2.length ∧ FS w wx d s room S A VB sm tried A2 D2))
set_option maxRecDepth 100000 in
set_option maxHeartbeats 16000000 in
theorem run_any (A : Option Addr) (c : Nat) (l : List A1) (room : Int) (w : World) (hA : LiesA w w.heap.size A l) (hok : ActsOk l) (hl : l.length ≤ 1048576) (hroom : 0 ≤ room ∧ room ≤ 4194304) : Calls Tryd.prog 10 #[.slice A l.length c, .int .i64 room] w (True_ w) := by
  have HN := Lib.hid (new_any room w (by simp [placeB, hroom]))
  have HA := Lib.hid hA
  have HOK := Lib.hid hok
  have HL := Lib.hid hl
  have q1 := slotTest
  clear hA hok
  go_enter Tryd.func10, Tryd.ntmps10
  go_wp2_with fail
  refine HN.out.mono ?_
  rintro e w1 ⟨d, S, rfl, hd1, hS1, hb1⟩
  have HB1 := Lib.hid hb1
  have HS1 := Lib.hid hS1
  have HD1 := Lib.hid hd1
  have HOP := Lib.hid (sopen_any d (newDS room) S [118] w1 hd1 rfl rfl)
  clear HN hd1 hS1 hb1
  go_wp2_with fail
  refine HOP.out.mono ?_
  rintro e w2 ⟨g, rfl, hs2, hg2, hb2⟩
  have HR2 := Lib.hid (show RS w w2 d g [] room 0 S none [] false from ⟨sys_new HD1.out hs2 hg2 hb2, fun _ _ => rfl, notAll_nil _, rfl, fun hn => absurd hn (by simp), ⟨HS1.out, by have := HB1.out.size; omega⟩, By.ext HB1.out hb2⟩)
  clear HOP hs2 hg2 hb2
  go_wp2
  go_loopw [7, 9, 10, 11] (fun sp v sb i wr => ∃ (k g : Nat) (F : Fs) (room fu : Int) (S : Nat → Prop) (A : Option Addr) (nv cv : Nat) (VB : Bs) (sm : Bool), sp = .pointer (some ⟨g, 0, none⟩) ∧ v = .slice A nv cv ∧ nv = VB.length ∧ sb = .bool sm ∧ i = .int .i64 (k : Int) ∧ k ≤ 60 ∧ k ≤ l.length ∧ RS w wr d g F room fu S A VB sm) (fun _ _ _ i _ => 60 - (intOf i).toNat)
  case atStart => exact ⟨0, g, [], room, 0, S, none, 0, 0, [], false, rfl, rfl, rfl, rfl, rfl, Nat.zero_le _, Nat.zero_le _, HR2.out⟩
  case round =>
    obtain ⟨k, g, F, room, fu, S, Av, nv, cv, VB, sm, rfl, rfl, hnv, rfl, rfl, hk60, hkl, hrs⟩ := hrel
    have HRS := Lib.hid hrs
    have HNV := Lib.hid hnv
    clear hrs hnv
    by_cases hlt : k < l.length ∧ k < 60
    · obtain ⟨ga, o, Ax, cx, hAm, hga, hc0, hc1, hc2, hc3, hcx, hlx⟩ := HA.out.at_ hlt.1
      have HAO := Lib.hid (HOK.out _ (List.getElem_mem hlt.1))
      subst hAm
      have hd0 := (HRS.out.bel.cell (show (⟨ga, o + k * 4, none⟩ : Addr).block < w.heap.size from hga)).trans hc0
      have hd1 := (HRS.out.bel.cell (show (⟨ga, o + k * 4 + 1, none⟩ : Addr).block < w.heap.size from hga)).trans hc1
      have hd2 := (HRS.out.bel.cell (show (⟨ga, o + k * 4 + 2, none⟩ : Addr).block < w.heap.size from hga)).trans hc2
      have hd3 := (HRS.out.bel.cell (show (⟨ga, o + k * 4 + 3, none⟩ : Addr).block < w.heap.size from hga)).trans hc3
      have HLX := Lib.hid hlx
      obtain ⟨x, hx⟩ : ∃ x, x = l[k]'hlt.1 := ⟨_, rfl⟩
      rw [← hx] at hd0 hd1 hd2 hd3 HAO HLX hcx
      clear hx hc0 hc1 hc2 hc3 hlx hga
      obtain ⟨kd, xn, D, mk⟩ := x
      dsimp only at hd0 hd1 hd2 hd3 HLX hcx
      obtain ⟨nd, hnd⟩ : ∃ nd, nd = D.length := ⟨_, rfl⟩
      rw [← hnd] at hd2 hcx
      have HND := Lib.hid hnd
      have hk1 : k < l.length := hlt.1
      have hk2 : (k : Int) < 60 := by omega
      have HBX := Lib.hid (show BoxA wr.heap.size kd xn Ax nd cx mk (wr.alloc (.cells #[.int .i64 kd, .int .i64 xn, .slice Ax nd cx, .int .u64 (mk : Int)] tAct)) from heap_alloc_new wr _)
      have HR1 := Lib.hid (HRS.out.below (nAlloc (Below.refl wr.heap.size wr) (Nat.le_refl _) (.cells #[.int .i64 kd, .int .i64 xn, .slice Ax nd cx, .int .u64 (mk : Int)] tAct)))
      have HQS := Lib.hid (show ¬ S wr.heap.size ∧ wr.heap.size ≠ g from ⟨fun e => by have := (dlt HRS.out.sys.disk).1 _ e; omega, by have := HRS.out.sys.slot.lt; omega⟩)
      obtain ⟨wa, hwa⟩ : ∃ wa, wa = wr.alloc (.cells #[.int .i64 kd, .int .i64 xn, .slice Ax nd cx, .int .u64 (mk : Int)] tAct) := ⟨_, rfl⟩
      have HWA := Lib.hid hwa
      rw [← hwa] at HBX HR1
      obtain ⟨q, hq⟩ : ∃ q, q = wr.heap.size := ⟨_, rfl⟩
      rw [← hq] at HBX HQS
      have HQ := Lib.hid hq
      have HX := Lib.hid (fun (w' : World) (hb : Below wa.heap.size wa w') => HBX.out.cells hb)
      clear hnd hlt hq hwa
      go_upto_region 12 with fail
      rw [← HWA.out, ← HQ.out]
      clear hd0 hd1 hd2 hd3
      obtain ⟨k0, k1, k2, k3⟩ := HX.out wa (Below.refl _ _)
      have hkd : kd = 1 ∨ kd = 2 ∨ kd = 3 ∨ kd = 4 ∨ (kd ≠ 1 ∧ kd ≠ 2 ∧ kd ≠ 3 ∧ kd ≠ 4) := by omega
      go_quiet (fail)
      obtain ⟨wb, hwb⟩ : ∃ wb, wb = wa.drewN nq := ⟨_, rfl⟩
      have HAB := Lib.hid (show Below wa.heap.size wa wb by rw [hwb]; exact ⟨rfl, rfl, rfl, Nat.le_refl _, fun _ _ => rfl⟩)
      rw [← hwb]
      clear k0 k1 k2 k3 hwb
      obtain ⟨k0, k1, k2, k3⟩ := HX.out wb HAB.out
      have HRB := Lib.hid (HR1.out.below HAB.out)
      have HBB := Lib.hid (show BoxA q kd xn Ax nd cx mk wb from (HAB.out.block _ (row_lt HBX.out)).trans HBX.out)
      clear HRS HR1
      go_upto_block 2 with fail
      obtain ⟨K2, hK2⟩ : ∃ K2, K2 = (kd == 2) := ⟨_, rfl⟩
      rw [← hK2]
      have HDD := Lib.hid (show D.length ≤ 1048576 from HAO.out.data)
      have HLB := Lib.hid (lies_far HLX.out HRB.out.bel (Nat.le_refl _))
      go_cut [9, 10, 13, 14, 15] (fun v sb nx tr fl wx => CutP w d g q kd xn Ax nd cx mk v sb nx tr fl wx)
      case first =>
        rcases hkd with rfl | rfl | rfl | rfl | ⟨e1, e2, e3, e4⟩
        · obtain rfl : K2 = false := hK2
          clear k0 k1 k2 k3
          obtain ⟨k0, k1, k2, k3⟩ := HBB.out.cells (nAlloc (Below.refl wb.heap.size wb) (Nat.le_refl _) (.cells #[] 5))
          go_upto_region 16 with (at_builtin; refine wpList_app rfl (.tmp 56) (.tmp 58) rfl rfl (By.Own.made wb wb.heap.size #[] 0 (Nat.le_refl _) (by decide) rfl) rfl HND.out ((HLB.out.alloc (Nat.le_refl _) _)) (by have h : D.length ≤ 1048576 := HDD.out; simp; omega) (by simp) ?_; intro v3 w3 ho3 hb3 hg3)
          obtain ⟨A3, c3, hv3, -⟩ := ho3.form
          subst hv3
          have HO3 := Lib.hid (show Own wb.heap.size w3 (.slice A3 nd c3) D from by have h := ho3; rw [List.nil_append, ← HND.out] at h; exact h)
          have hb03 : Below wb.heap.size wb w3 := (nAlloc (Below.refl _ _) (Nat.le_refl _) (.cells #[] 5)).trans hb3
          have HB3 := Lib.hid hb03
          have HR3 := Lib.hid (HRB.out.below hb03)
          have HX3 := Lib.hid (show BoxA q 1 xn Ax nd cx mk w3 from (hb03.block _ (row_lt HBB.out)).trans HBB.out)
          have HL3 := Lib.hid (lies_far HLX.out HR3.out.bel (Nat.le_refl _))
          rw [List.nil_append, ← HND.out]
          clear ho3 hb3 hg3 hb03 k0 k1 k2 k3
          obtain ⟨k0, k1, k2, k3⟩ := HX3.out.cells (nAlloc (Below.refl w3.heap.size w3) (Nat.le_refl _) (.cells #[] 5))
          obtain ⟨k4, k5, k6, k7⟩ := HX3.out.cells (Below.refl _ _)
          go_wp2_with (at_builtin; refine wpList_app rfl (.tmp 61) (.tmp 63) rfl rfl (By.Own.made w3 w3.heap.size #[] 0 (Nat.le_refl _) (by decide) rfl) rfl HND.out ((HL3.out.alloc (Nat.le_refl _) _)) (by have h : D.length ≤ 1048576 := HDD.out; simp; omega) (by simp) ?_; intro v4 w4 ho4 hb4 hg4)
          obtain ⟨A4, c4, hv4, -⟩ := ho4.form
          subst hv4
          have HO4 := Lib.hid (show Own w3.heap.size w4 (.slice A4 nd c4) D from by have h := ho4; rw [List.nil_append, ← HND.out] at h; exact h)
          have hb34 : Below w3.heap.size w3 w4 := (nAlloc (Below.refl _ _) (Nat.le_refl _) (.cells #[] 5)).trans hb4
          have HR4 := Lib.hid (HR3.out.below hb34)
          have HX4 := Lib.hid (show BoxA q 1 xn Ax nd cx mk w4 from (hb34.block _ (row_lt HX3.out)).trans HX3.out)
          have HO34 := Lib.hid (HO3.out.kept hb34 (Nat.le_refl _))
          have HLT := Lib.hid (show (∀ b, S b → b < wb.heap.size) ∧ g < wb.heap.size ∧ wb.heap.size ≤ w3.heap.size from ⟨(dlt HRB.out.sys.disk).1, HRB.out.sys.slot.lt, HB3.out.size⟩)
          have HSV := Lib.hid (save_any g d [118] (lev F room fu) S D A4 nd c4 w4 HR4.out.sys.slot HR4.out.sys.disk HR4.out.sys.sep rfl rfl (by have := only_len (show Up F from (dlt HR4.out.sys.disk).2.2.up) HR4.out.only; unfold DS.cnt lev; simp; omega) HND.out
            ((LiesS.own HO4.out).keep (fun _ _ => rfl) (fun b hb => ⟨fun e => by have := HLT.out.1 b e; have := HLT.out.2.2; omega, hb.2⟩)))
          have HL2 := Lib.hid (show LiesS w4 (fun b => ¬ S b ∧ b ≠ g ∧ b < w4.heap.size) A3 D from (LiesS.own HO34.out).keep (fun _ _ => rfl) (fun b hb => ⟨fun e => by have := HLT.out.1 b e; omega, by have := HLT.out.2.1; omega, hb.2⟩))
          rw [List.nil_append, ← HND.out]
          clear ho4 hb4 hg4 hb34 k0 k1 k2 k3 k4 k5 k6 k7
          go_wp2_with fail
          refine HSV.out.mono ?_
          intro e w5 hp
          have HSC := Lib.hid (save_cases HR4.out HL2.out hp)
          have he := hp.1
          subst he
          have HX5 := Lib.hid (show BoxA q 1 xn Ax nd cx mk w5 from (HSC.out.1 q HQS.out.1 HQS.out.2 (row_lt HX4.out)).trans HX4.out)
          obtain ⟨k0, k1, k2, k3⟩ := HX5.out.cells (Below.refl _ _)
          obtain ⟨E, hE⟩ : ∃ E, E = (saveX [118] D (lev F room fu)).1 := ⟨_, rfl⟩
          rw [← hE] at HSC ⊢
          have HQ2 := Lib.hid (show q < w4.heap.size from row_lt HX4.out)
          clear hp HSV hE
          rcases HSC.out.2 with ⟨h6, he, S5, hr⟩ | ⟨h6, he, G, fu', S5, hr⟩ | ⟨h6, he, G, fu', S5, hr⟩ | ⟨h6, he, s5, S5, hf⟩
          · subst he
            have h6i : (65520 : Int) < (nd : Int) := by have := HND.out; omega
            have HFIN := Lib.hid (show CutP w d g q 1 xn Ax nd cx mk (.slice Av nv cv) (.bool sm) (.slice A3 nd c3) (.bool false) (.bool false) w5 from ⟨Av, nv, cv, VB, sm, rfl, HNV.out, rfl, HX5.out, .inl ⟨rfl, rfl, _, _, _, _, hr⟩⟩)
            clear hr h6
            go_wp2
            go_meet
            exact HFIN.out
          · subst he
            have h6i : ¬ ((65520 : Int) < (nd : Int)) := by have := HND.out; omega
            have HFIN := Lib.hid (show CutP w d g q 1 xn Ax nd cx mk (.slice A3 nd c3) (.bool true) (.slice A3 nd c3) (.bool false) (.bool false) w5 from ⟨A3, nd, c3, D, true, rfl, HND.out, rfl, HX5.out, .inl ⟨rfl, rfl, _, _, _, _, hr⟩⟩)
            clear hr h6
            go_wp2
            go_meet
            exact HFIN.out
          · subst he
            have h6i : ¬ ((65520 : Int) < (nd : Int)) := by have := HND.out; omega
            have HFIN := Lib.hid (show CutP w d g q 1 xn Ax nd cx mk (.slice Av nv cv) (.bool sm) (.slice A3 nd c3) (.bool false) (.bool false) w5 from ⟨Av, nv, cv, VB, sm, rfl, HNV.out, rfl, HX5.out, .inl ⟨rfl, rfl, _, _, _, _, hr⟩⟩)
            clear hr h6
            go_wp2
            go_meet
            exact HFIN.out
          · subst he
            have h6i : ¬ ((65520 : Int) < (nd : Int)) := by have := HND.out; omega
            have HFIN := Lib.hid (show CutP w d g q 1 xn Ax nd cx mk (.slice Av nv cv) (.bool sm) (.slice A3 nd c3) (.bool true) (.bool true) w5 from ⟨Av, nv, cv, VB, sm, rfl, HNV.out, rfl, HX5.out, .inr ⟨true, A3, nd, c3, D, s5, room, S5, rfl, rfl, rfl, HND.out, hf⟩⟩)
            clear hf h6
            go_wp2
            go_meet
            exact HFIN.out
        · obtain rfl : K2 = true := hK2
          have HFIN := Lib.hid (show CutP w d g q 2 xn Ax nd cx mk (.slice Av nv cv) (.bool sm) (.slice none 0 0) (.bool false) (.bool true) wb from ⟨Av, nv, cv, VB, sm, rfl, HNV.out, rfl, HBB.out, .inr ⟨false, none, 0, 0, [], _, room, S, rfl, rfl, rfl, rfl, FS.of HRB.out⟩⟩)
          go_wp2
          go_meet
          exact HFIN.out
        · obtain rfl : K2 = false := hK2
          have HAL := Lib.hid (fun (wx : World) (room fu : Int) (S : Nat → Prop) (hr : RS w wx d g F room fu S Av VB sm) (hx : BoxA q 3 xn Ax nd cx mk wx) => (show CutP w d g q 3 xn Ax nd cx mk (.slice Av nv cv) (.bool sm) (.slice none 0 0) (.bool false) (.bool false) wx from ⟨Av, nv, cv, VB, sm, rfl, HNV.out, rfl, hx, .inl ⟨rfl, rfl, _, _, _, _, hr⟩⟩))
          by_cases hx0 : 0 < xn
          · have HT := Lib.hid (show 0 ≤ xn % 8 ∧ xn % 8 < 8 by omega)
            obtain ⟨n8, hn8⟩ : ∃ n8, n8 = xn % 8 := ⟨_, rfl⟩
            have HFU := Lib.hid (fuse_lev d F room fu S n8 wb HRB.out.sys.disk (by rw [hn8]; exact HT.out.1) (by rw [hn8]; have := HT.out.2; omega))
            have HN8 := Lib.hid hn8
            clear hn8
            go_upto_region 28 with fail
            go_wp2_with fail
            rw [← HN8.out]
            refine HFU.out.mono ?_
            intro e w5 hst
            obtain ⟨S5, hr5, hk5⟩ := HRB.out.stepped hst
            have he := hst.1
            subst he
            have HFIN := Lib.hid (HAL.out w5 _ _ _ hr5 ((hk5 q HQS.out.1 (row_lt HBB.out)).trans HBB.out))
            clear hst hr5 hk5
            go_wp2
            go_meet
            exact HFIN.out
          · have HFIN := Lib.hid (HAL.out wb _ _ _ HRB.out HBB.out)
            go_wp2
            go_meet
            exact HFIN.out
        · obtain rfl : K2 = false := hK2
          have HAL := Lib.hid (fun (wx : World) (room fu : Int) (S : Nat → Prop) (hr : RS w wx d g F room fu S Av VB sm) (hx : BoxA q 4 xn Ax nd cx mk wx) => (show CutP w d g q 4 xn Ax nd cx mk (.slice Av nv cv) (.bool sm) (.slice none 0 0) (.bool false) (.bool false) wx from ⟨Av, nv, cv, VB, sm, rfl, HNV.out, rfl, hx, .inl ⟨rfl, rfl, _, _, _, _, hr⟩⟩))
          by_cases hx0 : 0 ≤ xn
          · by_cases hx1 : xn < 100000
            · have HUS := Lib.hid (fun (w' : World) (hb : Below wb.heap.size wb w') => used_any d (lev F room fu) S w' (HRB.out.sys.disk.below hb))
              have HRO0 := Lib.hid (fun (w' : World) (hb : Below wb.heap.size wb w') (n : Int) => room_any d (lev F room fu) S n w' (HRB.out.sys.disk.below hb))
              have HCC := Lib.hid (fun (w' : World) (hb : Below wb.heap.size wb w') => (HBB.out.cells hb).2.1)
              have HUB := Lib.hid (show fsize (lev F room fu).files ≤ 12582912 by
                have hok := (dlt HRB.out.sys.disk).2.2
                have h1 := fsize_le (show Fit F from hok.fit)
                have h2 := only_len (show Up F from hok.up) HRB.out.only
                show fsize F ≤ _
                omega)
              obtain ⟨us, hus⟩ : ∃ us, us = fsize (lev F room fu).files := ⟨_, rfl⟩
              rw [← hus] at HUS HUB
              have hub := HUB.out
              have hwr : IntKind.i64.wrap ((us : Int) + xn) = (us : Int) + xn := IntWalk.i64_in _ ⟨by omega, by omega⟩
              have HXQ := Lib.hid (fun (w5 : World) (hb : ∀ b, ¬ S b → b < wb.drew.heap.size → w5.heap[b]? = wb.drew.heap[b]?) => ((hb q HQS.out.1 (row_lt HBB.out)).trans HBB.out : BoxA q 4 xn Ax nd cx mk w5))
              clear hus
              obtain ⟨V, hV⟩ : ∃ V : Int, V = (if placeB ((us : Int) + xn) then 0 else 1) := ⟨_, rfl⟩
              have HRO := Lib.hid (fun (w' : World) (hb : Below wb.heap.size wb w') => (show Calls Tryd.prog 20 #[.pointer (some ⟨d, 0, none⟩), .int .i64 ((us : Int) + xn)] w' (DStep (.int .i64 V) d (roomS (lev F room fu) ((us : Int) + xn)) S w') by rw [hV]; exact HRO0.out w' hb _))
              clear hV HRO0
              go_upto_region 31 with fail
              go_region_held3 (fun w' => w'.cell? ⟨q, 1, none⟩ = some (.int .i64 xn))
                (first
                  | with_reducible assumption
                  | exact HCC.out _ (Below.refl _ _)
                  | exact HCC.out _ (Below.refl _ _).drew
                  | exact HX5.out)
                (first
                  | (go_at_call 14; refine (HUS.out _ (Below.refl _ _).drew).mono ?_; rintro e w4 ⟨rfl, hw4⟩; subst hw4)
                  | (go_at_call 20; refine (HRO.out _ (Below.refl _ _).drew).mono ?_; intro e w5 hst
                     have HST := Lib.hid hst
                     have hkk : ∀ b, ¬ S b → b < wb.drew.heap.size → w5.heap[b]? = wb.drew.heap[b]? := fun b hb hl => by
                       obtain ⟨_, _, _, _, hk⟩ := hst
                       exact hk.block b hl hb
                     have HXB := Lib.hid (HXQ.out w5 hkk)
                     have HX5 := Lib.hid (show w5.cell? ⟨q, 1, none⟩ = some (.int .i64 xn) from (BoxA.cells HXB.out (Below.refl _ _)).2.1)
                     have he := hst.1
                     subst he
                     clear hst hkk))
              have HRD := Lib.hid (HRB.out.below (Below.refl wb.heap.size wb).drew)
              cases hpb : placeB ((us : Int) + xn) with
              | true =>
                have hs := HST.out
                rw [show roomS (lev F room fu) ((us : Int) + xn) = lev F ((us : Int) + xn) fu by unfold roomS; rw [if_pos hpb]; rfl] at hs
                obtain ⟨S5, hr5, -⟩ := HRD.out.stepped hs
                have HFIN := Lib.hid (HAL.out w5 _ _ _ hr5 HXB.out)
                clear hs hr5 hpb
                go_wp2
                go_meet
                exact HFIN.out
              | false =>
                have hs := HST.out
                rw [show roomS (lev F room fu) ((us : Int) + xn) = lev F room fu by unfold roomS; rw [hpb, if_neg (by decide)]] at hs
                obtain ⟨S5, hr5, -⟩ := HRD.out.stepped hs
                have HFIN := Lib.hid (HAL.out w5 _ _ _ hr5 HXB.out)
                clear hs hr5 hpb
                go_wp2
                go_meet
                exact HFIN.out
            · have HFIN := Lib.hid (HAL.out wb _ _ _ HRB.out HBB.out)
              go_wp2
              go_meet
              exact HFIN.out
          · have HFIN := Lib.hid (HAL.out wb _ _ _ HRB.out HBB.out)
            go_wp2
            go_meet
            exact HFIN.out
        · obtain rfl : K2 = false := by rw [hK2]; exact beq_eq_false_iff_ne.2 e2
          have e1' : (kd == 1) = false := beq_eq_false_iff_ne.2 e1
          have e3' : (kd == 3) = false := beq_eq_false_iff_ne.2 e3
          have e4' : (kd == 4) = false := beq_eq_false_iff_ne.2 e4
          have HFIN := Lib.hid (show CutP w d g q kd xn Ax nd cx mk (.slice Av nv cv) (.bool sm) (.slice none 0 0) (.bool false) (.bool false) wb from ⟨Av, nv, cv, VB, sm, rfl, HNV.out, rfl, HBB.out, .inl ⟨rfl, rfl, _, _, _, _, HRB.out⟩⟩)
          clear e1' e3' e4' e2
          have HE3 := Lib.hid e3
          have HE4 := Lib.hid e4
          clear e3 e4
          go_upto_region 26 with fail
          have e3 := HE3.out
          go_upto_region 29 with fail
          have e4 := HE4.out
          go_wp2
          go_meet
          exact HFIN.out
      obtain ⟨A6, n6, c6, V6, s6, hv6, hn6, hs6, hx6, hcase⟩ := hcut
      subst hv6
      subst hs6
      have HN6 := Lib.hid hn6
      have HX6 := Lib.hid hx6
      have HMK := Lib.hid (show mk < 18446744073709551616 from HAO.out.mask)
      clear k0 k1 k2 k3 hn6 hx6 hkd
      obtain ⟨k0, k1, k2, k3⟩ := HX6.out.cells (Below.refl _ _)
      rcases hcase with ⟨hf6, ht6, F6, room6, fu6, S6, hr6⟩ | ⟨tried, A7, n7, c7, D7, s7, room7, S7, hf6, ht6, hx7, hn7, hfs⟩
      · subst hf6
        subst ht6
        have HR6 := Lib.hid hr6
        clear hr6
        have hhs := has_any g d [118] (lev F6 room6 fu6) S6 V6 A6 n6 c6 s6 _ HR6.out.sys.slot HR6.out.sys.disk rfl rfl HN6.out (HR6.out.lies.lies (fun b hb => hb.2.2))
        rw [show fileOf (lev F6 room6 fu6).files [118] = fileOf F6 [118] from rfl, has_ok HR6.out.val] at hhs
        have HHS := Lib.hid hhs
        clear hhs
        go_wp2_with fail
        refine HHS.out.mono ?_
        rintro e wz ⟨rfl, hbz⟩
        have HFIN := Lib.hid (HR6.out.below hbz)
        have HFN := Lib.hid HN6.out
        clear hbz HHS
        go_wp2
        go_roundw
        case rel => exact ⟨k + 1, g, F6, room6, fu6, S6, A6, n6, c6, V6, s6, rfl, rfl, HFN.out, rfl, by go_num, by omega, by omega, HFIN.out⟩
        case measure => simp [intOf]; omega
      · subst hf6
        subst ht6
        subst hx7
        have HFS := Lib.hid hfs
        have HN7 := Lib.hid hn7
        have HFL := Lib.hid (fall_any d s7 S7 mk xn _ hfs.disk HMK.out (by have := hfs.few; omega))
        obtain ⟨G, hG, hGu, hGo, hGn, hGv⟩ := hfs.outs mk xn
        rw [hG] at HFL
        have HG := Lib.hid (And.intro hGu (And.intro hGo (And.intro hGn hGv)))
        clear hfs hn7 hG hGu hGo hGn hGv
        go_wp2_with fail
        refine HFL.out.mono ?_
        rintro e w8 ⟨rfl, S8, hd8, hS8, hk8⟩
        have HD8 := Lib.hid hd8
        have HS8 := Lib.hid hS8
        have HK8 := Lib.hid hk8
        have HOP := Lib.hid (sopen_any d (lev G room7 0) S8 [118] w8 hd8 rfl rfl)
        clear hd8 hS8 hk8 HFL k0 k1 k2 k3
        go_wp2_with fail
        refine HOP.out.mono ?_
        rintro e w9 ⟨g9, rfl, hs9, hg9, hb9⟩
        have HFF := Lib.hid (HFS.out.fallen HD8.out HS8.out HK8.out hs9 hg9 hb9 HG.out.2.1 HG.out.2.2.1)
        have HSY9 := Lib.hid (sys_new HD8.out hs9 hg9 hb9)
        clear hs9 hg9 hb9 HOP
        cases tried with
        | false =>
          have HR9 := Lib.hid (HFF.out.1 (by rcases HG.out.2.2.2 with h | h; exact h; exact absurd h.1 (by decide)))
          have hhs := has_any g9 d [118] (lev G room7 0) S8 V6 A6 n6 c6 s6 _ HR9.out.sys.slot HR9.out.sys.disk rfl rfl HN6.out (HR9.out.lies.lies (fun b hb => hb.2.2))
          rw [show fileOf (lev G room7 0).files [118] = fileOf G [118] from rfl, has_ok HR9.out.val] at hhs
          have HHS := Lib.hid hhs
          clear hhs
          go_wp2_with fail
          refine HHS.out.mono ?_
          rintro e wz ⟨rfl, hbz⟩
          have HFIN := Lib.hid (HR9.out.below hbz)
          have HFN := Lib.hid HN6.out
          clear hbz HHS
          go_wp2
          go_roundw
          case rel => exact ⟨k + 1, g9, G, room7, 0, S8, A6, n6, c6, V6, s6, rfl, rfl, HFN.out, rfl, by go_num, by omega, by omega, HFIN.out⟩
          case measure => simp [intOf]; omega
        | true =>
          have HL9 := Lib.hid (HFF.out.2.2)
          have hrs9 : Sys w9 g9 d [118] (lev G room7 0) S8 := HSY9.out
          have hh9 := has_any g9 d [118] (lev G room7 0) S8 D7 A7 n7 c7 true w9 hrs9.slot hrs9.disk rfl rfl HN7.out (HL9.out.lies (fun b hb => hb))
          rw [show fileOf (lev G room7 0).files [118] = fileOf G [118] from rfl] at hh9
          have HHT := Lib.hid hh9
          clear hrs9 hh9
          cases hB : hasB (fileOf G [118]) D7 true with
          | true =>
            have hH := HHT.out
            rw [hB] at hH
            have HHU := Lib.hid hH
            have HR9 := Lib.hid (HFF.out.2.1 (by unfold hasB at hB; simpa using hB))
            clear hH HHT hB
            go_wp2_with fail
            refine HHU.out.mono ?_
            rintro e wy ⟨rfl, hby⟩
            have HRY := Lib.hid (HR9.out.below hby)
            clear hby HHU
            have hhs := has_any g9 d [118] (lev G room7 0) S8 D7 A7 n7 c7 true _ HRY.out.sys.slot HRY.out.sys.disk rfl rfl HN7.out (HRY.out.lies.lies (fun b hb => hb.2.2))
            rw [show fileOf (lev G room7 0).files [118] = fileOf G [118] from rfl, has_ok HRY.out.val] at hhs
            have HHS := Lib.hid hhs
            clear hhs
            go_wp2_with fail
            refine HHS.out.mono ?_
            rintro e wz ⟨rfl, hbz⟩
            have HFIN := Lib.hid (HRY.out.below hbz)
            have HFN := Lib.hid HN7.out
            clear hbz HHS
            go_wp2
            go_roundw
            case rel => exact ⟨k + 1, g9, G, room7, 0, S8, A7, n7, c7, D7, true, rfl, rfl, HFN.out, rfl, by go_num, by omega, by omega, HFIN.out⟩
            case measure => simp [intOf]; omega
          | false =>
            have hH := HHT.out
            rw [hB] at hH
            have HHU := Lib.hid hH
            have HR9 := Lib.hid (HFF.out.1 (by
              rcases HG.out.2.2.2 with h | h
              · exact h
              · unfold hasB at hB
                rw [h.2] at hB
                simp at hB))
            clear hH HHT hB
            go_wp2_with fail
            refine HHU.out.mono ?_
            rintro e wy ⟨rfl, hby⟩
            have HRY := Lib.hid (HR9.out.below hby)
            clear hby HHU
            have hhs := has_any g9 d [118] (lev G room7 0) S8 V6 A6 n6 c6 s6 _ HRY.out.sys.slot HRY.out.sys.disk rfl rfl HN6.out (HRY.out.lies.lies (fun b hb => hb.2.2))
            rw [show fileOf (lev G room7 0).files [118] = fileOf G [118] from rfl, has_ok HRY.out.val] at hhs
            have HHS := Lib.hid hhs
            clear hhs
            go_wp2_with fail
            refine HHS.out.mono ?_
            rintro e wz ⟨rfl, hbz⟩
            have HFIN := Lib.hid (HRY.out.below hbz)
            have HFN := Lib.hid HN6.out
            clear hbz HHS
            go_wp2
            go_roundw
            case rel => exact ⟨k + 1, g9, G, room7, 0, S8, A6, n6, c6, V6, s6, rfl, rfl, HFN.out, rfl, by go_num, by omega, by omega, HFIN.out⟩
            case measure => simp [intOf]; omega
    · have hl2 : k = l.length ∨ (k = 60 ∧ k < l.length) := by omega
      have HBB := Lib.hid HRS.out.bel
      rcases hl2 with rfl | ⟨rfl, hl3⟩
      · go_wp2
        go_ret
        exact ⟨rfl, HBB.out⟩
      · go_wp2
        go_ret
        exact ⟨rfl, HBB.out⟩
end Go.Proofs.YtjnmolpopjapnaaDoor.So
