/- Package wal: toLabel of the one name that a new log's file has, as a contract of a call. | Package wal: find on a disk with the one file that a new log has, as a contract of a call. | Package wal: Open of a disk with the one file that a new log has, as a contract of a call. -/
import Derived.Test.YtnjifhbooikdbaaGreatDoorWg2
/-! Package wal: toLabel of the one name that a new log's file has, as a contract of a call. -/
namespace Go.Proofs.YtnjifhbooikdbaaGreatDoor.Wa
open Go.RowKit Go.Maps By Mp Dk

theorem ret_tolab {w4 : World} {r : Nat} {a0 a1 a2 : Value} {tm : Array Value} (h3 : tm[2]?.getD undef = .pointer (some ⟨r, 0, none⟩)) (hrow : w4.heap[r]? = some (.cells #[a0, a1, a2] tLab (0, 0))) :
    (results Tryz.f36 tm).run Tryz.prog w4 = .ok (.agg #[a0, a1, a2]) w4 := by
  have hres : Tryz.f36.results = #[.cell 2 56] := by kernel_rfl
  have hlv : (loadVar 56 ⟨r, 0, none⟩).run Tryz.prog w4 = .ok (.agg #[a0, a1, a2]) w4 := run_loadVar_row w4 _ _ _ _ _ _ hrow Tryz.underlying56 rfl (by kernel_rfl)
  unfold results
  rw [hres]
  simp [asAddr, hlv, h3]
set_option maxRecDepth 100000 in
set_option maxHeartbeats 4000000 in
theorem toLabel_w (w : World) : Calls Tryz.prog 36 #[.string { data := #[119, 46, 48, 46, 49, 46, 98] }] w (RetB (.agg #[.int .u64 0, .int .u64 1, .bool true]) w) := by
  have HB1 := Lib.hid (bAlloc (Below.refl w.heap.size w) (.cells #[.int .u64 0, .int .u64 0, .bool false] 56))
  have HR1 := Lib.hid (heap_alloc_new w (.cells #[.int .u64 0, .int .u64 0, .bool false] 56))
  have HNM := Lib.hid (show ∀ w', Calls Tryz.prog 24 #[.agg #[.int .u64 0, .int .u64 1, .bool true]] w' (RetB (.string { data := #[119, 46, 48, 46, 49, 46, 98] }) w') from fun w' => by
    have h := lab_name_any seg0 w' (by decide) (by decide)
    rw [seg0_name] at h
    exact h)
  go_enter Tryz.func36, Tryz.ntmps36
  go_wp2_with fail
  generalize w.alloc (.cells #[.int .u64 0, .int .u64 0, .bool false] 56) = w1 at *
  refine (split_w w1).mono ?_
  rintro e w2 ⟨r, rfl, hr1, hr2, hb2⟩
  have HB2 := Lib.hid (show Below w.heap.size w w2 from By.ext HB1.out hb2)
  have HR2 := Lib.hid ((hb2.block _ (row_lt HR1.out)).trans HR1.out)
  have HS2 := Lib.hid hr2
  clear hr1 hr2 hb2
  have d1 : w2.cell? ⟨r, 1, none⟩ = some (.string { data := #[48] }) := (cell_of_row w2 r 1 _ _ _ HS2.out).trans rfl
  go_wp2_with fail
  refine (parse_0 w2).mono ?_
  rintro e w3 ⟨rfl, hb3⟩
  have HB3 := Lib.hid (show Below w.heap.size w w3 from By.ext HB2.out hb3)
  have HR3 := Lib.hid ((hb3.block _ (row_lt HR2.out)).trans HR2.out)
  have HS3 := Lib.hid ((hb3.block _ (row_lt HS2.out)).trans HS2.out)
  clear hb3 d1
  have d2 : w3.cell? ⟨r, 2, none⟩ = some (.string { data := #[49] }) := (cell_of_row w3 r 2 _ _ _ HS3.out).trans rfl
  go_wp2_with fail
  refine (parse_1 w3).mono ?_
  rintro e w4 ⟨rfl, hb4⟩
  have HB4 := Lib.hid (show Below w.heap.size w w4 from By.ext HB3.out hb4)
  have HR4 := Lib.hid ((hb4.block _ (row_lt HR3.out)).trans HR3.out)
  clear hb4 d2 HS2 HS3
  go_wp2_with fail
  have HNA := Lib.hid (heap_alloc_new w4 (.cells #[.int .u64 0, .int .u64 1, .bool true] 56))
  have HRA := Lib.hid ((heap_alloc_old w4 (.cells #[.int .u64 0, .int .u64 1, .bool true] 56) (row_lt HR4.out)).trans HR4.out)
  have HBA := Lib.hid (bAlloc HB4.out (.cells #[.int .u64 0, .int .u64 1, .bool true] 56))
  refine (HNM.out _).mono ?_
  rintro e w6 ⟨rfl, hb6⟩
  have hn6 := (hb6.block _ (row_lt HNA.out)).trans HNA.out
  have hr6 := (hb6.block _ (row_lt HRA.out)).trans HRA.out
  have HR6 := Lib.hid hr6
  have HB6 := Lib.hid (show Below w.heap.size w w6 from By.ext HBA.out hb6)
  have e0 : w6.cell? ⟨w4.heap.size, 0, none⟩ = some (.int .u64 0) := (cell_of_row w6 _ 0 _ _ _ hn6).trans rfl
  have e1 : w6.cell? ⟨w4.heap.size, 1, none⟩ = some (.int .u64 1) := (cell_of_row w6 _ 1 _ _ _ hn6).trans rfl
  have e2 : w6.cell? ⟨w4.heap.size, 2, none⟩ = some (.bool true) := (cell_of_row w6 _ 2 _ _ _ hn6).trans rfl
  have f6 : ∀ i, w6.frozen? ⟨w.heap.size, i, none⟩ = false := fun i => frozen_of_row w6 _ i _ _ hr6
  have c0 : w6.cell? ⟨w.heap.size, 0, none⟩ = some (.int .u64 0) := (cell_of_row w6 _ 0 _ _ _ hr6).trans rfl
  have c1 : w6.cell? ⟨w.heap.size, 1, none⟩ = some (.int .u64 0) := (cell_of_row w6 _ 1 _ _ _ hr6).trans rfl
  have c2 : w6.cell? ⟨w.heap.size, 2, none⟩ = some (.bool false) := (cell_of_row w6 _ 2 _ _ _ hr6).trans rfl
  clear hn6 hr6 hb6 HNA HRA HBA
  go_wp2
  exact bodyPost_ret (ret_tolab rfl (Go.heap_setCell_same _ _ 2 _ _ (.bool true) (Go.heap_setCell_same _ _ 1 _ _ (.int .u64 1) (Go.heap_setCell_same w6 _ 0 _ _ (.int .u64 0) HR6.out)))) rfl ⟨rfl, bSet (bSet (bSet HB6.out _ (Nat.le_refl _) _) _ (Nat.le_refl _) _) _ (Nat.le_refl _) _⟩
end Go.Proofs.YtnjifhbooikdbaaGreatDoor.Wa

/-! Package wal: find on a disk with the one file that a new log has, as a contract of a call. -/
namespace Go.Proofs.YtnjifhbooikdbaaGreatDoor.Wa
open Go.RowKit Go.Maps By Mp Dk

abbrev nmW : Bs := [119, 46, 48, 46, 49, 46, 98]
abbrev segW (rs : List Bs) : Seg := ⟨0, 1, true, endsOf 0 rs⟩
theorem ss_at {w : World} {base : Nat} {A : Option Addr} {n c : Nat} {nm : Bs} (hn : n = 1) (h : w.ownsRow base 9 1 (.slice A n c) n [.string (str nm)]) : ∃ q, A = some ⟨q, 0, none⟩ ∧ q < w.heap.size ∧ w.cell? ⟨q, 0, none⟩ = some (.string (str nm)) := by
  subst hn
  rcases h.2 with ⟨hv, h0⟩ | ⟨g, cap, cur, hv, hb, hg, hnc, hm, hs, ht⟩
  · cases h0
  · injection hv with e1 e2 e3
    refine ⟨g, e1, row_lt hg, ?_⟩
    rw [cell_of_row w g 0 _ _ _ hg]
    have h4 : (cur.toList.take (1 * 1))[0]? = some (.string (str nm)) := by rw [ht]; rfl
    rw [List.getElem?_take] at h4
    simpa using h4
def LabW (rs : List Bs) (w : World) (e : Ending) (w' : World) : Prop := ∃ A c, e = .returned (.agg #[.int .u64 0, .int .u64 1, .bool true, .slice A (endsOf 0 rs).length c]) ∧ OwnI w.heap.size w' (.slice A (endsOf 0 rs).length c) (endsOf 0 rs) ∧ Below w.heap.size w w'
theorem labW {rs : List Bs} {w : World} {A : Option Addr} {n c : Nat} (h : Calls Tryz.prog 37 #[.agg #[.int .u64 ((0 : Nat) : Int), .int .u64 ((1 : Nat) : Int), .bool true], .slice A n c] w (LabPost 0 1 true (endsOf 0 rs) w)) : Calls Tryz.prog 37 #[.agg #[.int .u64 0, .int .u64 1, .bool true], .slice A n c] w (LabW rs w) := h
def FindPost (rs : List Bs) (w : World) (e : Ending) (w' : World) : Prop := ∃ A6 c6 Ae ce, e = .returned (.slice A6 1 c6) ∧ w'.ownsRow w.heap.size tFile 6 (.slice A6 1 c6) 1 (fileC (segW rs) Ae ce nmW (framesB rs).length).toList ∧ OwnI w.heap.size w' (.slice Ae (endsOf 0 rs).length ce) (endsOf 0 rs) ∧ Below w.heap.size w w'
set_option maxRecDepth 100000 in
set_option maxHeartbeats 4000000 in
theorem find_one (g d : Nat) (s : DS) (S : Nat → Prop) (rs : List Bs) (w : World) (h0 : w.cell? ⟨g, 0, none⟩ = some (.pointer (some ⟨d, 0, none⟩))) (hg : g < w.heap.size) (hd : DiskAt w d s S) (hcnt : s.cnt ≤ 68719476736) (hnm : namesS s = [nmW]) (hre : readE s nmW = 0) (hrb : readB s nmW = framesB rs)
    (h1 : rs.length ≤ 1099511627776) (h2 : ∀ r ∈ rs, r.length ≤ 65536) (h3 : (framesB rs).length ≤ 140737488355328) :
    Calls Tryz.prog 16 #[.pointer (some ⟨g, 0, none⟩)] w (FindPost rs w) := by
  have hn := names_any d s S w hd hcnt
  rw [hnm] at hn
  have HN := Lib.hid hn
  have HRD := Lib.hid (show ∀ w', Below w.heap.size w w' → Calls Tryz.prog 29 #[.pointer (some ⟨d, 0, none⟩), .string { data := #[119, 46, 48, 46, 49, 46, 98] }] w' (GivesE (framesB rs) 0 w') from fun w' hb => by
    have h := read_any d s S nmW w' (hd.below hb) (by decide)
    rw [hre, hrb] at h
    exact h)
  have H0 := Lib.hid (And.intro h0 hg)
  have HRS := Lib.hid (And.intro h1 (And.intro h2 h3))
  have HSC := Lib.hid (scan_frames (first := 1) (rs := rs) (by omega) h2)
  clear hn hd hnm hre hrb hg h1 h2 h3
  go_enter Tryz.func16, Tryz.ntmps16
  go_wp2_with fail
  refine HN.out.mono ?_
  rintro e w1 ⟨v1, rfl, ho, hb1⟩
  obtain ⟨A, c, hv⟩ := ownsRow_form ho
  have hv : v1 = .slice A 1 c := hv
  subst hv
  obtain ⟨q, rfl, hq, hqc⟩ := ss_at rfl ho
  have HB1 := Lib.hid hb1
  have HQ := Lib.hid (And.intro hq hqc)
  clear ho hb1 hq
  go_wp2
  go_loopw [14, 3] (fun i a wr => (i = .int .i64 0 ∧ a = .slice none 0 0 ∧ wr = w1) ∨ (i = .int .i64 1 ∧ ∃ A6 c6 Ae ce, a = .slice A6 1 c6 ∧ wr.ownsRow w.heap.size tFile 6 (.slice A6 1 c6) 1 (fileC (segW rs) Ae ce nmW (framesB rs).length).toList ∧ OwnI w.heap.size wr (.slice Ae (endsOf 0 rs).length ce) (endsOf 0 rs) ∧ Below w.heap.size w wr)) (fun i _ _ => 1 - (intOf i).toNat)
  case atStart => exact .inl ⟨rfl, rfl, rfl⟩
  case round =>
    obtain ⟨rfl, rfl, rfl⟩ | ⟨rfl, A6, c6, Ae, ce, rfl, ho, hoi, hbr⟩ := hrel
    · have hqc : wr.cell? ⟨q, 0, none⟩ = some (.string { data := #[119, 46, 48, 46, 49, 46, 98] }) := HQ.out.2
      have HHW := Lib.hid (has_w wr)
      go_wp2_with fail
      refine HHW.out.mono ?_
      rintro e w2 ⟨rfl, hb2⟩
      have HB2 := Lib.hid (show Below w.heap.size w w2 from By.ext HB1.out hb2)
      have h02 : w2.cell? ⟨g, 0, none⟩ = some (.pointer (some ⟨d, 0, none⟩)) := (HB2.out.cell H0.out.2).trans H0.out.1
      clear hb2 hqc HHW
      go_wp2_with fail
      refine (HRD.out _ HB2.out).mono ?_
      rintro e w3 ⟨v3, rfl, ho3, hb3⟩
      obtain ⟨A3, c3, hv3, hc3, -, -, hl3, -⟩ := ho3.form
      subst hv3
      have HB3 := Lib.hid (show Below w.heap.size w w3 from By.ext HB2.out hb3)
      have HC3 := Lib.hid hc3
      have HL3 := Lib.hid hl3
      obtain ⟨fl, hfl⟩ : ∃ fl, fl = (framesB rs).length := ⟨_, rfl⟩
      rw [← hfl]
      have HFL := Lib.hid hfl
      clear hb3 hc3 hl3 ho3 h02 hfl
      go_wp2_with fail
      refine (toLabel_w w3).mono ?_
      rintro e w4 ⟨rfl, hb4⟩
      have HB4 := Lib.hid (show Below w.heap.size w w4 from By.ext HB3.out hb4)
      have HLR := Lib.hid (labW (label_read_any 0 1 true A3 fl c3 (framesB rs) (endsOf 0 rs) w4 HFL.out (by rw [HFL.out]; exact HC3.out) (by rw [HFL.out]; exact HRS.out.2.2) ((HL3.out.below hb4).more hb4.size) HSC.out (by rw [endsOf_length]; exact HRS.out.1)))
      clear hb4
      go_wp2_with fail
      refine HLR.out.mono ?_
      rintro e w5 ⟨Ae, ce, rfl, ho5, hb5⟩
      have HB5 := Lib.hid (show Below w.heap.size w w5 from By.ext HB4.out hb5)
      have HO5 := Lib.hid (ownsRow_base ho5 HB4.out.size)
      clear ho5 hb5
      have HOA := Lib.hid (World.ownsRow_nil (w5.alloc (.cells #[.int .u64 0, .int .u64 1, .bool true, .slice Ae (endsOf 0 rs).length ce, .string { data := #[119, 46, 48, 46, 49, 46, 98] }, .int .i64 (fl : Nat)] 61)) w.heap.size tFile 6)
      have HNC := Lib.hid (file_cells w5 (segW rs) Ae ce nmW fl)
      have HN1 := Lib.hid (file_one (segW rs) Ae ce nmW fl)
      have HBZ := Lib.hid (show w.heap.size ≤ (w5.alloc (.cells #[.int .u64 0, .int .u64 1, .bool true, .slice Ae (endsOf 0 rs).length ce, .string { data := #[119, 46, 48, 46, 49, 46, 98] }, .int .i64 (fl : Nat)] 61)).heap.size by rw [World.size_alloc]; have := HB5.out.size; omega)
      go_wp2_with (first
        | (at_builtin; refine wpList_appFile rfl (.tmp 30) (.tmp 39) rfl w.heap.size (.slice none 0 0) 0 [] rfl HOA.out ⟨w5.heap.size, 0, none⟩ rfl (fileC (segW rs) Ae ce nmW fl).toList rfl HNC.out HN1.out (by decide) HBZ.out ?_; intro v6 w6 ho6 hg6 hv6
           obtain ⟨A6, c6, hv7⟩ := ownsRow_form ho6
           subst hv7
           have HO6 := Lib.hid (show w6.ownsRow w.heap.size tFile 6 (.slice A6 1 c6) 1 (fileC (segW rs) Ae ce nmW fl).toList from ho6)
           have HB6 := Lib.hid (show Below w.heap.size w w6 from (bAlloc HB5.out _).grown hg6 HBZ.out (fun q e => by cases e))
           have HI6 := Lib.hid (show OwnI w.heap.size w6 (.slice Ae (endsOf 0 rs).length ce) (endsOf 0 rs) from ownsRow_keep HO5.out (fun b hb => (hg6.block b (by rw [World.size_alloc]; have := (ownsRow_lt HO5.out hb).2; omega) (fun e => by cases e)).trans (heap_alloc_old w5 _ (ownsRow_lt HO5.out hb).2)))
           clear ho6 hg6 hv6)
        | fail)
      go_roundw
      case rel => exact .inr ⟨rfl, A6, c6, Ae, ce, rfl, by rw [← HFL.out]; exact HO6.out, HI6.out, HB6.out⟩
      case measure => simp [intOf]
    · have HFIN := Lib.hid (show FindPost rs w (.returned (.slice A6 1 c6)) wr from ⟨A6, c6, Ae, ce, rfl, ho, hoi, hbr⟩)
      have HS := Lib.hid (sort_one A6 c6 wr)
      clear ho hoi hbr
      go_wp2_with fail
      refine HS.out.mono ?_
      rintro e w' ⟨rfl, rfl⟩
      go_wp2
      go_ret
      exact HFIN.out
end Go.Proofs.YtnjifhbooikdbaaGreatDoor.Wa

/-! Package wal: Open of a disk with the one file that a new log has, as a contract of a call. -/
namespace Go.Proofs.YtnjifhbooikdbaaGreatDoor.Wa
open Go.RowKit Go.Maps By Mp Dk

theorem segW_size (rs : List Bs) : (segW rs).size = (framesB rs).length := by
  have h := atE_endsOf rs 0 rs.length (Nat.le_refl _)
  rw [List.take_length, Nat.zero_add] at h
  rw [h]
  unfold Seg.size Seg.start Seg.next
  dsimp only [segW]
  rw [endsOf_length]
  by_cases h0 : rs.length = 0
  · rw [if_pos (by omega), if_pos h0]
  · rw [if_neg (by omega), if_neg h0, show 1 + rs.length - 1 - 1 = rs.length - 1 by omega]
theorem file_at {w : World} {base : Nat} {A : Option Addr} {c0 : Nat} {s : Seg} {Ae : Option Addr} {ce : Nat} {nm : Bs} {len : Nat} (h : w.ownsRow base tFile 6 (.slice A 1 c0) 1 (fileC s Ae ce nm len).toList) : ∃ fb, A = some ⟨fb, 0, none⟩ ∧ base ≤ fb ∧ fb < w.heap.size ∧ FileIn w fb s Ae ce nm len := by
  rcases h.2 with ⟨hv, h0⟩ | ⟨g, cap, cur, hv, hb, hg, hnc, hm, hs, ht⟩
  · cases h0
  · injection hv with e1 e2 e3
    have hcell : ∀ (j : Nat) (u : Value), (fileC s Ae ce nm len).toList[j]? = some u → w.cell? ⟨g, j, none⟩ = some u := fun j u hu => by
      rw [cell_of_row w g j _ _ _ hg]
      rw [← ht, List.getElem?_take] at hu
      split at hu
      · simpa using hu
      · cases hu
    exact ⟨g, e1, hb, row_lt hg, hcell 0 _ rfl, hcell 1 _ rfl, hcell 2 _ rfl, hcell 3 _ rfl, hcell 4 _ rfl, hcell 5 _ rfl⟩
def Open1Post (d : Nat) (rs : List Bs) (w : World) (e : Ending) (w' : World) : Prop := ∃ (g : Nat) (T : Nat → Prop), e = .returned (.tuple #[.pointer (some ⟨g, 0, none⟩), .int .i64 0]) ∧ LogAt w' g d [segW rs] false T ∧ (∀ b, T b → w.heap.size ≤ b) ∧ Below w.heap.size w w'
theorem log_one {B : Nat} {w10 w11 : World} {g d : Nat} {rs : List Bs} {Ae A11 : Option Addr} {ce c11 : Nat} {o : Obj} (hg : g < B) (hB : B ≤ w10.heap.size) (hI : OwnI B w10 (.slice Ae (endsOf 0 rs).length ce) (endsOf 0 rs)) (hg11 : (w10.alloc o).drew.grownBy w11 none)
    (ho11 : w11.ownsRow w10.heap.size tSeg 4 (.slice A11 1 c11) 1 [Value.int .u64 0, .int .u64 1, .bool true, .slice Ae (endsOf 0 rs).length ce]) (hr11 : w11.heap[g]? = some (.cells #[.pointer (some ⟨d, 0, none⟩), .slice none 0 0, .bool false] tLog (0, 0))) (h1 : rs.length ≤ 1099511627776) :
    LogAt (w11.setCell ⟨g, 1, none⟩ (.slice A11 1 c11)) g d [segW rs] false (fun b => b = g ∨ (Value.slice A11 1 c11).ownBlock = some b ∨ (Value.slice Ae (endsOf 0 rs).length ce).ownBlock = some b) := by
  have hz11 := hg11.size
  have hza : (w10.alloc o).drew.heap.size = w10.heap.size + 1 := World.size_alloc w10 _
  rw [hza] at hz11
  have h12 : ∀ b, b ≠ g → (w11.setCell ⟨g, 1, none⟩ (.slice A11 1 c11)).heap[b]? = w11.heap[b]? := fun b hb => heap_setCell_other w11 ⟨g, 1, none⟩ b _ hb
  have hz12 : (w11.setCell ⟨g, 1, none⟩ (.slice A11 1 c11)).heap.size = w11.heap.size := size_setCell' _ _ _
  have hI11 : OwnI B (w11.setCell ⟨g, 1, none⟩ (.slice A11 1 c11)) (.slice Ae (endsOf 0 rs).length ce) (endsOf 0 rs) := ownsRow_keep hI (fun b hb => by
    have hlt := ownsRow_lt hI hb
    exact (h12 b (by omega)).trans ((hg11.block b (by rw [hza]; omega) (fun e => by cases e)).trans (heap_alloc_old w10 _ hlt.2)))
  have obn : ∀ (A : Option Addr) (n m c : Nat), (Value.slice A n c).ownBlock = (Value.slice A m c).ownBlock := fun A n m c => by cases A <;> rfl
  have h0 : ∀ (i : Nat) (a : AC), ([(Ae, ce)] : List AC)[i]? = some a → i = 0 ∧ a = (Ae, ce) := fun i a h => by
    cases i with
    | zero => exact ⟨rfl, (Option.some.inj h).symm⟩
    | succ i => simp at h
  refine ⟨.slice A11 1 c11, [(Ae, ce)], Go.heap_setCell_same w11 g 1 _ _ (.slice A11 1 c11) hr11, rfl, ?_, fun i s a hs ha => ?_, fun i j a b q n m hi hj _ _ => by rw [(h0 i a hi).1, (h0 j b hj).1], .inl rfl, fun b hb => .inr (.inl hb), fun i a n q ha hq => ?_, fun b hb => ?_, fun s hs => ?_, by show (1 : Nat) ≤ _; decide⟩
  · exact ownsRow_base (ownsRow_keep ho11 (fun b hb => h12 b (by have := (ownsRow_lt ho11 hb).1; omega))) (Nat.zero_le _)
  · obtain ⟨rfl, rfl⟩ := h0 i a ha
    have hs' : segW rs = s := Option.some.inj hs
    subst hs'
    exact ownsRow_base hI11 (Nat.zero_le _)
  · obtain ⟨rfl, rfl⟩ := h0 i a ha
    exact .inr (.inr ((obn Ae _ n ce).trans hq))
  · rcases hb with rfl | hb | hb
    · omega
    · have := (ownsRow_lt ho11 hb).2
      omega
    · have := (ownsRow_lt hI11 hb).2
      omega
  · have hs' : s = segW rs := by simpa using hs
    subst hs'
    exact ⟨by show 1 + (endsOf 0 rs).length < _; rw [endsOf_length]; omega, by show (0 : Nat) < _; decide, by show (endsOf 0 rs).length ≤ _; rw [endsOf_length]; exact h1⟩
set_option maxRecDepth 100000 in
set_option maxHeartbeats 4000000 in
theorem open_one (d : Nat) (s : DS) (S : Nat → Prop) (rs : List Bs) (w : World) (hd : DiskAt w d s S) (hdn : s.down = false) (hcnt : s.cnt ≤ 68719476736) (hnm : namesS s = [nmW]) (hre : readE s nmW = 0) (hrb : readB s nmW = framesB rs)
    (h1 : rs.length ≤ 1099511627776) (h2 : ∀ r ∈ rs, r.length ≤ 65536) (h3 : (framesB rs).length ≤ 140737488355328) : Calls Tryz.prog 5 #[.pointer (some ⟨d, 0, none⟩)] w (Open1Post d rs w) := by
  have hdw := down_any d s S w hd
  rw [hdn] at hdw
  have HDW := Lib.hid hdw
  have q1 := ptrTest
  have HB1 := Lib.hid (bAlloc (Below.refl w.heap.size w) (.cells #[.pointer (some ⟨d, 0, none⟩), .slice none 0 0, .bool false] tLog))
  have HR1 := Lib.hid (heap_alloc_new w (.cells #[.pointer (some ⟨d, 0, none⟩), .slice none 0 0, .bool false] tLog))
  obtain ⟨w1, hw1⟩ : ∃ w1, w1 = w.alloc (.cells #[.pointer (some ⟨d, 0, none⟩), .slice none 0 0, .bool false] tLog) := ⟨_, rfl⟩
  rw [← hw1] at HB1 HR1
  have HFI := Lib.hid (find_one w.heap.size d s S rs w1 ((cell_of_row w1 _ 0 _ _ _ HR1.out).trans rfl) (row_lt HR1.out) (hd.below HB1.out) hcnt hnm hre hrb h1 h2 h3)
  have HN := Lib.hid (show (segW rs).next < 18446744073709551616 ∧ (segW rs).ends.length ≤ 1099511627776 from ⟨by show 1 + (endsOf 0 rs).length < _; rw [endsOf_length]; omega, by show (endsOf 0 rs).length ≤ _; rw [endsOf_length]; exact h1⟩)
  have HN1K := Lib.hid h1
  have HW1 := Lib.hid hw1
  clear hd hdn hdw hnm hre hrb h1 h2 h3
  go_enter Tryz.func5, Tryz.ntmps5
  go_wp2_with fail
  refine HDW.out.mono ?_
  rintro e w' ⟨rfl, rfl⟩
  go_upto_region 6 with fail
  rw [← HW1.out]
  clear hw1 HW1
  go_wp2_with fail
  refine HFI.out.mono ?_
  rintro e w2 ⟨A2, c2, Ae, ce, rfl, ho2, hi2, hb2⟩
  obtain ⟨f2, rfl, hf2, hfz2, hfi2⟩ := file_at ho2
  have HB2 := Lib.hid (show Below w.heap.size w w2 from By.ext HB1.out hb2)
  have HR2 := Lib.hid ((hb2.block _ (row_lt HR1.out)).trans HR1.out)
  have HI2 := Lib.hid hi2
  have HCH := Lib.hid (chain_one f2 c2 (segW rs) Ae ce nmW (framesB rs).length w2 hfi2 hfz2 rfl)
  have HZ2 := Lib.hid hb2.size
  clear ho2 hi2 hb2 hf2 hfz2 hfi2
  go_wp2_with fail
  refine HCH.out.mono ?_
  rintro e w3 ⟨A3, c3, rfl, ho3, hb3⟩
  obtain ⟨f3, rfl, hf3, hfz3, hfi3⟩ := file_at ho3
  have HB3 := Lib.hid (show Below w.heap.size w w3 from By.ext HB2.out hb3)
  have HR3 := Lib.hid ((hb3.block _ (row_lt HR2.out)).trans HR2.out)
  have HI3 := Lib.hid (show OwnI w1.heap.size w3 (.slice Ae (endsOf 0 rs).length ce) (endsOf 0 rs) from ownsRow_keep HI2.out (fun b hb => hb3.block b (ownsRow_lt HI2.out hb).2))
  have HF3 := Lib.hid (And.intro hfi3 hfz3)
  have HME := Lib.hid (mend_one w.heap.size f3 c3 (segW rs) Ae ce nmW w3 (by rw [segW_size]; exact hfi3) hfz3 HN.out.1 HN.out.2 (rowI_lies rfl HI3.out))
  have HZ3 := Lib.hid (show w1.heap.size ≤ w3.heap.size by have h1 := hb3.size; have h2 := HZ2.out; omega)
  clear ho3 hb3 hf3 hfi3 hfz3
  go_wp2_with fail
  refine HME.out.mono ?_
  rintro e w4 ⟨rfl, hb4⟩
  have HB4 := Lib.hid (show Below w.heap.size w w4 from By.ext HB3.out hb4)
  have HR4 := Lib.hid ((hb4.block _ (row_lt HR3.out)).trans HR3.out)
  have HI4 := Lib.hid (show OwnI w1.heap.size w4 (.slice Ae (endsOf 0 rs).length ce) (endsOf 0 rs) from ownsRow_keep HI3.out (fun b hb => hb4.block b (ownsRow_lt HI3.out hb).2))
  have HZ4 := Lib.hid (show w1.heap.size ≤ w4.heap.size by have h1 := hb4.size; have h2 := HZ3.out; omega)
  have HF4 := Lib.hid (HF3.out.1.later HF3.out.2 hb4)
  clear hb4
  go_wp2
  go_loopw [34] (fun i wr => (i = .int .i64 0 ∧ wr = w4) ∨ (i = .int .i64 1 ∧ ∃ T, LogAt wr w.heap.size d [segW rs] false T ∧ (∀ b, T b → w.heap.size ≤ b) ∧ Below w.heap.size w wr)) (fun i _ => 1 - (intOf i).toNat)
  case atStart => exact .inl ⟨rfl, rfl⟩
  case round =>
    obtain ⟨rfl, rfl⟩ | ⟨rfl, T, hl, ht, hb⟩ := hrel
    · obtain ⟨d0, d1, d2, d3, d4, d5⟩ := HF4.out
      dsimp only [segW] at d0 d1 d2 d3
      go_upto_region 13 with fail
      have HC5 := Lib.hid (show FileIn (wr.alloc (.cells #[.int .u64 0, .int .u64 1, .bool true, .slice Ae (endsOf 0 rs).length ce, .string { data := List.toArray nmW }, .int .i64 ((framesB rs).length : Nat)] 61)) wr.heap.size (segW rs) Ae ce nmW (framesB rs).length from fileIn_new wr (segW rs) Ae ce nmW (framesB rs).length)
      have HB5 := Lib.hid (bAlloc HB4.out (.cells #[.int .u64 0, .int .u64 1, .bool true, .slice Ae (endsOf 0 rs).length ce, .string { data := List.toArray nmW }, .int .i64 ((framesB rs).length : Nat)] 61))
      have HR5 := Lib.hid ((heap_alloc_old wr (.cells #[.int .u64 0, .int .u64 1, .bool true, .slice Ae (endsOf 0 rs).length ce, .string { data := List.toArray nmW }, .int .i64 ((framesB rs).length : Nat)] 61) (row_lt HR4.out)).trans HR4.out)
      have HI5 := Lib.hid (show OwnI w1.heap.size (wr.alloc (.cells #[.int .u64 0, .int .u64 1, .bool true, .slice Ae (endsOf 0 rs).length ce, .string { data := List.toArray nmW }, .int .i64 ((framesB rs).length : Nat)] 61)) (.slice Ae (endsOf 0 rs).length ce) (endsOf 0 rs) from HI4.out.alloc _)
      have HZ5 := Lib.hid (show w1.heap.size ≤ (wr.alloc (.cells #[.int .u64 0, .int .u64 1, .bool true, .slice Ae (endsOf 0 rs).length ce, .string { data := List.toArray nmW }, .int .i64 ((framesB rs).length : Nat)] 61)).heap.size by rw [World.size_alloc]; have := HZ4.out; omega)
      obtain ⟨x, hx⟩ : ∃ x, x = wr.heap.size := ⟨_, rfl⟩
      rw [← hx] at HC5 ⊢
      clear d0 d1 d2 d3 d4 d5 hx
      generalize wr.alloc (.cells #[.int .u64 0, .int .u64 1, .bool true, .slice Ae (endsOf 0 rs).length ce, .string { data := List.toArray nmW }, .int .i64 ((framesB rs).length : Nat)] 61) = w10 at *
      obtain ⟨b0, b1, b2, b3, -, -⟩ := HC5.out
      have b0 : w10.cell? ⟨x, 0, none⟩ = some (.int .u64 0) := b0
      have b1 : w10.cell? ⟨x, 1, none⟩ = some (.int .u64 1) := b1
      have b2 : w10.cell? ⟨x, 2, none⟩ = some (.bool true) := b2
      have b3 : w10.cell? ⟨x, 3, none⟩ = some (.slice Ae (endsOf 0 rs).length ce) := b3
      have b4 : w10.cell? ⟨w.heap.size, 1, none⟩ = some (.slice none 0 0) := (cell_of_row w10 _ 1 _ _ _ HR5.out).trans rfl
      have b5 : (w10.alloc (.cells #[.int .u64 0, .int .u64 1, .bool true, .slice Ae (endsOf 0 rs).length ce] 59)).cell? ⟨w.heap.size, 1, none⟩ = some (.slice none 0 0) := (World.cell?_alloc_lt w10 _ ⟨w.heap.size, 1, none⟩ (row_lt HR5.out)).trans b4
      have HNC := Lib.hid (show ∀ (j : Nat) (u : Value), [Value.int .u64 0, .int .u64 1, .bool true, .slice Ae (endsOf 0 rs).length ce][j]? = some u → (w10.alloc (.cells #[.int .u64 0, .int .u64 1, .bool true, .slice Ae (endsOf 0 rs).length ce] 59)).drew.cell? ((⟨w10.heap.size, 0, none⟩ : Addr).add j) = some u from by
        intro j u hu
        rw [plainAdd, Nat.zero_add]
        refine Eq.trans (cell_of_row (w10.alloc (.cells #[.int .u64 0, .int .u64 1, .bool true, .slice Ae (endsOf 0 rs).length ce] 59)) _ j _ _ _ (heap_alloc_new w10 _)) ?_
        simpa using hu)
      have HN1 := Lib.hid (show ∀ u ∈ [Value.int .u64 0, .int .u64 1, .bool true, .slice Ae (endsOf 0 rs).length ce], u.oneCell' = true from by
        intro u hu
        simp only [List.mem_cons, List.not_mem_nil, or_false] at hu
        rcases hu with rfl | rfl | rfl | rfl <;> rfl)
      have HZ10 := Lib.hid (show w10.heap.size ≤ (w10.alloc (.cells #[.int .u64 0, .int .u64 1, .bool true, .slice Ae (endsOf 0 rs).length ce] 59)).drew.heap.size by show _ ≤ (w10.alloc _).heap.size; simp)
      have HRA := Lib.hid (show (w10.alloc (.cells #[.int .u64 0, .int .u64 1, .bool true, .slice Ae (endsOf 0 rs).length ce] 59)).drew.heap[w.heap.size]? = _ from (heap_alloc_old w10 _ (row_lt HR5.out)).trans HR5.out)
      have HBA := Lib.hid (show Below w.heap.size w (w10.alloc (.cells #[.int .u64 0, .int .u64 1, .bool true, .slice Ae (endsOf 0 rs).length ce] 59)).drew from (bAlloc HB5.out _).drew)
      go_region_law (refine step_appS rfl (.tmp 42) (.tmp 45) rfl w10.heap.size (.slice none 0 0) 0 [] rfl (World.ownsRow_nil _ _ _ 4) ⟨w10.heap.size, 0, none⟩ rfl [Value.int .u64 0, .int .u64 1, .bool true, .slice Ae (endsOf 0 rs).length ce] rfl HNC.out HN1.out (by decide) HZ10.out ?_; intro v11 w11 ho11 hg11
                     obtain ⟨A11, c11, hv11⟩ := ownsRow_form ho11
                     subst hv11
                     have hr11 := (hg11.block w.heap.size (row_lt HRA.out) (fun e => by cases e)).trans HRA.out
                     have hc11 : w11.cell? ⟨w.heap.size, 1, none⟩ = some (.slice none 0 0) := (cell_of_row w11 w.heap.size 1 _ _ _ hr11).trans rfl
                     have hf11 : w11.frozen? ⟨w.heap.size, 1, none⟩ = false := frozen_of_row w11 w.heap.size 1 _ _ hr11
                     have HO11 := Lib.hid ho11
                     have HR11 := Lib.hid hr11
                     have HG11 := Lib.hid (show (w10.alloc (.cells #[.int .u64 0, .int .u64 1, .bool true, .slice Ae (endsOf 0 rs).length ce] 59)).drew.grownBy w11 none from hg11)
                     clear ho11 hr11 hg11)
      all_goals
        have HLG := Lib.hid (log_one (d := d) (rs := rs) (row_lt HR1.out) HZ5.out HI5.out HG11.out HO11.out HR11.out HN1K.out)
        have HBG := Lib.hid (show Below w.heap.size w (w11.setCell ⟨w.heap.size, 1, none⟩ (.slice A11 1 c11)) from bSet (HBA.out.grown HG11.out (by have := HBA.out.size; exact this) (fun q e => by cases e)) _ (Nat.le_refl _) _)
        have HTG := Lib.hid (show ∀ b, (b = w.heap.size ∨ (Value.slice A11 1 c11).ownBlock = some b ∨ (Value.slice Ae (endsOf 0 rs).length ce).ownBlock = some b) → w.heap.size ≤ b from fun b hb => by
          rcases hb with rfl | hb | hb
          · exact Nat.le_refl _
          · have h1 := (ownsRow_lt HO11.out hb).1
            have h2 := HB5.out.size
            omega
          · have h1 := (ownsRow_lt HI5.out hb).1
            have h2 := HB1.out.size
            omega)
        go_wp2
        go_roundw
        case rel => exact .inr ⟨rfl, _, HLG.out, HTG.out, HBG.out⟩
        case measure => simp [intOf]
    · have HFIN := Lib.hid (show Open1Post d rs w (.returned (.tuple #[.pointer (some ⟨w.heap.size, 0, none⟩), .int .i64 0])) wr from ⟨w.heap.size, T, rfl, hl, ht, hb⟩)
      clear hl ht hb
      go_wp2
      go_ret2
      exact HFIN.out
end Go.Proofs.YtnjifhbooikdbaaGreatDoor.Wa
