/- Package wal: begin of a log of pieces, from one of them on, as a contract of a call; list[k:] of segments. | Package wal: copyFrom where no record stays, as a contract of a call. | Package wal: drop of a log of pieces, as a contract of a call. | Package wal: cut of a log of pieces, as a contract of a call. | Package wal: Drop, Cut, Read, Append on a log of pieces, as contracts of a call. | Package wal: what the law WalDrops' calls do, one after the other. | The walk of WalDrops. -/
import Derived.Test.YtnjifhbooikdbaaGreatDoorWh1
import Derived.Test.YtnjifhbooikdbaaGreatDoorWaJ
import Derived.StillTailTactics
import Derived.Test.YtnjifhbooikdbaaGreatDoorWaL
import Derived.BigQuiet
/-! Package wal: begin of a log of pieces, from one of them on, as a contract of a call; list[k:] of segments. -/
namespace Go.Proofs.YtnjifhbooikdbaaGreatDoor.Wa
open Go.RowKit Go.Maps By Mp Dk

/-- 'list[k:]' of segments. -/
theorem run_fromS (w : World) (ub n c k : Nat) (hk : k ≤ n) : ∃ B, (Instr.slice tSegs (.slice (some ⟨ub, 0, none⟩) n c) (some (.int .i64 (k : Int))) none none).run Tryz.prog w = .ok (.slice B (n - k) (c - k)) w ∧ (k < c → B = some ⟨ub, k * 4, none⟩) ∧ ∀ w', (Instr.slice tSegs (.slice (some ⟨ub, 0, none⟩) n c) (some (.int .i64 (k : Int))) none none).run Tryz.prog w' = .ok (.slice B (n - k) (c - k)) w' := by
  have ht : Tryz.prog.underlying tSegs = some (.slice (Tryz.prog.elem tSegs)) := by simp [Program.elem, Tryz.underlying47]
  have he : Tryz.prog.elem tSegs = tSeg := by simp [Program.elem, Tryz.underlying47]
  have hall : ∀ w', (Instr.slice tSegs (.slice (some ⟨ub, 0, none⟩) n c) (some (.int .i64 (k : Int))) none none).run Tryz.prog w' = .ok (.slice (if c = k then some ⟨ub, 0, none⟩ else (some (⟨ub, 0, none⟩ : Addr)).map (·.add (k * 4))) (n - k) (c - k)) w' := fun w' => by
    rw [run_slice_l w' _ _ _ _ ht .i64 _ (by omega) (by omega), he, show (sizeOf tSeg).run Tryz.prog w' = .ok 4 w' from by kernel_rfl]
    simp [Result.andThen, sliced]
  refine ⟨_, hall w, fun hkc => ?_, hall⟩
  rw [if_neg (by omega)]
  simp [plainAdd]
theorem LiesS.none (w : World) (S : Nat → Prop) (A : Option Addr) : LiesS w S A [] := fun h => absurd h (by simp)
def BegsPost (g d f : Nat) (P3 : List (List Bs)) (S T : Nat → Prop) (E : Value) (N M C : Nat) (w : World) (e : Ending) (w' : World) : Prop :=
  ∃ s3, BegPost g d (segs true f P3) s3 S T E w e w' ∧ Quiet s3 N M C ∧ Files f P3 s3.files
theorem segs_ok {b : Bool} {f : Nat} {P : List (List Bs)} (hf : f + tot P < 18446744073709551616) (ht : tot P ≤ 1099511627776) : ∀ s ∈ segs b f P, SegOk s := fun s hs => by
  obtain ⟨k, hk, he⟩ := List.getElem_of_mem hs
  rw [segs_len] at hk
  obtain ⟨p, hp, e⟩ := segs_get' (List.getElem?_eq_some_iff.2 ⟨by rw [segs_len]; exact hk, he⟩)
  have h1 := tot_take_succ hp
  have h2 := tot_take_le P (k + 1)
  subst e
  refine ⟨?_, (show (0 : Nat) < 18446744073709551616 by omega), ?_⟩
  · show f + tot (P.take k) + (endsOf 0 p).length < _
    rw [endsOf_length]; omega
  · show (endsOf 0 p).length ≤ _
    rw [endsOf_length]; omega
set_option maxHeartbeats 2000000 in
theorem begs_any (g d k ub cap : Nat) (P : List (List Bs)) (s : DS) (S T : Nat → Prop) (ac : List AC) (N M C : Nat) (A B E : Option Addr) (c cb ec : Nat) (w : World)
    (hw : LogW w g d (segs true 1 P) false T (.slice (some ⟨ub, 0, none⟩) (segs true 1 P).length cap) ac) (hd : DiskAt w d s S) (hsep : ∀ b, T b → S b → False) (hg : Good P) (hq : Quiet s N M C) (hF : Files 1 P s.files) (hO : Only 1 P s.files) (hN : N ≤ 1000) (hM : M ≤ 4000000) (hC : C ≤ 10000) (hk : 1 ≤ k) (hkP : k ≤ P.length) (hP : P.length ≤ 1000) (ht : tot P ≤ 80) (hcap : P.length ≤ cap)
    (hE : w.ownsRow 0 3 1 (.slice E 0 ec) 0 []) (hEq : ∀ q, (Value.slice E 0 ec).ownBlock = some q → ¬ T q ∧ ¬ S q) (hB : 0 < P.length - k → B = some ⟨ub, k * 4, none⟩) :
    Calls Tryz.prog 48 #[.pointer (some ⟨g, 0, none⟩), segV ⟨0, 1 + tot (P.take k), true, []⟩ E ec, .slice A 0 c, .slice B (P.length - k) cb] w (BegsPost g d (1 + tot (P.take k)) ([] :: P.drop k) S T (.slice E 0 ec) (N + 1) M (N + 1 + (N + 1)) w) := by
  have htk := tot_take_le P k
  obtain ⟨h1, h2, s2, s3, h3, h4, h5, h6, h7, h8⟩ := beg_step hg hq hF hO (by omega) hM hk hkP ht
  have hdb := dlt' hd
  have hnm : (⟨0, 1 + tot (P.take k), true, []⟩ : Seg).name = nm true (1 + tot (P.take k)) := rfl
  have hnl : (nm true (1 + tot (P.take k))).length ≤ 140737488355328 := Nat.le_trans (name_len (s := ⟨0, 1 + tot (P.take k), true, []⟩) ⟨by show 1 + tot (P.take k) + 0 < _; omega, (show (0 : Nat) < 18446744073709551616 by omega), (show (0 : Nat) ≤ 1099511627776 by omega)⟩) (by decide)
  have hb := begin_any g d ub cap k (P.length - k) s (chgS s 1 (nm true (1 + tot (P.take k))) 0 []) s2 s3 S T (segs true 1 P) ac ⟨0, 1 + tot (P.take k), true, []⟩ E ec [] A B c cb w hw hd hsep (by have := hq.cnt; omega) (by rw [segs_len]; omega) (by rw [segs_len]; omega) (by rw [segs_len]; exact hcap) ⟨by show 1 + tot (P.take k) + 0 < _; omega, (show (0 : Nat) < 18446744073709551616 by omega), (show (0 : Nat) ≤ 1099511627776 by omega)⟩ hE hEq hB
    (fun w' hbw => by
      rw [hnm]
      have hp := put_any d s S (nm true (1 + tot (P.take k))) 0 [] A 0 c w' (hd.below hbw) (by have := hq.cnt; omega) (by simp) hnl rfl (Nat.zero_le _) (fun _ => False) (fun _ h => h.elim) (LiesS.none _ _ _)
      rw [h1] at hp
      exact hp)
    h2 ⟨h3, h4, h5⟩ h6
  have hl3 : (⟨0, 1 + tot (P.take k), true, []⟩ : Seg) :: (segs true 1 P).drop k = segs true (1 + tot (P.take k)) ([] :: P.drop k) := by
    rw [segs_drop, decide_eq_false (show ¬ k = 0 by omega)]
    rfl
  rw [hl3] at hb
  exact hb.mono fun e w' h => ⟨s3, h, h7, h8⟩
end Go.Proofs.YtnjifhbooikdbaaGreatDoor.Wa

/-! Package wal: copyFrom where no record stays, as a contract of a call. -/
namespace Go.Proofs.YtnjifhbooikdbaaGreatDoor.Wa
open Go.RowKit Go.Maps By Mp Dk

def OutsPost (g d f : Nat) (P3 : List (List Bs)) (S T : Nat → Prop) (N M C : Nat) (w : World) (e : Ending) (w' : World) : Prop :=
  ∃ s3, OutPost g d (segs true f P3) s3 S T w e w' ∧ Quiet s3 N M C ∧ Files f P3 s3.files
/-- Behind a begin: what the call's caller sees. -/
theorem OutsPost.begs {g d f N M C : Nat} {P3 : List (List Bs)} {S T : Nat → Prop} {E : Value} {w w1 : World} {e : Ending} {w' : World} (hb : Below w.heap.size w w1) (hE : ∀ b, E.ownBlock = some b → w.heap.size ≤ b) (h : BegsPost g d f P3 S T E N M C w1 e w') : OutsPost g d f P3 S T N M C w e w' := by
  obtain ⟨s3, ⟨he, S', T', h1, h2, h3, h4, h5, h6⟩, h7, h8⟩ := h
  refine ⟨s3, ⟨he, S', T', h1, h2, h3, fun b hs => ?_, fun b ht => ?_, (Kept.of_below (M := fun b => S b ∨ T b) hb).step h6 (fun _ _ e => e)⟩, h7, h8⟩
  · rcases h4 b hs with e | e
    · exact .inl e
    · exact .inr (Nat.le_trans hb.size e)
  · rcases h5 b ht with e | e | e
    · exact .inl e
    · exact .inr (Nat.le_trans hb.size e)
    · exact .inr (hE b e)
theorem scan_nil {f : Nat} (h : f ≤ 18446744073709551615) : Scan f [] [] := scan_frames (rs := []) (by simpa using h) (fun r hr => by simp at hr)
set_option maxRecDepth 100000 in
set_option maxHeartbeats 4000000 in
theorem copy_end (g d k dt : Nat) (P : List (List Bs)) (s : DS) (S T : Nat → Prop) (N M C : Nat) (w : World) (h : LogAt w g d (segs true 1 P) false T) (hd : DiskAt w d s S) (hsep : ∀ b, T b → S b → False) (hg : Good P) (hq : Quiet s N M C) (hF : Files 1 P s.files) (hO : Only 1 P s.files) (hN : N ≤ 1000) (hM : M ≤ 4000000) (hC : C ≤ 10000) (hk : k + 1 = P.length) (hdt : dt = 1 + tot P) (hP : P.length ≤ 1000) (ht : tot P ≤ 80) :
    Calls Tryz.prog 47 #[.pointer (some ⟨g, 0, none⟩), .int .i64 (k : Nat), .int .u64 (dt : Nat)] w (OutsPost g d dt [[]] S T (N + 1) M (N + 1 + (N + 1)) w) := by
  obtain ⟨v, ac, hw⟩ := h
  have hkl : k < (segs true 1 P).length := by rw [segs_len]; omega
  obtain ⟨ub, cap, A, c, hv, hub, hac, hli, hok, c0, c1, c2, c3⟩ := hw.at_ hkl
  subst hv
  obtain ⟨p, hp⟩ : ∃ p, P[k]? = some p := ⟨_, List.getElem?_eq_getElem (by omega)⟩
  have hsg : (segs true 1 P)[k] = ⟨0, 1 + tot (P.take k), true && decide (k = 0), endsOf 0 p⟩ := by
    have h1 := segs_get true 1 hp
    rw [List.getElem?_eq_getElem hkl] at h1
    exact Option.some.inj h1
  have hcapw : (segs true 1 P).length ≤ cap := by
    rcases hw.segs.2 with ⟨hv, h0⟩ | ⟨q, cap', cur, hv, _, _, hnc, _⟩
    · omega
    · injection hv with e1 e2 e3; omega
  rw [hsg] at hli hok c0 c1 c2 c3
  have htp := tot_take_succ hp
  rw [show k + 1 = P.length by omega, List.take_length] at htp
  obtain ⟨sg, hsge⟩ : ∃ sg : Seg, sg = ⟨0, 1 + tot (P.take k), true && decide (k = 0), endsOf 0 p⟩ := ⟨_, rfl⟩
  rw [← hsge] at hli hok c0 c1 c2 c3
  have hfile := hF k p hp
  have hname : sg.name = nm (decide (k = 0)) (1 + tot (P.take k)) := by rw [hsge, nm_eq, Bool.true_and]
  have hnd : named sg.name = true := by rw [hname]; exact nm_named (by omega)
  rw [← hname] at hfile
  have hre : readE s sg.name = 0 := by
    unfold readE
    rw [if_neg (by rw [hq.down]; decide), if_neg (by rw [hnd]; decide), if_neg (by unfold fthere; rw [hfile]; simp)]
  have hrb : readB s sg.name = framesB p := by unfold readB bytesOf; rw [if_pos hre, hfile]; rfl
  obtain ⟨D, hD⟩ : ∃ D, D = framesB p := ⟨_, rfl⟩
  rw [← hD] at hrb
  have hDl : D.length ≤ 1031 := by rw [hD]; exact hg.size p (List.mem_of_getElem? hp)
  have hst : sg.start dt = D.length := by
    have := start_at (sg := sg) (p := p) (j := p.length) (by rw [hsge]) (Nat.le_refl _)
    rw [List.take_length, ← hD] at this
    rw [← this, hsge, hdt]
    congr 1
    show _ = 1 + tot (P.take k) + p.length
    omega
  have hfi : sg.first ≤ dt := by rw [hsge, hdt]; show 1 + tot (P.take k) ≤ _; omega
  have hnx : dt ≤ sg.next := by
    rw [hsge, hdt]; show _ ≤ 1 + tot (P.take k) + (endsOf 0 p).length
    rw [endsOf_length]; omega
  have hera : sg.era = 0 := by rw [hsge]
  have hlog : LogAt w g d (segs true 1 P) false T := ⟨_, _, hw⟩
  have hrow := heap_alloc_new w (.cells (segC sg A c) tSeg)
  obtain ⟨w1, hw1⟩ : ∃ w1, w1 = w.alloc (.cells (segC sg A c) tSeg) := ⟨_, rfl⟩
  rw [← hw1] at hrow
  have HB1 := Lib.hid (show Below w.heap.size w w1 from hw1 ▸ bAlloc (Below.refl _ _) _)
  have HALL := Lib.hid (fun (w' : World) (hb' : Below w1.heap.size w1 w') => And.intro (show w'.cell? ⟨g, 0, none⟩ = some (.pointer (some ⟨d, 0, none⟩)) from log_cell (hlog.below (By.ext HB1.out hb'))) (box_cells hrow hb'))
  have HNM := Lib.hid (fun w' => lab_name_any sg w' hok.era (by have := hok.next; unfold Seg.next at this; omega))
  have hnl := Nat.le_trans (name_len hok) (show 40 ≤ 140737488355328 by decide)
  have HRD := Lib.hid (fun w' (hb' : Below w.heap.size w w') => (show Calls Tryz.prog 29 #[.pointer (some ⟨d, 0, none⟩), .string (str sg.name)] w' (Dk.GivesE D 0 w') from by
    have h := read_any d s S sg.name w' (hd.below hb') hnl
    rw [hre, hrb] at h
    exact h))
  have HSS := Lib.hid (fun w' (hb' : Below w.heap.size w w') => seg_start_any sg A c dt w' hfi hnx hok.next (Nat.le_trans hok.len (by decide)) ((hli.below hb').more hb'.size))
  rw [hst] at HSS
  obtain ⟨nmv, hnm⟩ : ∃ n, n = sg.name := ⟨_, rfl⟩
  rw [← hnm] at HNM HRD
  have hb0 : Below w.heap.size w w1 := HB1.out
  have g1 : w.cell? ⟨g, 1, none⟩ = some (.slice (some ⟨ub, 0, none⟩) (segs true 1 P).length cap) := by rw [cell_of_row w g 1 _ _ _ hw.row]; rfl
  have HG1 := Lib.hid (fun (w' : World) (hb' : Below w.heap.size w w') => (show w'.cell? ⟨g, 1, none⟩ = some (.slice (some ⟨ub, 0, none⟩) (segs true 1 P).length cap) from by
    rw [cell_of_row w' g 1 _ _ _ ((hb'.block g (row_lt hw.row)).trans hw.row)]; rfl))
  have HLW := Lib.hid hw
  have HD := Lib.hid hd
  have HSEP := Lib.hid hsep
  have HGQ := Lib.hid (And.intro hg (And.intro hq (And.intro hF hO)))
  have HDL := Lib.hid hDl
  have HDT := Lib.hid hdt
  have HPT := Lib.hid (And.intro hP (And.intro ht (And.intro hN (And.intro hM hC))))
  have HCAP := Lib.hid hcapw
  have hln := segs_len true 1 P
  have HLN := Lib.hid hln
  obtain ⟨L, hL⟩ : ∃ L, L = (segs true 1 P).length := ⟨_, rfl⟩
  have HLL := Lib.hid hL
  rw [← hL] at g1 HG1 hcapw hkl hln
  have hkLi : (k : Int) + 1 = (L : Int) := by omega
  have hkli : (k : Int) < (L : Int) := by omega
  have hLi : (L : Int) ≤ 1000 := by omega
  obtain ⟨era, first, base, ends⟩ := sg
  dsimp only [segV, segC, labV, labC] at *
  have HERA := Lib.hid hera
  have HW1 := Lib.hid hw1
  clear hw hd hsep hg hq hF hO hN hM hC hP ht hac hli hok hsg hsge htp hfile hname hnd hre hrb hD hDl hst hfi hnx hlog hrow hw1 hnl hnm hp hL hdt hcapw hb0 hera hln
  go_enter Tryz.func47, Tryz.ntmps47
  go_upto_region 2 with fail
  rw [← HW1.out]
  go_region_held3 (fun w' => w'.cell? ⟨g, 0, none⟩ = some (.pointer (some ⟨d, 0, none⟩)) ∧ w'.cell? ⟨w.heap.size, 0, none⟩ = some (.int .u64 (era : Nat)) ∧ w'.cell? ⟨w.heap.size, 1, none⟩ = some (.int .u64 (first : Nat)) ∧ w'.cell? ⟨w.heap.size, 2, none⟩ = some (.bool base) ∧ w'.cell? ⟨w.heap.size, 3, none⟩ = some (.slice A ends.length c))
    (first
      | with_reducible assumption
      | exact HALL.out _ (Below.refl _ _)
      | exact HALL.out _ (Below.refl _ _).drew
      | exact HALL.out _ HB4.out
      | exact HALL.out _ HB5.out)
    (first
      | (go_at_call 24; refine (HNM.out _).mono ?_; rintro e w4 ⟨rfl, hb4⟩
         have HB4 := Lib.hid (show Below w1.heap.size w1 w4 from By.ext (Below.refl _ _).drew hb4)
         clear hb4)
      | (go_at_call 29; refine (HRD.out _ (By.ext HB1.out HB4.out)).mono ?_; rintro e w5 ⟨vd, rfl, hod, hb5⟩
         have HB5 := Lib.hid (show Below w1.heap.size w1 w5 from By.ext HB4.out hb5)
         obtain ⟨Ad, cd, hvd, hcd, -, -, hld, -⟩ := hod.form
         have HLD := Lib.hid hld
         have HCD := Lib.hid hcd
         subst hvd
         clear hb5 hod hld hcd))
  obtain ⟨-, b0, b1, b2, b3⟩ := HALL.out _ HB5.out
  have HBX5 := Lib.hid (By.ext HB1.out HB5.out)
  clear HNM HRD
  obtain ⟨n, hn⟩ : ∃ n, n = D.length := ⟨_, rfl⟩
  rw [← hn] at HSS HDL
  have HNN := Lib.hid hn
  rw [← hn]
  have hcd := HCD.out
  rw [← hn] at hcd
  have hni : (n : Int) ≤ 1031 := by have := HDL.out; omega
  have hs1 := fun w' => run_from w' Ad n cd n (Nat.le_refl _)
  rw [Nat.sub_self] at hs1
  clear hn
  go_wp2_with fail
  refine (HSS.out _ HBX5.out).mono ?_
  rintro e w6 ⟨rfl, hb6⟩
  have HB6 := Lib.hid (By.ext HB5.out hb6)
  have HBX6 := Lib.hid (By.ext HB1.out HB6.out)
  clear b0 b1 b2 b3 hb6 HSS
  go_upto_region 6 with fail
  have hHX6 := HALL.out _ HB6.out
  have HX6 := Lib.hid (And.intro hHX6.2.1 (HG1.out _ HBX6.out))
  have hw1' : IntKind.i64.wrap ((k : Int) + 1) = (L : Int) := by rw [IntWalk.i64_in _ (by omega)]; exact hkLi
  have hcapL : L ≤ cap := by rw [HLL.out]; exact HCAP.out
  obtain ⟨Bs_, -, -, hs2⟩ := run_fromS w ub L cap L (Nat.le_refl _)
  rw [Nat.sub_self] at hs2
  have hl0 : (0 : Int) ≤ (L : Int) := by omega
  have hl1 : (L : Int) ≤ (cap : Int) := by omega
  have HLR := Lib.hid (label_read_any era dt true (cutA Ad cd n) 0 (cd - n) [] [] w6.drew rfl (Nat.zero_le _) (by omega) (Lies.empty _ _ _) (scan_nil (by have := HDT.out; have := HPT.out.2.1; omega)) (by simp))
  clear hHX6 hkLi
  obtain ⟨xa, xb⟩ := HX6.out
  go_region_law
    (first
      | (go_simp; go_at_call 37; refine HLR.out.mono ?_; rintro e w8 ⟨Ax, cx, rfl, hox, hb8⟩
         have HB8 := Lib.hid (show Below w1.heap.size w1 w8 from By.ext (By.ext HB6.out (Below.refl _ _).drew) hb8)
         have HBX8 := Lib.hid (By.ext HB1.out HB8.out)
         have HX8 := Lib.hid (And.intro (HALL.out _ HB8.out).2.1 (HG1.out _ HBX8.out))
         have HOX := Lib.hid (show ∀ b, (Value.slice Ax 0 cx).ownBlock = some b → w6.heap.size ≤ b ∧ b < w8.heap.size from fun b hb => ownsRow_lt hox hb)
         have hbeg := begs_any g d P.length ub cap P s S T ac N M C (cutA Ad cd n) Bs_ Ax (cd - n) (cap - L) cx w8 (HLW.out.keep (fun b hb => HBX8.out.block b (HLW.out.lt b hb)) HBX8.out.size) (HD.out.below HBX8.out) HSEP.out HGQ.out.1 HGQ.out.2.1 HGQ.out.2.2.1 HGQ.out.2.2.2 HPT.out.2.2.1 HPT.out.2.2.2.1 HPT.out.2.2.2.2 (by omega) (Nat.le_refl _) HPT.out.1 HPT.out.2.1 (by rw [← HLN.out]; exact HCAP.out)
           (ownsRow_base (base' := 0) hox (Nat.zero_le _)) (fun q hq => ⟨fun ht => by have := (HOX.out q hq).1; have := HLW.out.lt q ht; have := HBX6.out.size; omega, fun hs => by have := (HOX.out q hq).1; have := (dlt' HD.out).1 q hs; have := HBX6.out.size; omega⟩) (fun h0 => by omega)
         rw [Nat.sub_self, List.take_length, ← HDT.out, List.drop_length] at hbeg
         have hfin : Calls Tryz.prog 48 #[.pointer (some ⟨g, 0, none⟩), segV ⟨era, dt, true, []⟩ Ax cx, .slice (cutA Ad cd n) 0 (cd - n), .slice Bs_ 0 (cap - L)] w8 (OutsPost g d dt [[]] S T (N + 1) M (N + 1 + (N + 1)) w) := by
           rw [HERA.out]
           exact hbeg.mono fun e w' h => OutsPost.begs HBX8.out (fun b hb => Nat.le_trans HBX6.out.size (HOX.out b hb).1) h
         have HBEG := Lib.hid hfin
         obtain ⟨ya, yb⟩ := HX8.out
         clear hox hb8 hbeg hfin)
      | (go_simp; go_at_call 48; refine HBEG.out.mono ?_; rintro e w9 hpo
         have hpe : e = .returned (.int .i64 0) := hpo.choose_spec.1.1
         subst hpe
         have HPO := Lib.hid hpo
         clear hpo))
  all_goals
    go_wp2
    go_ret
    exact HPO.out
end Go.Proofs.YtnjifhbooikdbaaGreatDoor.Wa

/-! Package wal: drop of a log of pieces, as a contract of a call. -/
namespace Go.Proofs.YtnjifhbooikdbaaGreatDoor.Wa
open Go.RowKit Go.Maps By Mp Dk

theorem drop_flat (P : List (List Bs)) (k : Nat) : (P.drop k).flatten = P.flatten.drop (tot (P.take k)) := by
  have h : P.flatten = (P.take k).flatten ++ (P.drop k).flatten := by rw [← List.flatten_append, List.take_append_drop]
  rw [h, List.drop_left']
  rfl
theorem sum_take_le (p : List Bs) (j : Nat) : ((p.take j).map List.length).sum ≤ (p.map List.length).sum := by
  have h : (p.map List.length).sum = ((p.take j).map List.length).sum + ((p.drop j).map List.length).sum := by
    rw [← List.sum_append, ← List.map_append, List.take_append_drop]
  omega
theorem left_le {P : List (List Bs)} {k j : Nat} {p : List Bs} (hp : P[k]? = some p) (hj : j ≤ p.length) : (((P.drop k).flatten.take j).map List.length).sum ≤ (framesB p).length := by
  obtain ⟨hk, he⟩ := List.getElem?_eq_some_iff.1 hp
  rw [List.drop_eq_getElem_cons hk, he, List.flatten_cons, List.take_append_of_le_length hj, framesB_len]
  have := sum_take_le p j
  omega
def DropPost (g d dt : Nat) (P : List (List Bs)) (S T : Nat → Prop) (N M C : Nat) (w : World) (e : Ending) (w' : World) : Prop :=
  ∃ f P3, OutsPost g d f P3 S T N M C w e w' ∧ 1 ≤ f ∧ f ≤ dt ∧ f + tot P3 = 1 + tot P ∧ P3.flatten = P.flatten.drop (f - 1) ∧ (∀ (i : Nat) (p : List Bs), P3[i]? = some p → 0 < i → p ≠ []) ∧ (P3 = [] → P = []) ∧ (P3 = [] → f = 1) ∧ ((P3.flatten.take (dt - f)).map List.length).sum ≤ 1031 ∧ P3.length ≤ P.length + 1
theorem DropPost.same {g d dt : Nat} {P : List (List Bs)} {S T : Nat → Prop} {N M C : Nat} {w : World} {e : Ending} {w' : World} (hg : Good P) (hdt : 1 ≤ dt) (hl : ((P.flatten.take (dt - 1)).map List.length).sum ≤ 1031) (h : OutsPost g d 1 P S T N M C w e w') : DropPost g d dt P S T N M C w e w' :=
  ⟨1, P, h, Nat.le_refl _, hdt, rfl, by simp, fun i p hp _ => hg.ne i p hp, fun e => e, fun _ => rfl, hl, Nat.le_succ _⟩
/-- A calm way: what Sync did, the log as it was. -/
theorem OutsPost.synced {g d N M C N2 C2 : Nat} {P : List (List Bs)} {s : DS} {S T S2 : Nat → Prop} {w w2 w3 : World} (h : LogAt w g d (segs true 1 P) false T) (hsep : ∀ b, T b → S b → False) (hd2 : DiskAt w2 d (calmS s.files 4000000) S2) (hS2 : ∀ b, S2 b → S b ∨ w.heap.size ≤ b) (hk2 : Kept S w w2) (hb : Below w2.heap.size w2 w3)
    (hq : Quiet (calmS s.files 4000000) N M C) (hF : Files 1 P s.files) (hN : N ≤ N2) (hC : C ≤ C2) : OutsPost g d 1 P S T N2 M C2 w (.returned (.int .i64 0)) w3 := by
  have hl2 := log_kept h hsep hk2
  have hll := logAt_lt h
  refine ⟨calmS s.files 4000000, ⟨rfl, S2, T, hd2.below hb, hl2.below hb, fun b ht hs => ?_, fun b hs => ?_, fun b ht => .inl ht, ?_⟩, ⟨hq.down, hq.fuse, hq.room, hq.upS, Nat.le_trans hq.few hN, hq.size, Nat.le_trans hq.cnt hC⟩, hF⟩
  · rcases hS2 b hs with e | e
    · exact hsep b ht e
    · have := hll.1 b ht; omega
  · exact hS2 b hs
  · exact (hk2.mono (M' := fun b => S b ∨ T b) (fun b _ e => .inl e)).step (M1 := fun _ => False) (Kept.of_below hb) (fun _ _ e => e.elim)
/-- A call behind the Sync. -/
theorem OutsPost.then_ {g d f N M C : Nat} {P3 : List (List Bs)} {S T S2 : Nat → Prop} {w w2 w3 : World} {e : Ending} {w' : World} (hS2 : ∀ b, S2 b → S b ∨ w.heap.size ≤ b) (hk2 : Kept S w w2) (hb : Below w2.heap.size w2 w3) (h : OutsPost g d f P3 S2 T N M C w3 e w') : OutsPost g d f P3 S T N M C w e w' := by
  obtain ⟨s3, ⟨he, S', T', h1, h2, h3, h4, h5, h6⟩, h7, h8⟩ := h
  have hz : w.heap.size ≤ w3.heap.size := Nat.le_trans hk2.size hb.size
  refine ⟨s3, ⟨he, S', T', h1, h2, h3, fun b hs => ?_, fun b ht => ?_, ?_⟩, h7, h8⟩
  · rcases h4 b hs with e | e
    · exact hS2 b e
    · exact .inr (Nat.le_trans hz e)
  · rcases h5 b ht with e | e
    · exact .inl e
    · exact .inr (Nat.le_trans hz e)
  · exact ((hk2.mono (M' := fun b => S b ∨ T b) (fun b _ e => .inl e)).step (M1 := fun _ => False) (Kept.of_below hb) (fun _ _ e => e.elim)).step h6 (fun b hb' e => by
      rcases e with e | e
      · rcases hS2 b e with e | e
        · exact .inl e
        · omega
      · exact .inr e)
theorem OutsPost.wide {g d f N M C N2 C2 : Nat} {P3 : List (List Bs)} {S T : Nat → Prop} {w : World} {e : Ending} {w' : World} (hN : N ≤ N2) (hC : C ≤ C2) (h : OutsPost g d f P3 S T N M C w e w') : OutsPost g d f P3 S T N2 M C2 w e w' := by
  obtain ⟨s3, h1, h7, h8⟩ := h
  exact ⟨s3, h1, ⟨h7.down, h7.fuse, h7.room, h7.upS, Nat.le_trans h7.few hN, h7.size, Nat.le_trans h7.cnt hC⟩, h8⟩
theorem below_drewN {B : Nat} {a w : World} (h : Below B a w) (q : Nat) : Below B a (w.drewN q) := ⟨h.os, h.tape, h.output, h.size, h.block⟩
set_option maxRecDepth 100000 in
set_option maxHeartbeats 8000000 in
theorem drop_segs (g d dt : Nat) (P : List (List Bs)) (s : DS) (S T : Nat → Prop) (N M C : Nat) (w : World) (h : LogAt w g d (segs true 1 P) false T) (hd : DiskAt w d s S) (hsep : ∀ b, T b → S b → False) (hg : Good P) (hq : Quiet s N M C) (hF : Files 1 P s.files) (hO : Only 1 P s.files) (hN : N ≤ 900) (hM : M ≤ 4000000) (hC : C ≤ 10000) (hP : P.length ≤ 900) (ht : tot P ≤ 80) (h1 : 1 ≤ dt) (h2 : dt ≤ 1 + tot P) :
    Calls Tryz.prog 26 #[.pointer (some ⟨g, 0, none⟩), .int .u64 (dt : Nat)] w (DropPost g d dt P S T (N + 1) M (N + 1 + (N + 1)) w) := by
  obtain ⟨e1, e2, hq2⟩ := hq.syncd
  have hsy := sync_any d s S w hd (by have := hq.cnt; omega)
  rw [e1, e2] at hsy
  have HSY := Lib.hid hsy
  have HLOG := Lib.hid h
  have HSEP := Lib.hid hsep
  have HG := Lib.hid hg
  have HQ := Lib.hid hq2
  have HFO := Lib.hid (And.intro hF hO)
  have HB := Lib.hid (And.intro hN (And.intro hM (And.intro hP ht)))
  have HD12 := Lib.hid (And.intro h1 h2)
  have hg0 : w.cell? ⟨g, 0, none⟩ = some (.pointer (some ⟨d, 0, none⟩)) := log_cell h
  clear hsy h hd hsep hg hq hq2 hF hO hN hM hC hP ht e1 e2
  have hfirst : firstS (segs true 1 P) = 1 := by cases P <;> rfl
  go_enter Tryz.func26, Tryz.ntmps26
  go_wp2_with fail
  refine HSY.out.mono ?_
  rintro e w2 ⟨rfl, S2, hd2, hS2, hk2⟩
  have HL2 := Lib.hid (log_kept HLOG.out HSEP.out hk2)
  have HD2 := Lib.hid hd2
  have HS2 := Lib.hid hS2
  have HK2 := Lib.hid hk2
  have HF2 := Lib.hid (first_any g d (segs true 1 P) false T w2 HL2.out)
  rw [hfirst] at HF2
  clear hd2 hS2 hk2 hg0 HSY
  go_wp2_with fail
  refine HF2.out.mono ?_
  rintro e w' ⟨rfl, rfl⟩
  by_cases hlow : dt ≤ 1
  · have hli : (dt : Int) ≤ 1 := by omega
    have hdt1 : dt = 1 := by omega
    have HFIN := Lib.hid (show DropPost g d dt P S T (N + 1) M (N + 1 + (N + 1)) w (.returned (.int .i64 0)) w2 from
      DropPost.same HG.out (by omega) (by rw [hdt1]; simp) (OutsPost.synced HLOG.out HSEP.out HD2.out HS2.out HK2.out (Below.refl _ _) HQ.out HFO.out.1 (by omega) (by omega)))
    clear hlow hdt1 h1 h2 hfirst
    go_wp2
    go_ret
    exact HFIN.out
  · have hli : ¬ ((dt : Int) ≤ 1) := by omega
    have hPne : P ≠ [] := fun e => by subst e; simp [tot] at h2; omega
    have hlen : 0 < (segs true 1 P).length := by rw [segs_len]; exact List.length_pos_iff.2 hPne
    have HHO := Lib.hid (holds_any g d dt (segs true 1 P) false T w2 HL2.out (segs_rising _ _ _) hlen (fun s0 hs0 => by
      obtain ⟨p0, -, rfl⟩ := segs_get' hs0
      show 1 + tot (P.take 0) ≤ dt
      simp [tot]; omega))
    have HPN := Lib.hid hPne
    have HLO := Lib.hid hlow
    clear hlow hPne hfirst hlen
    go_wp2_with fail
    refine HHO.out.mono ?_
    rintro e w3 ⟨k, rfl, hkl, hk1, hk2, hb3⟩
    rw [segs_len] at hkl
    obtain ⟨p, hp⟩ : ∃ p, P[k]? = some p := ⟨_, List.getElem?_eq_getElem hkl⟩
    have hfk : 1 + tot (P.take k) ≤ dt := hk1 _ (segs_get true 1 hp)
    have hnk : k + 1 < P.length → dt < 1 + tot (P.take (k + 1)) := fun hlt => hk2 (k + 1) _ (by omega) (segs_get true 1 (List.getElem?_eq_getElem hlt))
    have htp := tot_take_succ hp
    have HKF := Lib.hid (And.intro hkl (And.intro hp (And.intro hfk (And.intro hnk htp))))
    have HB3 := Lib.hid hb3
    have HL3 := Lib.hid (HL2.out.below hb3)
    clear hk1 hk2 hb3 HHO
    obtain ⟨v, ac, hw3⟩ := HL3.out
    have hkl' : k < (segs true 1 P).length := by rw [segs_len]; exact hkl
    obtain ⟨ub, cap, A, c, hv, hub, hac, hli3, hok, c0, c1, c2, c3⟩ := hw3.at_ hkl'
    subst hv
    have hsg : (segs true 1 P)[k] = ⟨0, 1 + tot (P.take k), true && decide (k = 0), endsOf 0 p⟩ := by
      have h1 := segs_get true 1 hp
      rw [List.getElem?_eq_getElem hkl'] at h1
      exact Option.some.inj h1
    rw [hsg] at hli3 hok c0 c1 c2 c3
    obtain ⟨sg, hsge⟩ : ∃ sg : Seg, sg = ⟨0, 1 + tot (P.take k), true && decide (k = 0), endsOf 0 p⟩ := ⟨_, rfl⟩
    rw [← hsge] at hli3 hok c0 c1 c2 c3
    have hrow := heap_alloc_new w3 (.cells (segC sg A c) tSeg)
    obtain ⟨w4, hw4⟩ : ∃ w4, w4 = w3.alloc (.cells (segC sg A c) tSeg) := ⟨_, rfl⟩
    rw [← hw4] at hrow
    have hb34 : Below w3.heap.size w3 w4 := by rw [hw4]; exact bAlloc (Below.refl _ _) _
    have HB34 := Lib.hid hb34
    have HBOX := Lib.hid (fun (w' : World) (hb' : Below w4.heap.size w4 w') => box_cells hrow hb')
    have HG1 := Lib.hid (fun (w' : World) (hb' : Below w3.heap.size w3 w') => (show w'.cell? ⟨g, 1, none⟩ = some (.slice (some ⟨ub, 0, none⟩) (segs true 1 P).length cap) from by
      rw [cell_of_row w' g 1 _ _ _ ((hb'.block g (row_lt hw3.row)).trans hw3.row)]; rfl))
    have g1 := HG1.out w3 (Below.refl _ _)
    have HNX := Lib.hid (next_any g d (segs true 1 P) false T w4 (HL3.out.below hb34))
    rw [segs_next HPN.out] at HNX
    obtain ⟨NX, hNX⟩ : ∃ NX, NX = 1 + tot P := ⟨_, rfl⟩
    rw [← hNX] at HNX
    have HNXE := Lib.hid hNX
    have hfi : sg.first ≤ dt := by rw [hsge]; exact HKF.out.2.2.1
    have hdk : dt ≤ 1 + tot (P.take k) + p.length := by
      obtain ⟨q1, q2, q3, q4, q5⟩ := HKF.out
      by_cases hk1 : k + 1 < P.length
      · have := q4 hk1; omega
      · rw [show k + 1 = P.length by omega, List.take_length] at q5
        have := HD12.out.2
        omega
    have HDK := Lib.hid hdk
    have hnx : dt ≤ sg.next := by rw [hsge]; show _ ≤ 1 + tot (P.take k) + (endsOf 0 p).length; rw [endsOf_length]; exact hdk
    have hst : sg.start dt = (framesB (p.take (dt - sg.first))).length := by
      have := start_at (sg := sg) (p := p) (j := dt - sg.first) (by rw [hsge]) (by rw [hsge]; show dt - (1 + tot (P.take k)) ≤ _; omega)
      rw [← this]; congr 1; omega
    have hst4 : sg.start dt ≤ 1031 := by
      rw [hst]; exact Nat.le_trans (framesB_le (l := p) _) (HG.out.size p (List.mem_of_getElem? HKF.out.2.1))
    have HSS := Lib.hid (fun w' (hb' : Below w3.heap.size w3 w') => seg_start_any sg A c dt w' hfi hnx hok.next (Nat.le_trans hok.len (by decide)) ((hli3.below hb').more hb'.size))
    obtain ⟨st, hste⟩ : ∃ st, st = sg.start dt := ⟨_, rfl⟩
    rw [← hste] at HSS hst4
    have hst4i : ¬ ((4096 : Int) ≤ (st : Int)) := by omega
    have hst4j : ¬ ((st : Int) ≥ 4096) := by omega
    have HFS := Lib.hid (show sg.first = 1 + tot (P.take k) from by rw [hsge])
    have HERA := Lib.hid (show sg.era = 0 from by rw [hsge])
    have HLW := Lib.hid hw3
    have hcapw : P.length ≤ cap := by
      rcases hw3.segs.2 with ⟨hv, h0⟩ | ⟨q, cap', cur, hv, _, _, hnc, _⟩
      · rw [segs_len] at h0; omega
      · injection hv with e1 e2 e3; rw [segs_len] at hnc; omega
    have HCAP := Lib.hid hcapw
    have HLN := Lib.hid (segs_len true 1 P)
    obtain ⟨L, hL⟩ : ∃ L, L = (segs true 1 P).length := ⟨_, rfl⟩
    rw [← hL] at g1 HG1 hkl'
    have HLL := Lib.hid hL
    have hkli : (k : Int) < (L : Int) := by omega
    obtain ⟨era, first, base, ends⟩ := sg
    dsimp only [segV, segC, labV, labC] at *
    have HW4 := Lib.hid hw4
    clear h1 h2 hfk hnk htp hw3 hub hac hli3 hok hsg hsge hrow hw4 hb34 hNX hfi hdk hnx hst hste hcapw hL hp hkl
    go_upto_region 6 with fail
    rw [← HW4.out]
    clear c0 c1 c2 c3 g1
    obtain ⟨b0, b1, b2, b3⟩ := HBOX.out w4 (Below.refl _ _)
    go_wp2_with fail
    refine HNX.out.mono ?_
    rintro e w5 ⟨rfl, hb5⟩
    have HB5 := Lib.hid hb5
    have HBX5 := Lib.hid (By.ext HB34.out hb5)
    clear b0 b1 b2 b3 hb5 HNX
    obtain ⟨b0, b1, b2, b3⟩ := HBOX.out w5 HB5.out
    have HSEP2 := Lib.hid (show ∀ b, T b → S2 b → False from fun b ht hs => by
      rcases HS2.out b hs with e | e
      · exact HSEP.out b ht e
      · have := (logAt_lt HLOG.out).1 b ht; omega)
    by_cases hend : dt = NX
    · have hei : ((dt : Int) == (NX : Int)) = true := beq_iff_eq.2 (by omega)
      have HCP := Lib.hid (copy_end g d k dt P (calmS s.files 4000000) S2 T N M N w5 (HL3.out.below HBX5.out) (HD2.out.below (By.ext HB3.out HBX5.out)) HSEP2.out HG.out HQ.out HFO.out.1 HFO.out.2 (by have := HB.out.1; omega) HB.out.2.1 (by have := HB.out.1; omega)
        (by
          obtain ⟨q1, q2, q3, q4, q5⟩ := HKF.out
          by_cases hk1 : k + 1 < P.length
          · have := q4 hk1; have := tot_take_le P (k + 1); have := HNXE.out; omega
          · omega) (by rw [hend]; exact HNXE.out) (by have := HB.out.2.2.1; omega) HB.out.2.2.2)
      have HDE := Lib.hid (show dt = 1 + tot P by rw [hend]; exact HNXE.out)
      clear hend
      go_wp2_with fail
      refine HCP.out.mono ?_
      rintro e w6 hpo
      have hpe : e = .returned (.int .i64 0) := hpo.choose_spec.1.1
      subst hpe
      have HFIN := Lib.hid (show DropPost g d dt P S T (N + 1) M (N + 1 + (N + 1)) w (.returned (.int .i64 0)) w6 from
        ⟨dt, [[]], OutsPost.then_ HS2.out HK2.out (By.ext HB3.out HBX5.out) hpo, HD12.out.1, Nat.le_refl _, by rw [HDE.out]; simp [tot], by rw [HDE.out]; simp [tot], fun i q hq hi => by
          cases i with
          | zero => omega
          | succ i => simp at hq, fun e => by simp at e, fun e => by simp at e, by simp, by have := List.length_pos_iff.2 HPN.out; simp⟩)
      clear hpo
      go_wp2
      go_ret
      exact HFIN.out
    · have hei : ((dt : Int) == (NX : Int)) = false := beq_eq_false_iff_ne.2 (by omega)
      clear hend
      go_wp2_with fail
      refine (HSS.out _ HBX5.out).mono ?_
      rintro e w6 ⟨rfl, hb6⟩
      have HB6 := Lib.hid (By.ext HB5.out hb6)
      have HBX6 := Lib.hid (By.ext HB34.out HB6.out)
      clear b0 b1 b2 b3 hb6 HSS
      obtain ⟨b0, b1, b2, b3⟩ := HBOX.out w6 HB6.out
      have HF6 := Lib.hid (fun (q : Nat) => first_any g d (segs true 1 P) false T (w6.drewN q) (HL3.out.below (below_drewN HBX6.out q)))
      rw [show firstS (segs true 1 P) = 1 by cases P <;> rfl] at HF6
      go_upto_region 8 with fail
      by_cases hk0 : k = 0
      · have hf1 : ((first : Int) == 1) = true := beq_iff_eq.2 (by
          have := HFS.out
          rw [hk0] at this
          simp [tot] at this
          omega)
        have HK0 := Lib.hid hk0
        have HFIN := Lib.hid (fun (q : Nat) => show DropPost g d dt P S T (N + 1) M (N + 1 + (N + 1)) w (.returned (.int .i64 0)) (w6.drewN q) from
          DropPost.same HG.out HD12.out.1 (by
            obtain ⟨q1, q2, q3, q4, q5⟩ := HKF.out
            rw [HK0.out] at q2
            have := left_le (k := 0) (j := dt - 1) q2 (by have := HDK.out; rw [HK0.out] at this; simp [tot] at this; omega)
            rw [List.drop_zero] at this
            exact Nat.le_trans this (HG.out.size p (List.mem_of_getElem? q2)))
            (OutsPost.synced HLOG.out HSEP.out HD2.out HS2.out HK2.out (below_drewN (By.ext HB3.out HBX6.out) q) HQ.out HFO.out.1 (by omega) (by omega)))
        clear hk0
        go_quiet ((go_at_call 10; exact Calls.quiet_of_same ((HF6.out _).mono (fun e w' h => ⟨h.1, h.2.symm⟩))))
        go_wp2
        go_ret
        exact HFIN.out _
      · have hf1 : ((first : Int) == 1) = false := beq_eq_false_iff_ne.2 (by
          have h1 := HFS.out
          have h2 := tot_take_lt (P := P) (fun q hq => by obtain ⟨i, hi, rfl⟩ := List.getElem_of_mem hq; exact HG.out.ne i _ (List.getElem?_eq_getElem hi)) (show 0 < k by omega) (by have := HKF.out.1; omega)
          have h0 : tot (P.take 0) = 0 := by simp [tot]
          omega)
        have HK0 := Lib.hid hk0
        clear hk0
        go_quiet ((go_at_call 10; exact Calls.quiet_of_same ((HF6.out _).mono (fun e w' h => ⟨h.1, h.2.symm⟩))))
        obtain ⟨w7, hw7⟩ : ∃ w7, w7 = w6.drewN nq := ⟨_, rfl⟩
        have HBX7 := Lib.hid (show Below w3.heap.size w3 w7 from hw7 ▸ below_drewN HBX6.out _)
        have HB7 := Lib.hid (show Below w4.heap.size w4 w7 from hw7 ▸ below_drewN HB6.out _)
        rw [← hw7]
        clear b0 b1 b2 b3 hw7 HF6 HB6 HBX6
        obtain ⟨b0, b1, b2, b3⟩ := HBOX.out w7 HB7.out
        have g7 := HG1.out w7 HBX7.out
        go_upto_region 10 with fail
        obtain ⟨Bk, -, hBk, hs2⟩ := run_fromS w ub L cap k (by rw [HLL.out, HLN.out]; have := HKF.out.1; omega)
        obtain ⟨m, hm⟩ : ∃ m, m = L - k := ⟨_, rfl⟩
        rw [← hm] at hs2
        have hmP : m = P.length - k := by rw [hm, HLL.out, HLN.out]
        have hl0 : (0 : Int) ≤ (k : Int) := by omega
        have hl1 : (k : Int) ≤ (cap : Int) := by have := HKF.out.1; have := HCAP.out; omega
        obtain ⟨w8, hw8⟩ : ∃ w8, w8 = w7.drew := ⟨_, rfl⟩
        have HBX8 := Lib.hid (show Below w3.heap.size w3 w8 from hw8 ▸ HBX7.out.drew)
        have hbeg := begs_any g d k ub cap P (calmS s.files 4000000) S2 T ac N M N none Bk none 0 (cap - k) 0 w8 (HLW.out.keep (fun b hb => HBX8.out.block b (HLW.out.lt b hb)) HBX8.out.size) (HD2.out.below (By.ext HB3.out HBX8.out)) HSEP2.out HG.out HQ.out HFO.out.1 HFO.out.2 (by have := HB.out.1; omega) HB.out.2.1 (by have := HB.out.1; omega) (by have := HK0.out; omega) (by have := HKF.out.1; omega) (by have := HB.out.2.2.1; omega) HB.out.2.2.2 HCAP.out
          (World.ownsRow_nil w8 0 _ 1) (fun q hq => by cases hq) (fun h0 => hBk (by have := HCAP.out; omega))
        rw [← hmP] at hbeg
        have HBEG := Lib.hid (show Calls Tryz.prog 48 #[.pointer (some ⟨g, 0, none⟩), .agg #[.int .u64 (era : Nat), .int .u64 (first : Nat), .bool true, .slice none 0 0], .slice none 0 0, .slice Bk m (cap - k)] w8 (BegsPost g d (1 + tot (P.take k)) ([] :: P.drop k) S2 T (.slice none 0 0) (N + 1) M (N + 1 + (N + 1)) w8) by
          rw [show era = 0 from HERA.out, show first = 1 + tot (P.take k) from HFS.out]
          exact hbeg)
        clear hm hmP hBk hbeg
        go_still_tail 15, (by kernel_rfl)
        change wpList _ _ _ _ _ w7.drew
        rw [← hw8]
        clear hw8 b0 b1 b2 b3 g7
        go_wp2_with fail
        refine HBEG.out.mono ?_
        rintro e w9 hpo
        have hpe : e = .returned (.int .i64 0) := hpo.choose_spec.1.1
        subst hpe
        have HFIN := Lib.hid (show DropPost g d dt P S T (N + 1) M (N + 1 + (N + 1)) w (.returned (.int .i64 0)) w9 from by
          obtain ⟨q1, q2, q3, q4, q5⟩ := HKF.out
          have hdr := drop_flat P k
          have htk := tot_take_le P k
          have hsp : tot (P.take k) + tot (P.drop k) = tot P := by rw [← tot_app, List.take_append_drop]
          refine ⟨1 + tot (P.take k), [] :: P.drop k, OutsPost.then_ HS2.out HK2.out (By.ext HB3.out HBX8.out) (OutsPost.begs (Below.refl _ _) (fun b hb => by cases hb) hpo), by omega, q3, ?_, ?_, ?_, fun e => by simp at e, fun e => by simp at e, ?_, ?_⟩
          · rw [tot_cons]; simp; omega
          · rw [List.flatten_cons, List.nil_append, hdr, show 1 + tot (P.take k) - 1 = tot (P.take k) by omega]
          · intro i q hq hi
            cases i with
            | zero => omega
            | succ i =>
              simp only [List.getElem?_cons_succ, List.getElem?_drop] at hq
              exact HG.out.ne _ q hq
          · rw [List.flatten_cons, List.nil_append]
            exact Nat.le_trans (left_le q2 (by have := HDK.out; omega)) (HG.out.size p (List.mem_of_getElem? q2))
          · simp)
        clear hpo
        go_wp2
        go_ret
        exact HFIN.out
end Go.Proofs.YtnjifhbooikdbaaGreatDoor.Wa

/-! Package wal: cut of a log of pieces, as a contract of a call. -/
namespace Go.Proofs.YtnjifhbooikdbaaGreatDoor.Wa
open Go.RowKit Go.Maps By Mp Dk

theorem take_flat {P : List (List Bs)} {k : Nat} {p : List Bs} (hp : P[k]? = some p) (j : Nat) (hj : j ≤ p.length) : (P.take k ++ [p.take j]).flatten = P.flatten.take (tot (P.take k) + j) := by
  obtain ⟨hk, he⟩ := List.getElem?_eq_some_iff.1 hp
  have h : P.flatten = (P.take k).flatten ++ (P.drop k).flatten := by rw [← List.flatten_append, List.take_append_drop]
  rw [h, List.drop_eq_getElem_cons hk, he, List.flatten_cons, List.take_append]
  rw [List.take_of_length_le (show (P.take k).flatten.length ≤ tot (P.take k) + j by unfold tot; omega), show tot (P.take k) + j - (P.take k).flatten.length = j by unfold tot; omega, List.take_append_of_le_length hj]
  simp
/-- 'ends[:j]', j a uint64. -/
theorem run_toI (w : World) (A : Option Addr) (n c h : Nat) (hh : h ≤ c) : (Instr.slice tInts (.slice A n c) none (some (.int .u64 (h : Int))) none).run Tryz.prog w = .ok (.slice A h c) w := by
  have ht : Tryz.prog.underlying tInts = some (.slice (Tryz.prog.elem tInts)) := by simp [Program.elem, Tryz.underlying57]
  rw [run_slice_h w _ _ _ _ ht .u64 _ (by omega) (by omega)]
  have he : Tryz.prog.elem tInts = 3 := by simp [Program.elem, Tryz.underlying57]
  rw [he, show (sizeOf 3).run Tryz.prog w = .ok 1 w from by kernel_rfl]
  cases A <;> simp [Result.andThen, sliced, Addr.add]
theorem run_toS (w : World) (A : Option Addr) (n c h : Nat) (hh : h ≤ c) : (Instr.slice tSegs (.slice A n c) none (some (.int .i64 (h : Int))) none).run Tryz.prog w = .ok (.slice A h c) w := by
  have ht : Tryz.prog.underlying tSegs = some (.slice (Tryz.prog.elem tSegs)) := by simp [Program.elem, Tryz.underlying47]
  rw [run_slice_h w _ _ _ _ ht .i64 _ (by omega) (by omega)]
  have he : Tryz.prog.elem tSegs = tSeg := by simp [Program.elem, Tryz.underlying47]
  rw [he, show (sizeOf tSeg).run Tryz.prog w = .ok 4 w from by kernel_rfl]
  cases A <;> simp [Result.andThen, sliced, Addr.add]
theorem lies_drop {w : World} {g d ub cap : Nat} {l : List Seg} {dead : Bool} {T : Nat → Prop} {ac : List AC} (h : LogW w g d l dead T (.slice (some ⟨ub, 0, none⟩) l.length cap) ac) (k : Nat) {P : Nat → Prop} (hP : P ub) {B : Option Addr} (hB : k < l.length → B = some ⟨ub, k * 4, none⟩) : LiesG w P B (l.drop k) := fun hn => ⟨ub, k * 4, hB (by simp at hn; omega), hP, fun j x hj => by
  rw [List.getElem?_drop] at hj
  have hjl := (List.getElem?_eq_some_iff.1 hj).1
  have hxe : l[k + j] = x := (List.getElem?_eq_some_iff.1 hj).2
  obtain ⟨ub', cap', A, c, hv, -, -, -, -, h0, h1, h2, h3⟩ := h.at_ hjl
  injection hv with e1 e2 e3
  injection e1 with e1
  injection e1 with e1
  subst e1
  rw [hxe] at h0 h1 h2 h3
  have e : ∀ q, k * 4 + j * 4 + q = (k + j) * 4 + q := fun q => by omega
  exact ⟨A, c, by have := e 0; rw [Nat.add_zero, Nat.add_zero] at this; rw [this]; exact h0, by rw [e]; exact h1, by rw [e]; exact h2, by rw [e]; exact h3⟩⟩
def CutPost (g d f ct : Nat) (P : List (List Bs)) (S T : Nat → Prop) (N M C : Nat) (w : World) (e : Ending) (w' : World) : Prop :=
  ∃ P4, OutsPost g d f P4 S T N M C w e w' ∧ f + tot P4 = ct ∧ P4.flatten = P.flatten.take (ct - f) ∧ (P4 = [] → P = []) ∧ P4.length ≤ P.length
/-- A calm way, whatever the log begins with. -/
theorem OutsPost.syncedF {g d f N M C N2 C2 : Nat} {P : List (List Bs)} {s : DS} {S T S2 : Nat → Prop} {w w2 w3 : World} (h : LogAt w g d (segs true f P) false T) (hsep : ∀ b, T b → S b → False) (hd2 : DiskAt w2 d (calmS s.files 4000000) S2) (hS2 : ∀ b, S2 b → S b ∨ w.heap.size ≤ b) (hk2 : Kept S w w2) (hb : Below w2.heap.size w2 w3)
    (hq : Quiet (calmS s.files 4000000) N M C) (hF : Files f P s.files) (hN : N ≤ N2) (hC : C ≤ C2) : OutsPost g d f P S T N2 M C2 w (.returned (.int .i64 0)) w3 := by
  have hl2 := log_kept h hsep hk2
  have hll := logAt_lt h
  refine ⟨calmS s.files 4000000, ⟨rfl, S2, T, hd2.below hb, hl2.below hb, fun b ht hs => ?_, fun b hs => ?_, fun b ht => .inl ht, ?_⟩, ⟨hq.down, hq.fuse, hq.room, hq.upS, Nat.le_trans hq.few hN, hq.size, Nat.le_trans hq.cnt hC⟩, hF⟩
  · rcases hS2 b hs with e | e
    · exact hsep b ht e
    · have := hll.1 b ht; omega
  · exact hS2 b hs
  · exact (hk2.mono (M' := fun b => S b ∨ T b) (fun b _ e => .inl e)).step (M1 := fun _ => False) (Kept.of_below hb) (fun _ _ e => e.elim)
/-- What a cut's caller sees. -/
theorem cutted {g d f ct k j N M C : Nat} {P : List (List Bs)} {p : List Bs} {s3 : DS} {S S2 T : Nat → Prop} {w w2 w3 : World} {era first : Nat} {base : Bool} {ends : List Nat} {e : Ending} {w' : World} (hp : P[k]? = some p) (h1 : f + tot (P.take k) ≤ ct) (hj : j = ct - (f + tot (P.take k))) (hjl : j < p.length) (hera : era = 0) (hfi : first = f + tot (P.take k)) (hb : base = (true && decide (k = 0))) (he : ends = endsOf 0 p)
    (hq : Quiet s3 N M C) (hF : Files f (P.take k ++ [p.take j]) s3.files) (hS2 : ∀ b, S2 b → S b ∨ w.heap.size ≤ b) (hk2 : Kept S w w2) (hb23 : Below w2.heap.size w2 w3) (h : AppPost g d ((segs true f P).take k ++ [⟨era, first, base, ends.take j ++ endsOf 0 []⟩]) s3 S2 T w3 e w') : CutPost g d f ct P S T N M C w e w' := by
  have hk := (List.getElem?_eq_some_iff.1 hp).1
  have hen : (endsOf 0 p).take j = endsOf 0 (p.take j) := by
    conv => lhs; rw [← List.take_append_drop j p, endsOf_app]
    rw [List.take_append_of_le_length (by rw [endsOf_length, List.length_take]; omega), List.take_of_length_le (by rw [endsOf_length, List.length_take]; omega)]
  have hseg : (segs true f P).take k ++ [⟨era, first, base, ends.take j ++ endsOf 0 []⟩] = segs true f (P.take k ++ [p.take j]) := by
    rw [segs_app, segs_take, hera, hfi, hb, he, show endsOf 0 [] = [] from rfl, List.append_nil, hen]
    have hem : (P.take k).isEmpty = decide (k = 0) := by
      cases k with
      | zero => simp
      | succ k => cases P with
        | nil => simp at hk
        | cons a P => simp
    rw [hem]
    rfl
  rw [hseg] at h
  obtain ⟨he, S', T', h1', h2', h3', h4', h5', h6'⟩ := h
  have hz := hk2.size
  have hz2 := hb23.size
  have htot : tot (P.take k ++ [p.take j]) = tot (P.take k) + j := by rw [tot_app, tot_cons, List.length_take]; simp [tot]; omega
  refine ⟨P.take k ++ [p.take j], ⟨s3, ⟨he, S', T', h1', h2', h3', fun b hs => ?_, fun b ht => ?_, ?_⟩, hq, hF⟩, by rw [htot]; omega, ?_, fun e => by simp at e, by rw [List.length_append, List.length_take]; simp; omega⟩
  · rcases h4' b hs with e | e
    · exact hS2 b e
    · exact .inr (by omega)
  · rcases h5' b ht with e | e
    · exact .inl e
    · exact .inr (by omega)
  · exact ((hk2.mono (M' := fun b => S b ∨ T b) (fun b _ e => .inl e)).step (M1 := fun _ => False) (Kept.of_below hb23) (fun _ _ e => e.elim)).step h6' (fun b hb e => by
      rcases e with e | e
      · exact .inl ((hS2 b e).resolve_right (by omega))
      · exact .inr e)
  · rw [take_flat hp j (by omega)]
    congr 1
    omega
set_option maxRecDepth 100000 in
set_option maxHeartbeats 8000000 in
theorem cut_segs (g d f ct : Nat) (P : List (List Bs)) (s : DS) (S T : Nat → Prop) (N M C : Nat) (w : World) (h : LogAt w g d (segs true f P) false T) (hd : DiskAt w d s S) (hsep : ∀ b, T b → S b → False) (hne : ∀ (i : Nat) (p : List Bs), P[i]? = some p → 0 < i → p ≠ []) (hq : Quiet s N M C) (hF : Files f P s.files) (hN : N ≤ 900) (hM : M ≤ 4000000) (hC : C ≤ 10000) (hP : P.length ≤ 900) (ht : f + tot P ≤ 81) (h1 : f ≤ ct) (h2 : ct ≤ f + tot P) (hf1 : P = [] → f = 1) :
    Calls Tryz.prog 27 #[.pointer (some ⟨g, 0, none⟩), .int .u64 (ct : Nat)] w (CutPost g d f ct P S T (N + 1) M (N + 1 + (N + 1)) w) := by
  obtain ⟨e1, e2, hq2⟩ := hq.syncd
  have hsy := sync_any d s S w hd (by have := hq.cnt; omega)
  rw [e1, e2] at hsy
  have HSY := Lib.hid hsy
  have HLOG := Lib.hid h
  have HSEP := Lib.hid hsep
  have HNE := Lib.hid hne
  have HQ := Lib.hid hq2
  have HF := Lib.hid hF
  have HB := Lib.hid (And.intro hN (And.intro hM (And.intro hP ht)))
  have HD12 := Lib.hid (And.intro h1 h2)
  have hg0 : w.cell? ⟨g, 0, none⟩ = some (.pointer (some ⟨d, 0, none⟩)) := log_cell h
  have hnx : nextS (segs true f P) = f + tot P := by
    by_cases hP0 : P = []
    · rw [hP0, hf1 hP0]; rfl
    · exact segs_next hP0
  obtain ⟨NX, hNX⟩ : ∃ NX, NX = f + tot P := ⟨_, rfl⟩
  rw [← hNX] at hnx
  have HNXE := Lib.hid hNX
  clear hsy h hd hsep hne hq hq2 hF hN hM hC hP ht e1 e2 hf1 hNX
  go_enter Tryz.func27, Tryz.ntmps27
  go_wp2_with fail
  refine HSY.out.mono ?_
  rintro e w2 ⟨rfl, S2, hd2, hS2, hk2⟩
  have HL2 := Lib.hid (log_kept HLOG.out HSEP.out hk2)
  have HD2 := Lib.hid hd2
  have HS2 := Lib.hid hS2
  have HK2 := Lib.hid hk2
  have HN2 := Lib.hid (next_any g d (segs true f P) false T w2 HL2.out)
  rw [hnx] at HN2
  clear hd2 hS2 hk2 hg0 HSY hnx
  go_wp2_with fail
  refine HN2.out.mono ?_
  rintro e w2b ⟨rfl, hbb⟩
  have HB2b := Lib.hid hbb
  clear hbb HN2
  by_cases hend : ct = NX
  · have hei : ((ct : Int) == (NX : Int)) = true := beq_iff_eq.2 (by omega)
    have HFIN := Lib.hid (show CutPost g d f ct P S T (N + 1) M (N + 1 + (N + 1)) w (.returned (.int .i64 0)) w2b from
      ⟨P, OutsPost.syncedF HLOG.out HSEP.out HD2.out HS2.out HK2.out HB2b.out HQ.out HF.out (by omega) (by omega), by rw [hend]; exact HNXE.out.symm, by rw [hend, HNXE.out, show f + tot P - f = tot P by omega]; unfold tot; rw [List.take_length], fun e => e, Nat.le_refl _⟩)
    clear hend h1 h2
    go_wp2
    go_ret
    exact HFIN.out
  · have hei : ((ct : Int) == (NX : Int)) = false := beq_eq_false_iff_ne.2 (by omega)
    have hlt : ct < f + tot P := by have := HNXE.out; omega
    have hPne : P ≠ [] := fun e => by subst e; simp [tot] at hlt; omega
    have hlen : 0 < (segs true f P).length := by rw [segs_len]; exact List.length_pos_iff.2 hPne
    have HHO := Lib.hid (holds_any g d ct (segs true f P) false T w2b (HL2.out.below HB2b.out) (segs_rising _ _ _) hlen (fun s0 hs0 => by
      obtain ⟨p0, -, rfl⟩ := segs_get' hs0
      show f + tot (P.take 0) ≤ ct
      simp [tot]; omega))
    have HLT := Lib.hid hlt
    clear hend hPne hlen hlt
    go_wp2_with fail
    refine HHO.out.mono ?_
    rintro e w3 ⟨k, rfl, hkl, hk1, hk2, hb3⟩
    rw [segs_len] at hkl
    obtain ⟨p, hp⟩ : ∃ p, P[k]? = some p := ⟨_, List.getElem?_eq_getElem hkl⟩
    have hfk : f + tot (P.take k) ≤ ct := hk1 _ (segs_get true f hp)
    have htp := tot_take_succ hp
    have hnk : ct < f + tot (P.take k) + p.length := by
      by_cases hlt : k + 1 < P.length
      · have h3 : ct < f + tot (P.take (k + 1)) := hk2 (k + 1) _ (by omega) (segs_get true f (List.getElem?_eq_getElem hlt))
        omega
      · rw [show k + 1 = P.length by omega, List.take_length] at htp
        have := HLT.out
        omega
    have HKF := Lib.hid (And.intro hkl (And.intro hp (And.intro hfk (And.intro hnk htp))))
    have HB23 := Lib.hid (By.ext HB2b.out hb3)
    have HL3 := Lib.hid (HL2.out.below (By.ext HB2b.out hb3))
    have HD3 := Lib.hid (HD2.out.below (By.ext HB2b.out hb3))
    clear hk1 hk2 hb3 HHO
    obtain ⟨v, ac, hw3⟩ := HL3.out
    have hkl' : k < (segs true f P).length := by rw [segs_len]; exact hkl
    obtain ⟨ub, cap, A, c, hv, hub, hac, hli3, hok, c0, c1, c2, c3⟩ := hw3.at_ hkl'
    subst hv
    have hsg : (segs true f P)[k] = ⟨0, f + tot (P.take k), true && decide (k = 0), endsOf 0 p⟩ := by
      have h1 := segs_get true f hp
      rw [List.getElem?_eq_getElem hkl'] at h1
      exact Option.some.inj h1
    rw [hsg] at hli3 hok c0 c1 c2 c3
    obtain ⟨sg, hsge⟩ : ∃ sg : Seg, sg = ⟨0, f + tot (P.take k), true && decide (k = 0), endsOf 0 p⟩ := ⟨_, rfl⟩
    rw [← hsge] at hli3 hok c0 c1 c2 c3
    have hrow := heap_alloc_new w3 (.cells (segC sg A c) tSeg)
    obtain ⟨w4, hw4⟩ : ∃ w4, w4 = w3.alloc (.cells (segC sg A c) tSeg) := ⟨_, rfl⟩
    rw [← hw4] at hrow
    have hb34 : Below w3.heap.size w3 w4 := by rw [hw4]; exact bAlloc (Below.refl _ _) _
    have HB34 := Lib.hid hb34
    have HROW := Lib.hid hrow
    obtain ⟨j, hj⟩ : ∃ j, j = ct - (f + tot (P.take k)) := ⟨_, rfl⟩
    have hjl : j < p.length := by omega
    have hst : sg.start ct = (framesB (p.take j)).length := by
      have := start_at (sg := sg) (p := p) (j := j) (by rw [hsge]) (by omega)
      rw [← this]; congr 1
      rw [hsge]; show ct = f + tot (P.take k) + j; omega
    have hfi : sg.first ≤ ct := by rw [hsge]; exact hfk
    have hnx : ct ≤ sg.next := by rw [hsge]; show _ ≤ f + tot (P.take k) + (endsOf 0 p).length; rw [endsOf_length]; omega
    have HSS := Lib.hid (fun w' (hb' : Below w3.heap.size w3 w') => seg_start_any sg A c ct w' hfi hnx hok.next (Nat.le_trans hok.len (by decide)) ((hli3.below hb').more hb'.size))
    rw [hst] at HSS
    have HNM := Lib.hid (fun w' => lab_name_any sg w' hok.era (by have := hok.next; unfold Seg.next at this; omega))
    have hnl := Nat.le_trans (name_len hok) (show 40 ≤ 140737488355328 by decide)
    obtain ⟨r1, r2, s2, s3, r3, r4, r5, r6, r7, r8⟩ := cut_step HNE.out HQ.out HF.out HB.out.2.1 hp (j := j) (by have := HB.out.2.2.2; omega)
    have hname : sg.name = nm (decide (k = 0)) (f + tot (P.take k)) := by rw [hsge, nm_eq, Bool.true_and]
    rw [← hname] at r1 r2 r3 r4 r5
    obtain ⟨s1, hs1⟩ : ∃ s1, s1 = chgS (calmS s.files 4000000) 2 sg.name ((framesB (p.take j)).length : Int) [] := ⟨_, rfl⟩
    rw [← hs1] at r2 r3 r4 r5
    have hcn := HQ.out.cnt
    have hNN := HB.out.1
    have HCT := Lib.hid (fun w' (hb' : Below w3.heap.size w3 w') => (show Calls Tryz.prog 42 #[.pointer (some ⟨d, 0, none⟩), .string (str sg.name), .int .i64 ((framesB (p.take j)).length : Int)] w' (DStep (.int .i64 0) d s1 S2 w') from by
      have h := cut_any d (calmS s.files 4000000) S2 sg.name ((framesB (p.take j)).length : Int) w' (HD3.out.below hb') (by omega) hnl
      rw [r1, ← hs1] at h
      exact h))
    have HCN := Lib.hid (show s1.cnt ≤ 2000 ∧ s2.cnt ≤ 2000 from ⟨by omega, by omega⟩)
    have HS12 := Lib.hid (And.intro r3 r4)
    have HS3 := Lib.hid (And.intro r6 (And.intro r7 r8))
    obtain ⟨nmv, hnm⟩ : ∃ n, n = sg.name := ⟨_, rfl⟩
    rw [← hnm] at HNM HCT
    obtain ⟨off, hoff⟩ : ∃ n, n = (framesB (p.take j)).length := ⟨_, rfl⟩
    rw [← hoff] at HSS HCT
    have HFS := Lib.hid (show sg.first = f + tot (P.take k) from by rw [hsge])
    have HERA := Lib.hid (show sg.era = 0 from by rw [hsge])
    have HBAS := Lib.hid (show sg.base = (true && decide (k = 0)) from by rw [hsge])
    have HEND := Lib.hid (show sg.ends = endsOf 0 p from by rw [hsge])
    have HLW := Lib.hid hw3
    have HOKS := Lib.hid hok
    have HAC := Lib.hid hac
    have hcapw : P.length ≤ cap := by
      rcases hw3.segs.2 with ⟨hv, h0⟩ | ⟨q, cap', cur, hv, _, _, hnc, _⟩
      · rw [segs_len] at h0; omega
      · injection hv with e1 e2 e3; rw [segs_len] at hnc; omega
    have HCAP := Lib.hid hcapw
    have HLN := Lib.hid (segs_len true f P)
    have HG1 := Lib.hid (show ∀ (w' : World), w'.heap[g]? = w3.heap[g]? → w'.cell? ⟨g, 1, none⟩ = some (.slice (some ⟨ub, 0, none⟩) (segs true f P).length cap) from fun (w' : World) he => by
      rw [cell_of_row w' g 1 _ _ _ (he.trans hw3.row)]; rfl)
    have g1 := HG1.out w3 rfl
    obtain ⟨L, hL⟩ : ∃ L, L = (segs true f P).length := ⟨_, rfl⟩
    rw [← hL] at g1 HG1 hkl'
    have HLL := Lib.hid hL
    have hkli : (k : Int) < (L : Int) := by omega
    have HJ := Lib.hid (And.intro hj hjl)
    have HSEP2 := Lib.hid (show ∀ b, T b → S2 b → False from fun b ht hs => by
      rcases HS2.out b hs with e | e
      · exact HSEP.out b ht e
      · have := (logAt_lt HLOG.out).1 b ht; omega)
    have HS2L := Lib.hid (show ∀ b, S2 b → b < w3.heap.size from (dlt' HD3.out).1)
    obtain ⟨era, first, base, ends⟩ := sg
    dsimp only [segV, segC, labV, labC] at *
    have HW4 := Lib.hid hw4
    have HBOX := Lib.hid (fun (w' : World) (hb' : w'.heap[w3.heap.size]? = w4.heap[w3.heap.size]?) => (show w'.cell? ⟨w3.heap.size, 0, none⟩ = some (.int .u64 (era : Nat)) ∧ w'.cell? ⟨w3.heap.size, 1, none⟩ = some (.int .u64 (first : Nat)) ∧ w'.cell? ⟨w3.heap.size, 2, none⟩ = some (.bool base) ∧ w'.cell? ⟨w3.heap.size, 3, none⟩ = some (.slice A ends.length c) from by
      have h := hb'.trans HROW.out
      exact ⟨(cell_of_row w' _ 0 _ _ _ h).trans rfl, (cell_of_row w' _ 1 _ _ _ h).trans rfl, (cell_of_row w' _ 2 _ _ _ h).trans rfl, (cell_of_row w' _ 3 _ _ _ h).trans rfl⟩))
    have HLC := Lib.hid (show ∀ (w' : World), w'.heap[g]? = w3.heap[g]? → w'.cell? ⟨g, 0, none⟩ = some (.pointer (some ⟨d, 0, none⟩)) from fun (w' : World) he => by
      rw [cell_of_row w' g 0 _ _ _ (he.trans HLW.out.row)]; rfl)
    have HGL := Lib.hid (row_lt HLW.out.row)
    have HX4 := Lib.hid (row_lt HROW.out)
    clear h1 h2 hfk hnk htp hw3 hub hac hli3 hok hsg hsge hrow hw4 hb34 hfi hnx hst hcapw hL hp hkl hj hjl hnl r1 r2 r3 r4 r5 r6 r7 r8 hname hs1 hcn hNN hnm hoff
    go_upto_region 6 with fail
    rw [← HW4.out]
    clear c0 c1 c2 c3 g1
    have HALL := Lib.hid (fun (w' : World) (hb : Below w4.heap.size w4 w') => And.intro (HLC.out w' ((By.ext HB34.out hb).block g HGL.out)) (HBOX.out w' (hb.block w3.heap.size HX4.out)))
    have HZ34 := Lib.hid HB34.out.size
    have HCUTD := Lib.hid (fun (a : _) => (cutted (g := g) (d := d) (f := f) (ct := ct) (k := k) (j := j) (N := N + 1) (M := M) (C := N + 1 + (N + 1)) (P := P) (p := p) (s3 := s3) (S := S) (S2 := S2) (T := T) (w := w) (w2 := w2) (w3 := w3) (era := era) (first := first) (base := base) (ends := ends) (e := .returned (.int .i64 0)) (w' := a) HKF.out.2.1 HKF.out.2.2.1 HJ.out.1 HJ.out.2 HERA.out HFS.out HBAS.out HEND.out HS3.out.2.1 HS3.out.2.2 HS2.out HK2.out HB23.out))
    obtain ⟨R, hR⟩ : ∃ R, R = CutPost g d f ct P S T (N + 1) M (N + 1 + (N + 1)) w := ⟨_, rfl⟩
    rw [← hR] at HCUTD
    have HRR := Lib.hid hR
    clear hR
    go_region_held3 (fun w' => w'.cell? ⟨g, 0, none⟩ = some (.pointer (some ⟨d, 0, none⟩)) ∧ w'.cell? ⟨w3.heap.size, 0, none⟩ = some (.int .u64 (era : Nat)) ∧ w'.cell? ⟨w3.heap.size, 1, none⟩ = some (.int .u64 (first : Nat)) ∧ w'.cell? ⟨w3.heap.size, 2, none⟩ = some (.bool base) ∧ w'.cell? ⟨w3.heap.size, 3, none⟩ = some (.slice A ends.length c))
      (first
        | with_reducible assumption
        | exact HALL.out _ (Below.refl _ _)
        | exact HALL.out _ (Below.refl _ _).drew
        | exact HALL.out _ HB5.out
        | exact HALL.out _ HB6.out
        | exact HC7.out
        | exact HC8.out)
      (first
        | (go_at_call 24; refine (HNM.out _).mono ?_; rintro e w5 ⟨rfl, hb5⟩
           have HB5 := Lib.hid (show Below w4.heap.size w4 w5 from By.ext (Below.refl _ _).drew hb5)
           clear hb5)
        | (go_at_call 31; refine (HSS.out _ (By.ext HB34.out HB5.out)).mono ?_; rintro e w6 ⟨rfl, hb6⟩
           have HB6 := Lib.hid (show Below w4.heap.size w4 w6 from By.ext HB5.out hb6)
           have hct := HCT.out _ (By.ext HB34.out HB6.out)
           have HCT6 := Lib.hid hct
           clear hb6 hct)
        | (go_at_call 42; refine HCT6.out.mono ?_; rintro e w7 ⟨rfl, S7, hd7, hS7, hk7⟩
           have HZ6 := Lib.hid (show w4.heap.size ≤ w6.heap.size from HB6.out.size)
           have HC7 := Lib.hid (show w7.cell? ⟨g, 0, none⟩ = some (.pointer (some ⟨d, 0, none⟩)) ∧ w7.cell? ⟨w3.heap.size, 0, none⟩ = some (.int .u64 (era : Nat)) ∧ w7.cell? ⟨w3.heap.size, 1, none⟩ = some (.int .u64 (first : Nat)) ∧ w7.cell? ⟨w3.heap.size, 2, none⟩ = some (.bool base) ∧ w7.cell? ⟨w3.heap.size, 3, none⟩ = some (.slice A ends.length c) by
             have hc6 := HALL.out _ HB6.out
             have hgb := hk7.block g (by have := HGL.out; have := HZ34.out; have := HZ6.out; omega) (fun e => HSEP2.out g HLW.out.tg e)
             have hxb := hk7.block w3.heap.size (by have := HX4.out; have := HZ6.out; omega) (fun e => by have := HS2L.out _ e; omega)
             exact ⟨(World.cell?_of_block hgb).trans hc6.1, (World.cell?_of_block hxb).trans hc6.2.1, (World.cell?_of_block hxb).trans hc6.2.2.1, (World.cell?_of_block hxb).trans hc6.2.2.2.1, (World.cell?_of_block hxb).trans hc6.2.2.2.2⟩)
           have HX7 := Lib.hid (show w7.heap[w3.heap.size]? = w4.heap[w3.heap.size]? from (hk7.block w3.heap.size (by have := HX4.out; have := HZ6.out; omega) (fun e => by have := HS2L.out _ e; omega)).trans (HB6.out.block _ HX4.out))
           have HK7 := Lib.hid (show Kept S2 w3 w7 from (Kept.of_below (M := S2) (By.ext HB34.out HB6.out)).step hk7 (fun _ _ e => e))
           have HS7 := Lib.hid (show ∀ b, S7 b → S2 b ∨ w4.heap.size ≤ b from fun b hb => by
             rcases hS7 b hb with e | e
             · exact .inl e
             · exact .inr (Nat.le_trans HZ6.out e))
           have hsu := surely_ok g d s1 S7 T (segs true f P) false w7 (log_kept HL3.out HSEP2.out HK7.out) hd7 (by have := HCN.out.1; omega)
           rw [HS12.out.1, HS12.out.2] at hsu
           have HSU := Lib.hid hsu
           have HZ7 := Lib.hid (Nat.le_trans HZ6.out hk7.size)
           clear hd7 hS7 hk7 hsu)
        | (go_at_call 49; refine HSU.out.mono ?_; rintro e w8 ⟨rfl, S8, hd8, hS8, hk8⟩
           have hSg7 : ¬ S7 g := fun e => by
             rcases HS7.out g e with e | e
             · exact HSEP2.out g HLW.out.tg e
             · have := HGL.out; have := HZ34.out; omega
           have hSx7 : ¬ S7 w3.heap.size := fun e => by
             rcases HS7.out _ e with e | e
             · have := HS2L.out _ e; omega
             · have := HX4.out; omega
           have HC8 := Lib.hid (show w8.cell? ⟨g, 0, none⟩ = some (.pointer (some ⟨d, 0, none⟩)) ∧ w8.cell? ⟨w3.heap.size, 0, none⟩ = some (.int .u64 (era : Nat)) ∧ w8.cell? ⟨w3.heap.size, 1, none⟩ = some (.int .u64 (first : Nat)) ∧ w8.cell? ⟨w3.heap.size, 2, none⟩ = some (.bool base) ∧ w8.cell? ⟨w3.heap.size, 3, none⟩ = some (.slice A ends.length c) by
             have hc7 := HC7.out
             have hgb := hk8.block g (by have := HGL.out; have := HZ34.out; have := HZ7.out; omega) hSg7
             have hxb := hk8.block w3.heap.size (by have := HX4.out; have := HZ7.out; omega) hSx7
             exact ⟨(World.cell?_of_block hgb).trans hc7.1, (World.cell?_of_block hxb).trans hc7.2.1, (World.cell?_of_block hxb).trans hc7.2.2.1, (World.cell?_of_block hxb).trans hc7.2.2.2.1, (World.cell?_of_block hxb).trans hc7.2.2.2.2⟩)
           have HX8 := Lib.hid (show w8.heap[w3.heap.size]? = w4.heap[w3.heap.size]? from (hk8.block w3.heap.size (by have := HX4.out; have := HZ7.out; omega) hSx7).trans HX7.out)
           have HK8 := Lib.hid (show Kept S2 w3 w8 from HK7.out.step hk8 (fun b hb e => (HS7.out b e).resolve_right (by have := HZ34.out; omega)))
           have HS8 := Lib.hid (show ∀ b, S8 b → S2 b ∨ w4.heap.size ≤ b from fun b hb => by
             rcases hS8 b hb with e | e
             · exact HS7.out b e
             · exact .inr (Nat.le_trans HZ7.out e))
           have HD8 := Lib.hid hd8
           have HZ8 := Lib.hid (Nat.le_trans HZ7.out hk8.size)
           clear hd8 hS8 hk8 hSg7 hSx7))
    have HL8 := Lib.hid (show LogW w8 g d (segs true f P) false T (.slice (some ⟨ub, 0, none⟩) (segs true f P).length cap) ac from HLW.out.keep (fun b hb => HK8.out.block b (HLW.out.lt b hb) (fun e => HSEP2.out b hb e)) HK8.out.size)
    have hg8 : w8.cell? ⟨g, 1, none⟩ = some (.slice (some ⟨ub, 0, none⟩) L cap) := by rw [cell_of_row w8 g 1 _ _ _ HL8.out.row, HLL.out]; rfl
    have HLK := Lib.hid hkl'
    obtain ⟨k1, hk1⟩ : ∃ k1, k1 = k + 1 := ⟨_, rfl⟩
    have hkc : k1 ≤ cap := by have h1 := HCAP.out; have h2 := HLN.out; have h3 := HLL.out; omega
    have hLm : L ≤ 1099511627776 := by rw [HLL.out]; exact HLW.out.few
    have hwk : IntKind.i64.wrap ((k : Int) + 1) = (k1 : Int) := by rw [IntWalk.i64_in _ (by omega)]; omega
    obtain ⟨B, hB1, hB2, hB3⟩ := run_fromS w8 ub L cap k1 (by omega)
    obtain ⟨m, hm⟩ : ∃ m, m = L - k1 := ⟨_, rfl⟩
    rw [← hm] at hB1 hB3
    have hrm := wremove_any g d s2 S8 T (segs true f P) ((segs true f P).drop k1) false B (cap - k1) w8 ⟨_, _, HL8.out⟩ HD8.out
      (fun b ht hs => by
        rcases HS8.out b hs with e | e
        · exact HSEP2.out b ht e
        · have := HLW.out.lt b ht; have := HZ34.out; omega)
      (fun y hy => HLW.out.ok y (List.mem_of_mem_drop hy)) (by rw [List.length_drop]; have := HLL.out; have := HLN.out; have := HB.out.2.2.1; omega) (by have := HCN.out.2; omega)
      (lies_drop HL8.out k1 ⟨fun hs => by
        rcases HS8.out ub hs with e | e
        · exact HSEP2.out ub (HLW.out.tv ub rfl) e
        · have := HLW.out.lt ub (HLW.out.tv ub rfl); have := HZ34.out; omega, HL8.out.lt ub (HLW.out.tv ub rfl)⟩ (fun hlt => hB2 (by have := HCAP.out; have := HLN.out; omega)))
    rw [List.length_drop, ← HLL.out, ← hm, show remX ((segs true f P).drop k1) s2 = (0, s3) by rw [hk1]; exact HS3.out.1] at hrm
    have HRM := Lib.hid hrm
    have hl0 : (0 : Int) ≤ (k1 : Int) := by omega
    have hl1 : (k1 : Int) ≤ (cap : Int) := by omega
    have HK1 := Lib.hid (And.intro hk1 (And.intro hkc hLm))
    have HM := Lib.hid hm
    clear hrm hk1 hkc hLm hB2 hm hkl' hkli hB1
    go_wp2_with fail
    refine HRM.out.mono ?_
    rintro e w9 ⟨rfl, S9, hd9, hS9, hk9⟩
    obtain ⟨x, hx⟩ : ∃ x, x = w3.heap.size := ⟨_, rfl⟩
    have hSx8 : ¬ S8 x := fun e => by
      rcases HS8.out _ e with e | e
      · have := HS2L.out _ e; omega
      · have := HX4.out; omega
    have hx9 : w9.heap[x]? = some (.cells #[.int .u64 (era : Nat), .int .u64 (first : Nat), .bool base, .slice A ends.length c] tSeg (0, 0)) := (hk9.block x (by have := HX4.out; have := HZ8.out; omega) hSx8).trans (by rw [hx]; exact HX8.out.trans HROW.out)
    have HK9 := Lib.hid (show Kept S2 w3 w9 from HK8.out.step hk9 (fun b hb e => (HS8.out b e).resolve_right (by have := HZ34.out; omega)))
    have HS9 := Lib.hid (show ∀ b, S9 b → S2 b ∨ w4.heap.size ≤ b from fun b hb => by
      rcases hS9 b hb with e | e
      · exact HS8.out b e
      · exact .inr (Nat.le_trans HZ8.out e))
    have HD9 := Lib.hid hd9
    have HZ9 := Lib.hid (show x < w9.heap.size from row_lt hx9)
    have HX9 := Lib.hid hx9
    have HX := Lib.hid hx
    have hsgk : (segs true f P)[k]? = some ⟨era, first, base, ends⟩ := by rw [segs_get true f HKF.out.2.1, HERA.out, HFS.out, HBAS.out, HEND.out]
    have hE0 : w3.ownsRow 0 3 1 (.slice A ends.length c) ends.length (ints ends) := HLW.out.ends k _ _ hsgk HAC.out
    have hel : ends.length = p.length := by rw [HEND.out, endsOf_length]
    have hjl := HJ.out.2
    obtain ⟨q, hA, hec⟩ : ∃ q, A = some ⟨q, 0, none⟩ ∧ ends.length ≤ c := by
      rcases hE0.2 with ⟨-, h0⟩ | ⟨q, cap', cur, hv, _, _, hnc, _⟩
      · omega
      · injection hv with e1 e2 e3
        exact ⟨q, e1, by omega⟩
    have hE1 : w3.ownsRow 0 3 1 (.slice (some ⟨q, 0, none⟩) ends.length c) ends.length (ints ends) := hA ▸ hE0
    have hET := ownsRow_take hE1 (show j ≤ ends.length by omega)
    clear hE1
    rw [← hA] at hET
    have HET := Lib.hid (show w3.ownsRow 0 3 1 (.slice A j c) j (ints (ends.take j)) from by
      have e : (ints ends).take (j * 1) = ints (ends.take j) := by simp [ints]
      rw [← e]; exact hET)
    have HTQ := Lib.hid (show ∀ q, (Value.slice A j c).ownBlock = some q → T q from fun q hq => HLW.out.te k (A, c) j q HAC.out hq)
    have HAP := Lib.hid (show ∀ q, (Value.slice A j c).ownBlock = some q → T q ∧ w3.heap[q]? ≠ none ∧ ∀ (i : Nat) (a : AC) (n : Nat), i < k → ac[i]? = some a → (Value.slice a.1 n a.2).ownBlock = some q → False from by
      intro q hq
      refine ⟨HTQ.out q hq, fun e => ?_, fun i a n hik ha hqa => ?_⟩
      · obtain ⟨cur, hc⟩ := ownsRow_type HET.out hq
        rw [e] at hc
        cases hc
      · have := HLW.out.apart i k a (A, c) q n j ha HAC.out hqa hq
        omega)
    have HEL := Lib.hid hel
    obtain ⟨en, hen⟩ : ∃ n, n = ends.length := ⟨_, rfl⟩
    have hb0 : w9.cell? ⟨x, 0, none⟩ = some (.int .u64 (era : Nat)) := (cell_of_row w9 x 0 _ _ _ hx9).trans rfl
    have hb1 : w9.cell? ⟨x, 1, none⟩ = some (.int .u64 (first : Nat)) := (cell_of_row w9 x 1 _ _ _ hx9).trans rfl
    have hb2 : w9.cell? ⟨x, 2, none⟩ = some (.bool base) := (cell_of_row w9 x 2 _ _ _ hx9).trans rfl
    have hb3 : w9.cell? ⟨x, 3, none⟩ = some (.slice A en c) := (cell_of_row w9 x 3 _ _ _ hx9).trans (by rw [hen]; rfl)
    have hf3 : w9.frozen? ⟨x, 3, none⟩ = false := frozen_of_row w9 x 3 _ _ hx9
    have hwj : IntKind.u64.wrap ((ct : Int) - (first : Int)) = (j : Int) := by
      have h1 := HJ.out.1
      have h2 := HFS.out
      have h3 := HKF.out.2.2.1
      have h4 := HB.out.2.2.2
      have h5 := HLT.out
      rw [IntWalk.u64_in _ (by omega)]
      omega
    have hs4 := fun w' => run_toI w' A en c j (by omega)
    have HENL := Lib.hid hen
    rw [← hx]
    clear hd9 hS9 hk9 hSx8 hx9 hsgk hE0 hel hjl hA hec hET hx hen hg8 hl0 hl1 hwk hB3
    go_upto_region 13 with fail
    have HX10 := Lib.hid (show (w9.setCell ⟨x, 3, none⟩ (.slice A j c)).heap[x]? = some (.cells #[.int .u64 (era : Nat), .int .u64 (first : Nat), .bool base, .slice A j c] tSeg (0, 0)) from Go.heap_setCell_same w9 x 3 _ _ (.slice A j c) HX9.out)
    obtain ⟨w10, hw10⟩ : ∃ w10, w10 = w9.setCell ⟨x, 3, none⟩ (.slice A j c) := ⟨_, rfl⟩
    rw [← hw10] at HX10 ⊢
    have HW10 := Lib.hid hw10
    have HZ10 := Lib.hid (show w10.heap.size = w9.heap.size by rw [hw10]; exact size_setCell' _ _ _)
    have hxT : ∀ b, T b → b ≠ x := fun b hb e => by have := HLW.out.lt b hb; have := HX.out; omega
    have hT10 : ∀ b, T b → w10.heap[b]? = w3.heap[b]? := fun b hb => by
      rw [HW10.out]
      exact (heap_setCell_other w9 ⟨x, 3, none⟩ b _ (hxT b hb)).trans (HK9.out.block b (HLW.out.lt b hb) (fun e => HSEP2.out b hb e))
    have HO10 := Lib.hid (show w10.ownsRow 0 3 1 (.slice A j c) j (ints (ends.take j)) from ownsRow_keep HET.out (fun b hb => hT10 b (HTQ.out b hb)))
    have HR10 := Lib.hid ((hT10 g HLW.out.tg).trans HLW.out.row)
    have HSG := Lib.hid (show w10.ownsRow 0 tSeg 4 (.slice (some ⟨ub, 0, none⟩) k cap) k (sRow ((segs true f P).take k) (ac.take k)) from by
      have h := ownsRow_keep (w' := w10) HLW.out.segs (fun b hb => hT10 b (HLW.out.tv b hb))
      have hk : k ≤ (segs true f P).length := by have := HLN.out; have := HKF.out.1; omega
      have h2 := ownsRow_take h hk
      rw [sRow_take k HLW.out.hac hk] at h2
      exact h2)
    clear hw10 hxT hT10 hb0 hb1 hb2 hb3 hf3 hwj hs4
    have b0 : w10.cell? ⟨x, 0, none⟩ = some (.int .u64 (era : Nat)) := (cell_of_row w10 x 0 _ _ _ HX10.out).trans rfl
    have b1 : w10.cell? ⟨x, 1, none⟩ = some (.int .u64 (first : Nat)) := (cell_of_row w10 x 1 _ _ _ HX10.out).trans rfl
    have b2 : w10.cell? ⟨x, 2, none⟩ = some (.bool base) := (cell_of_row w10 x 2 _ _ _ HX10.out).trans rfl
    have b3 : w10.cell? ⟨x, 3, none⟩ = some (.slice A j c) := (cell_of_row w10 x 3 _ _ _ HX10.out).trans rfl
    have b4 : w10.cell? ⟨g, 1, none⟩ = some (.slice (some ⟨ub, 0, none⟩) L cap) := (cell_of_row w10 g 1 _ _ _ HR10.out).trans (by rw [HLL.out]; rfl)
    have b5 : (w10.alloc (.cells #[.int .u64 (era : Nat), .int .u64 (first : Nat), .bool base, .slice A j c] 59)).cell? ⟨g, 1, none⟩ = some (.slice (some ⟨ub, 0, none⟩) L cap) := (World.cell?_alloc_lt w10 _ ⟨g, 1, none⟩ (row_lt HR10.out)).trans b4
    have ka : (k : Int) ≤ (cap : Int) := by have := HCAP.out; have := HKF.out.1; omega
    have kb : (0 : Int) ≤ (k : Int) := by omega
    have HNC := Lib.hid (show ∀ (j' : Nat) (u : Value), [Value.int .u64 (era : Nat), .int .u64 (first : Nat), .bool base, .slice A j c][j']? = some u → (w10.alloc (.cells #[.int .u64 (era : Nat), .int .u64 (first : Nat), .bool base, .slice A j c] 59)).drew.cell? ((⟨w10.heap.size, 0, none⟩ : Addr).add j') = some u from by
      intro j' u hu
      rw [plainAdd, Nat.zero_add]
      refine Eq.trans (cell_of_row (w10.alloc (.cells #[.int .u64 (era : Nat), .int .u64 (first : Nat), .bool base, .slice A j c] 59)) _ j' _ _ _ (heap_alloc_new w10 _)) ?_
      simpa using hu)
    have HN1 := Lib.hid (show ∀ u ∈ [Value.int .u64 (era : Nat), .int .u64 (first : Nat), .bool base, .slice A j c], u.oneCell' = true from by
      intro u hu
      simp only [List.mem_cons, List.not_mem_nil, or_false] at hu
      rcases hu with rfl | rfl | rfl | rfl <;> rfl)
    have HRA := Lib.hid (show (w10.alloc (.cells #[.int .u64 (era : Nat), .int .u64 (first : Nat), .bool base, .slice A j c] 59)).drew.heap[g]? = _ from (heap_alloc_old w10 _ (row_lt HR10.out)).trans HR10.out)
    have HSA := Lib.hid (show (w10.alloc (.cells #[.int .u64 (era : Nat), .int .u64 (first : Nat), .bool base, .slice A j c] 59)).drew.ownsRow 0 tSeg 4 (.slice (some ⟨ub, 0, none⟩) k cap) k (sRow ((segs true f P).take k) (ac.take k)) from HSG.out.alloc _)
    have HGU := Lib.hid (show g ≠ ub from fun e => by
      obtain ⟨cub, hcub⟩ := ownsRow_type HLW.out.segs (b := ub) rfl
      rw [← e, HLW.out.row] at hcub
      injection hcub with h
      injection h with _ h
      exact absurd h (by decide))
    have HZA := Lib.hid (show (w10.alloc (.cells #[.int .u64 (era : Nat), .int .u64 (first : Nat), .bool base, .slice A j c] 59)).drew.heap.size = w10.heap.size + 1 from World.size_alloc w10 _)
    have HKL := Lib.hid (show k ≤ (segs true f P).length ∧ k + 1 ≤ 1099511627776 from by have := HLN.out; have := HKF.out.1; have := HB.out.2.2.1; exact ⟨by omega, by omega⟩)
    go_region_law (refine step_appS2 rfl (.tmp 77) (.tmp 79) rfl 0 (.slice (some ⟨ub, 0, none⟩) k cap) k (sRow ((segs true f P).take k) (ac.take k)) rfl HSA.out ⟨w10.heap.size, 0, none⟩ rfl [Value.int .u64 (era : Nat), .int .u64 (first : Nat), .bool base, .slice A j c] rfl HNC.out HN1.out (by have := HKL.out.2; omega) (Nat.zero_le _) ?_; intro v11 w11 ho11 hg11 hv11
                   obtain ⟨A11, c11, rfl⟩ := ownsRow_form ho11
                   have hr11 := (hg11.block g (row_lt HRA.out) (fun e => HGU.out (by simpa [Value.ownBlock] using e))).trans HRA.out
                   have hc11 : w11.cell? ⟨g, 1, none⟩ = some (.slice (some ⟨ub, 0, none⟩) L cap) := (cell_of_row w11 g 1 _ _ _ hr11).trans (by rw [HLL.out]; rfl)
                   have hf11 : w11.frozen? ⟨g, 1, none⟩ = false := frozen_of_row w11 g 1 _ _ hr11
                   have HO11 := Lib.hid ho11
                   have HV11 := Lib.hid (show ∀ b, (Value.slice A11 (k + 1) c11).ownBlock = some b → b = ub ∨ w10.heap.size < b from fun b hb => by
                     rcases hv11 b hb with h | h
                     · exact .inl (by simpa [Value.ownBlock] using h.symm)
                     · rw [HZA.out] at h
                       exact .inr (by omega))
                   have HG11 := Lib.hid (show (w10.alloc (.cells #[.int .u64 (era : Nat), .int .u64 (first : Nat), .bool base, .slice A j c] 59)).drew.grownBy w11 (some ub) from hg11)
                   clear ho11 hr11 hg11 hv11)
    all_goals
      go_wp2
      go_ret
      rw [← HRR.out]
      refine HCUTD.out _ ?_
      exact appended2 (w := w3) (w8 := w9) (w9 := w9) (S := S2) (ls := []) (sz := 0) (ends := ends.take j) (A0 := A) (A9 := A) (c0 := c) (c9 := c) (en := j) HLW.out HSEP2.out HKL.out.1 HKL.out.2
        (by rw [List.length_take]; have := HEL.out; have := HJ.out.2; omega)
        ⟨by
          have h := HOKS.out.next
          unfold Seg.next at h ⊢
          dsimp only at h ⊢
          rw [show endsOf 0 [] = [] from rfl, List.append_nil, List.length_take]
          omega, HOKS.out.era, by
          have h := HOKS.out.len
          dsimp only at h ⊢
          rw [show endsOf 0 [] = [] from rfl, List.append_nil, List.length_take]
          omega⟩
        HAP.out (fun q hq => ownsRow_type HET.out hq) HZ9.out (Nat.le_of_eq HX.out.symm) HD9.out
        (fun b hb => by
          rcases HS9.out b hb with e | e
          · exact ⟨fun e' => by have := HS2L.out b e; have := HX.out; omega, fun e' => HSEP2.out b e' e, .inl e⟩
          · exact ⟨fun e' => by have := HX4.out; have := HX.out; omega, fun e' => by have := HLW.out.lt b e'; have := HZ34.out; omega, .inr (by have := HZ34.out; omega)⟩)
        HK9.out (grown_refl _ _) (fun b hb => .inl hb) HW10.out
        (by rw [show endsOf 0 [] = [] from rfl, show ints [] = [] from rfl, List.append_nil]; exact HO10.out) HG11.out HV11.out HO11.out
end Go.Proofs.YtnjifhbooikdbaaGreatDoor.Wa

/-! Package wal: Drop, Cut, Read, Append on a log of pieces, as contracts of a call. -/
namespace Go.Proofs.YtnjifhbooikdbaaGreatDoor.Wa
open Go.RowKit Go.Maps By Mp Dk

def OutEx (R : List Seg → DS → Prop) (g d : Nat) (S T : Nat → Prop) (w : World) (e : Ending) (w' : World) : Prop := ∃ l' s3, R l' s3 ∧ OutPost g d l' s3 S T w e w'
set_option maxRecDepth 100000 in
set_option maxHeartbeats 2000000 in
theorem wdrop_ex (R : List Seg → DS → Prop) (g d dt : Nat) (S T : Nat → Prop) (l : List Seg) (w : World) (h : LogAt w g d l false T) (hto : dt ≤ nextS l)
    (hdrop : ∀ w', Below w.heap.size w w' → Calls Tryz.prog 26 #[.pointer (some ⟨g, 0, none⟩), .int .u64 (dt : Nat)] w' (OutEx R g d S T w')) :
    Calls Tryz.prog 9 #[.pointer (some ⟨g, 0, none⟩), .int .u64 (dt : Nat)] w (OutEx R g d S T w) := by
  have HWK := Lib.hid (works_any g d l false T w h)
  have HNX := Lib.hid (next_any g d l false T w h)
  have HTG := Lib.hid (logAt_lt h).2
  have HDR := Lib.hid hdrop
  obtain ⟨N, hN⟩ : ∃ N, N = nextS l := ⟨_, rfl⟩
  rw [← hN] at HNX hto
  have hle : ((dt : Nat) : Int) ≤ ((N : Nat) : Int) := by omega
  clear h hdrop hN hto
  go_enter Tryz.func9, Tryz.ntmps9
  go_wp2_with fail
  refine HWK.out.mono ?_
  rintro e w' ⟨rfl, rfl⟩
  go_wp2_with fail
  refine HNX.out.mono ?_
  rintro e w1 ⟨rfl, hb1⟩
  have HB1 := Lib.hid hb1
  clear hb1
  go_wp2_with fail
  refine (HDR.out _ HB1.out).mono ?_
  rintro e w2 ⟨l', s3, hR, rfl, S2, T2, hd2, hl2, hp2, hS2, hT2, hk2⟩
  have HR := Lib.hid hR
  clear hR
  have HHE := Lib.hid (hear_any g d l' false T2 0 w2 hl2)
  have HO := Lib.hid (fun w3 hl3 hk3 => OutPost.heard (w3 := w3) HB1.out hd2 hl2 hp2 hS2 hT2 HTG.out hk2 hl3 hk3)
  clear hd2 hl2 hp2 hS2 hT2 hk2
  go_wp2_with fail
  refine HHE.out.mono ?_
  rintro e w3 ⟨rfl, hl3, hk3⟩
  have HFIN := Lib.hid (HO.out w3 hl3 hk3)
  clear hl3 hk3
  go_wp2
  go_ret
  exact ⟨_, _, HR.out, HFIN.out⟩
set_option maxRecDepth 100000 in
set_option maxHeartbeats 2000000 in
theorem wcut_ex (R : List Seg → DS → Prop) (g d at_ : Nat) (S T : Nat → Prop) (l : List Seg) (w : World) (h : LogAt w g d l false T) (hlo : firstS l ≤ at_) (hhi : at_ ≤ nextS l)
    (hcut : ∀ w', Below w.heap.size w w' → Calls Tryz.prog 27 #[.pointer (some ⟨g, 0, none⟩), .int .u64 (at_ : Nat)] w' (OutEx R g d S T w')) :
    Calls Tryz.prog 11 #[.pointer (some ⟨g, 0, none⟩), .int .u64 (at_ : Nat)] w (OutEx R g d S T w) := by
  have HWK := Lib.hid (works_any g d l false T w h)
  have HFI := Lib.hid (first_any g d l false T w h)
  have HNX := Lib.hid (next_any g d l false T w h)
  have HTG := Lib.hid (logAt_lt h).2
  have HDR := Lib.hid hcut
  obtain ⟨N, hN⟩ : ∃ N, N = nextS l := ⟨_, rfl⟩
  obtain ⟨F, hF⟩ : ∃ F, F = firstS l := ⟨_, rfl⟩
  rw [← hN] at HNX hhi
  rw [← hF] at HFI hlo
  have hle : ((at_ : Nat) : Int) ≤ ((N : Nat) : Int) := by omega
  have hge : ((F : Nat) : Int) ≤ ((at_ : Nat) : Int) := by omega
  clear h hcut hN hF hhi hlo
  go_enter Tryz.func11, Tryz.ntmps11
  go_wp2_with fail
  refine HWK.out.mono ?_
  rintro e w' ⟨rfl, rfl⟩
  go_wp2_with fail
  refine HFI.out.mono ?_
  rintro e w' ⟨rfl, rfl⟩
  go_wp2_with fail
  refine HNX.out.mono ?_
  rintro e w1 ⟨rfl, hb1⟩
  have HB1 := Lib.hid hb1
  clear hb1
  go_wp2_with fail
  refine (HDR.out _ HB1.out).mono ?_
  rintro e w2 ⟨l', s3, hR, rfl, S2, T2, hd2, hl2, hp2, hS2, hT2, hk2⟩
  have HR := Lib.hid hR
  clear hR
  have HHE := Lib.hid (hear_any g d l' false T2 0 w2 hl2)
  have HO := Lib.hid (fun w3 hl3 hk3 => OutPost.heard (w3 := w3) HB1.out hd2 hl2 hp2 hS2 hT2 HTG.out hk2 hl3 hk3)
  clear hd2 hl2 hp2 hS2 hT2 hk2
  go_wp2_with fail
  refine HHE.out.mono ?_
  rintro e w3 ⟨rfl, hl3, hk3⟩
  have HFIN := Lib.hid (HO.out w3 hl3 hk3)
  clear hl3 hk3
  go_wp2
  go_ret
  exact ⟨_, _, HR.out, HFIN.out⟩
theorem flat_get {P : List (List Bs)} {k m : Nat} {p : List Bs} (hp : P[k]? = some p) (h1 : tot (P.take k) ≤ m) (h2 : m < tot (P.take k) + p.length) : P.flatten[m]? = p[m - tot (P.take k)]? := by
  obtain ⟨hk, he⟩ := List.getElem?_eq_some_iff.1 hp
  have h : P.flatten = (P.take k).flatten ++ (P.drop k).flatten := by rw [← List.flatten_append, List.take_append_drop]
  have ht : (P.take k).flatten.length = tot (P.take k) := rfl
  rw [h, List.drop_eq_getElem_cons hk, he, List.flatten_cons, List.getElem?_append_right (by omega), ht, List.getElem?_append_left (by omega)]
theorem segs_read (g d f i : Nat) (s : DS) (S T : Nat → Prop) (P : List (List Bs)) (r : Bs) (w : World) (h : LogAt w g d (segs true f P) false T) (hd : DiskAt w d s S) (hF : Files f P s.files) (hdn : s.down = false) (hfi : f ≤ i) (hi : P.flatten[i - f]? = some r) (hr : r.length ≤ 512) (ht : f + tot P < 18446744073709551616) :
    Calls Tryz.prog 12 #[.pointer (some ⟨g, 0, none⟩), .int .u64 (i : Nat)] w (ReadOk r w) := by
  have hil : i - f < tot P := (List.getElem?_eq_some_iff.1 hi).1
  have hne : P ≠ [] := fun e => by subst e; simp [tot] at hil
  refine lread_any g d i s S T (segs true f P) r w h hd (segs_rising _ _ _) (by rw [segs_len]; exact List.length_pos_iff.2 hne) (by rw [segs_first hne]; exact hfi) (by rw [segs_next hne]; omega) (fun k sg hk hf hb => ?_)
  obtain ⟨p, hp, rfl⟩ := segs_get' hk
  have hkP := (List.getElem?_eq_some_iff.1 hp).1
  have htp := tot_take_succ hp
  dsimp only at hf
  have hlt : i < f + tot (P.take (k + 1)) := by
    by_cases hk1 : k + 1 < P.length
    · exact hb (k + 1) _ (by omega) (segs_get true f (List.getElem?_eq_getElem hk1))
    · rw [show k + 1 = P.length by omega, List.take_length]; omega
  have hfl := flat_get hp (m := i - f) (by omega) (by omega)
  rw [hi] at hfl
  obtain ⟨j, hj⟩ : ∃ j, j = i - f - tot (P.take k) := ⟨_, rfl⟩
  rw [← hj] at hfl
  have hjl : j < p.length := by omega
  rw [List.getElem?_eq_getElem hjl] at hfl
  have hrj : r = p[j] := Option.some.inj hfl
  have hst : (⟨0, f + tot (P.take k), true && decide (k = 0), endsOf 0 p⟩ : Seg).start i = (framesB (p.take j)).length := by
    have := start_at (sg := ⟨0, f + tot (P.take k), true && decide (k = 0), endsOf 0 p⟩) (p := p) (j := j) rfl (by omega)
    rw [← this]; congr 1
    show i = f + tot (P.take k) + j
    omega
  have hnm : (⟨0, f + tot (P.take k), true && decide (k = 0), endsOf 0 p⟩ : Seg).name = nm (decide (k = 0)) (f + tot (P.take k)) := by rw [nm_eq, Bool.true_and]
  have hok : SegOk ⟨0, f + tot (P.take k), true && decide (k = 0), endsOf 0 p⟩ := by
    obtain ⟨v, ac, hw⟩ := h
    exact hw.ok _ (List.mem_of_getElem? hk)
  have hg := hF k p hp
  have hre : readE s (⟨0, f + tot (P.take k), true && decide (k = 0), endsOf 0 p⟩ : Seg).name = 0 := by
    unfold readE
    rw [hnm, if_neg (by rw [hdn]; decide), if_neg (by rw [nm_named (by have := tot_take_le P k; omega)]; decide), if_neg (by unfold fthere; rw [hg]; simp)]
  have hrb : readB s (⟨0, f + tot (P.take k), true && decide (k = 0), endsOf 0 p⟩ : Seg).name = framesB p := by unfold readB bytesOf; rw [if_pos hre, hnm, hg]; rfl
  have hbl : (framesB p).length ≤ 140737488355328 := by
    have h5 := (dlt' hd).2.2
    have h6 := bytesOf_le (fit_all h5.fit h5.un) (nm (decide (k = 0)) (f + tot (P.take k)))
    rw [show bytesOf (s.unsure.foldl doW s.sure) (nm (decide (k = 0)) (f + tot (P.take k))) = framesB p from by show bytesOf s.files _ = _; unfold bytesOf; rw [hg]; rfl] at h6
    omega
  refine ⟨by unfold Seg.next; dsimp only; rw [endsOf_length]; omega, framesB p, (CoP.frame r).length, hre, hrb, hbl, by rw [hst]; exact framesB_le _, ?_⟩
  rw [hst, record_at hjl (by rw [← hrj]; omega), ← hrj]
/-- A log that may be empty: then its list is nil. -/
def LogE (w : World) (g d : Nat) (l : List Seg) (T : Nat → Prop) : Prop := LogAt w g d l false T ∧ (l = [] → LogW w g d [] false T (.slice none 0 0) [])
theorem LogE.below {w w' : World} {g d : Nat} {l : List Seg} {T : Nat → Prop} (h : LogE w g d l T) (hb : Below w.heap.size w w') : LogE w' g d l T :=
  ⟨h.1.below hb, fun e => (h.2 e).keep (fun b hT => hb.block b ((h.2 e).lt b hT)) hb.size⟩
/-- The log while records are appended: k of them, in pieces. -/
def Adding (w wr : World) (g d : Nat) (R : List Bs) (k : Nat) : Prop :=
  ∃ (P : List (List Bs)) (s : DS) (S T : Nat → Prop), LogE wr g d (segs true 1 P) T ∧ DiskAt wr d s S ∧ (∀ b, T b → S b → False) ∧ (∀ b, S b → w.heap.size ≤ b) ∧ (∀ b, T b → w.heap.size ≤ b) ∧ Good P ∧ Quiet s k (520 * k) (2 + k) ∧ Files 1 P s.files ∧ Only 1 P s.files ∧ P.flatten = R ∧ P.length ≤ k ∧ tot P = k ∧ Below w.heap.size w wr
theorem Adding.below {w wr w' : World} {g d k : Nat} {R : List Bs} (h : Adding w wr g d R k) (hb : Below wr.heap.size wr w') : Adding w w' g d R k := by
  obtain ⟨P, s, S, T, h1, h2, h3, h4, h5, h6, h7, h8, h9, h10, h11, h12, h13⟩ := h
  exact ⟨P, s, S, T, h1.below hb, h2.below hb, h3, h4, h5, h6, h7, h8, h9, h10, h11, h12, By.ext h13 hb⟩
theorem append_one (g d k : Nat) (R : List Bs) (r : Bs) (A : Option Addr) (c : Nat) (w wr : World) (h : Adding w wr g d R k) (hk : k < 80) (hr : r.length ≤ 512) (hA : LiesL wr wr.heap.size A [r]) :
    Calls Tryz.prog 7 #[.pointer (some ⟨g, 0, none⟩), .slice A 1 c] wr (fun e w' => e = .returned (.int .i64 0) ∧ Adding w w' g d (R ++ [r]) (k + 1)) := by
  obtain ⟨P, s, S, T, h1, h2, h3, h4, h5, h6, h7, h8, h9, h10, h11, h12, h13⟩ := h
  obtain ⟨P', p1, p2, p3, p4, p5, p6, p7, p8, p9, p10, p11, p12, p13⟩ := app_step h6 h7 h8 h9 hr (by omega) (by omega) (by omega) (by omega)
  have hfr := framesB_one r
  have hcn := h7.cnt
  have hz := h13.size
  have fin : ∀ e w', AppPost g d (segs true 1 P') (chgS s 1 (lastS (segs true 1 P)).2.name ((lastS (segs true 1 P)).2.size : Int) (framesB [r])) S T wr e w' → e = .returned (.int .i64 0) ∧ Adding w w' g d (R ++ [r]) (k + 1) := by
    rintro e w' ⟨he, S', T', a1, a2, a3, a4, a5, a6⟩
    refine ⟨he, P', _, S', T', ⟨a2, fun e => ?_⟩, a1, a3, fun b hb => ?_, fun b hb => ?_, p3, ?_, p12, p13, by rw [p1, h10], by omega, ?_, ?_⟩
    · have hl := segs_len true 1 P'
      rw [e] at hl
      exact absurd (List.length_eq_zero_iff.1 hl.symm) p4
    · rcases a4 b hb with e | e
      · exact h4 b e
      · omega
    · rcases a5 b hb with e | e
      · exact h5 b e
      · omega
    · rw [show 520 * (k + 1) = 520 * k + 520 by omega, show 2 + (k + 1) = 2 + k + 1 by omega]
      exact p11
    · unfold tot at h12 ⊢
      rw [p1, List.length_append, h12]
      rfl
    · exact h13.trans (a6.below hz (fun b hb => by
        rcases hb with e | e
        · exact h4 b e
        · exact h5 b e))
  by_cases hP : P = []
  · subst hP
    rw [p5 rfl] at fin
    exact (append_first g d s S T A c [r] wr (h1.2 rfl) h2 h3 (by omega) hA (fun l hl => by simp at hl; subst hl; omega) (by simp) (by simp) (by omega) p10).mono (fun e w' h => fin e w' h)
  · rw [← p6 hP] at fin
    obtain ⟨v, ac, hw⟩ := h1.1
    exact (append_any g d s S T (segs true 1 P) v ac A c [r] wr hw (by rw [segs_len]; exact List.length_pos_iff.2 hP) h2 h3 (by omega) hA (fun l hl => by simp at hl; subst hl; omega) (by simp) (by simp)
      ⟨by omega, by simpa using p7, by simp; omega, p10⟩ (by rw [segs_len]; omega)).mono (fun e w' h => fin e w' h)
end Go.Proofs.YtnjifhbooikdbaaGreatDoor.Wa

/-! Package wal: what the law WalDrops' calls do, one after the other. -/
namespace Go.Proofs.YtnjifhbooikdbaaGreatDoor.Wa
open Go.RowKit Go.Maps By Mp Dk

def sumL (l : List Bs) : Nat := (l.map List.length).sum
theorem sumL_take {l : List Bs} {k : Nat} (hk : k < l.length) : sumL (l.take (k + 1)) = sumL (l.take k) + l[k].length := by
  unfold sumL
  rw [List.take_succ_eq_append_getElem hk, List.map_append, List.sum_append]
  simp
theorem sumL_le : ∀ {l : List Bs} (_ : ∀ x ∈ l, x.length ≤ 512) (k : Nat), sumL (l.take k) ≤ 512 * k
  | [], _, k => by simp [sumL]
  | x :: l, _, 0 => by simp [sumL]
  | x :: l, h, k + 1 => by
    have h1 := sumL_le (l := l) (fun y hy => h y (List.mem_cons_of_mem _ hy)) k
    have h2 := h x (List.mem_cons_self ..)
    unfold sumL at h1 ⊢
    rw [List.take_succ_cons, List.map_cons, List.sum_cons]
    omega
/-- The log behind a call, on a disk of the law's own. -/
def After (w wr : World) (g d f : Nat) (P : List (List Bs)) (N M C : Nat) : Prop :=
  ∃ (s : DS) (S T : Nat → Prop), LogAt wr g d (segs true f P) false T ∧ DiskAt wr d s S ∧ (∀ b, T b → S b → False) ∧ (∀ b, S b → w.heap.size ≤ b) ∧ (∀ b, T b → w.heap.size ≤ b) ∧ Quiet s N M C ∧ Files f P s.files ∧ (P = [] → f = 1) ∧ Below w.heap.size w wr
theorem After.below {w wr w' : World} {g d f N M C : Nat} {P : List (List Bs)} (h : After w wr g d f P N M C) (hb : Below wr.heap.size wr w') : After w w' g d f P N M C := by
  obtain ⟨s, S, T, h1, h2, h3, h4, h5, h6, h7, h8, h9⟩ := h
  exact ⟨s, S, T, h1.below hb, h2.below hb, h3, h4, h5, h6, h7, h8, By.ext h9 hb⟩
theorem After.first {w wr : World} {g d f N M C : Nat} {P : List (List Bs)} (h : After w wr g d f P N M C) : Calls Tryz.prog 10 #[.pointer (some ⟨g, 0, none⟩)] wr (Ret (.int .u64 (f : Nat)) wr) := by
  obtain ⟨s, S, T, h1, h2, h3, h4, h5, h6, h7, h8, h9⟩ := h
  have e := first_any g d _ false T wr h1
  by_cases hP : P = []
  · rw [hP, show firstS (segs true f []) = f from (h8 hP).symm] at e
    exact e
  · rw [segs_first hP] at e
    exact e
theorem After.next {w wr : World} {g d f N M C : Nat} {P : List (List Bs)} (h : After w wr g d f P N M C) : Calls Tryz.prog 8 #[.pointer (some ⟨g, 0, none⟩)] wr (RetB (.int .u64 ((f + tot P : Nat) : Int)) wr) := by
  obtain ⟨s, S, T, h1, h2, h3, h4, h5, h6, h7, h8, h9⟩ := h
  have e := next_any g d _ false T wr h1
  by_cases hP : P = []
  · rw [hP, show nextS (segs true f []) = f + tot [] from (h8 hP).symm] at e
    rw [hP]
    exact e
  · rw [segs_next hP] at e
    exact e
theorem After.read {w wr : World} {g d f N M C i : Nat} {P : List (List Bs)} {r : Bs} (h : After w wr g d f P N M C) (hfi : f ≤ i) (hi : P.flatten[i - f]? = some r) (hr : r.length ≤ 512) (ht : f + tot P < 18446744073709551616) :
    Calls Tryz.prog 12 #[.pointer (some ⟨g, 0, none⟩), .int .u64 (i : Nat)] wr (ReadOk r wr) := by
  obtain ⟨s, S, T, h1, h2, h3, h4, h5, h6, h7, h8, h9⟩ := h
  exact segs_read g d f i s S T P r wr h1 h2 h7 h6.down hfi hi hr ht
theorem Adding.next {w wr : World} {g d k : Nat} {R : List Bs} (h : Adding w wr g d R k) : Calls Tryz.prog 8 #[.pointer (some ⟨g, 0, none⟩)] wr (RetB (.int .u64 ((1 + k : Nat) : Int)) wr) := by
  obtain ⟨P, s, S, T, h1, h2, h3, h4, h5, h6, h7, h8, h9, h10, h11, h12, h13⟩ := h
  have e := After.next (w := w) (wr := wr) (f := 1) (P := P) (N := k) (M := 520 * k) (C := 2 + k) ⟨s, S, T, h1.1, h2, h3, h4, h5, h7, h8, fun _ => rfl, h13⟩
  rw [h12] at e
  exact e
theorem OutsPost.after {g d f N M C : Nat} {P3 : List (List Bs)} {S T : Nat → Prop} {w wr w' : World} {e : Ending} {l' : List Seg} {s3 : DS} (hS : ∀ b, S b → w.heap.size ≤ b) (hT : ∀ b, T b → w.heap.size ≤ b) (hb : Below w.heap.size w wr) (hl : l' = segs true f P3) (hq : Quiet s3 N M C) (hF : Files f P3 s3.files) (hf1 : P3 = [] → f = 1) (h : OutPost g d l' s3 S T wr e w') : e = .returned (.int .i64 0) ∧ After w w' g d f P3 N M C := by
  obtain ⟨he, S', T', a1, a2, a3, a4, a5, a6⟩ := h
  subst hl
  have hz := hb.size
  refine ⟨he, s3, S', T', a2, a1, a3, fun b hs => ?_, fun b ht => ?_, hq, hF, hf1, hb.trans (a6.below hz (fun b hb => by
    rcases hb with e | e
    · exact hS b e
    · exact hT b e))⟩
  · rcases a4 b hs with e | e
    · exact hS b e
    · omega
  · rcases a5 b ht with e | e
    · exact hT b e
    · omega
def Dropped (w : World) (g d n dt : Nat) (a : List Bs) (e : Ending) (w' : World) : Prop :=
  e = .returned (.int .i64 0) ∧ ∃ f P, After w w' g d f P (n + 1) (520 * n) (n + 1 + (n + 1)) ∧ 1 ≤ f ∧ f ≤ dt ∧ f + tot P = 1 + n ∧ P.flatten = a.drop (f - 1) ∧ (∀ (i : Nat) (p : List Bs), P[i]? = some p → 0 < i → p ≠ []) ∧ sumL ((a.drop (f - 1)).take (dt - f)) ≤ 1031 ∧ P.length ≤ n + 1
theorem Adding.drop {w wr : World} {g d n dt : Nat} {a : List Bs} (h : Adding w wr g d a n) (hn : n ≤ 80) (h1 : 1 ≤ dt) (h2 : dt ≤ 1 + n) :
    Calls Tryz.prog 9 #[.pointer (some ⟨g, 0, none⟩), .int .u64 (dt : Nat)] wr (Dropped w g d n dt a) := by
  obtain ⟨P, s, S, T, a1, a2, a3, a4, a5, a6, a7, a8, a9, a10, a11, a12, a13⟩ := h
  have hnx : nextS (segs true 1 P) = 1 + n := by
    by_cases hP : P = []
    · subst hP; rw [← a12]; rfl
    · rw [segs_next hP, a12]
  refine (wdrop_ex (fun l' s3 => ∃ f P3, l' = segs true f P3 ∧ Quiet s3 (n + 1) (520 * n) (n + 1 + (n + 1)) ∧ Files f P3 s3.files ∧ 1 ≤ f ∧ f ≤ dt ∧ f + tot P3 = 1 + tot P ∧ P3.flatten = P.flatten.drop (f - 1) ∧ (∀ (i : Nat) (p : List Bs), P3[i]? = some p → 0 < i → p ≠ []) ∧ (P3 = [] → f = 1) ∧ sumL (P3.flatten.take (dt - f)) ≤ 1031 ∧ P3.length ≤ P.length + 1) g d dt S T (segs true 1 P) wr a1.1 (by omega) (fun w' hb => ?_)).mono ?_
  · refine (drop_segs g d dt P s S T n (520 * n) (2 + n) w' (a1.1.below hb) (a2.below hb) a3 a6 a7 a8 a9 (by omega) (by omega) (by omega) (by omega) (by omega) h1 (by omega)).mono ?_
    rintro e w'' ⟨f, P3, ⟨s3, b1, b2, b3⟩, c1, c2, c3, c4, c5, c6, c7, c8, c9⟩
    exact ⟨_, s3, ⟨f, P3, rfl, b2, b3, c1, c2, c3, c4, c5, c7, c8, c9⟩, b1⟩
  · rintro e w' ⟨l', s3, ⟨f, P3, rfl, b2, b3, c1, c2, c3, c4, c5, c7, c8, c9⟩, b1⟩
    obtain ⟨he, haf⟩ := OutsPost.after a4 a5 a13 rfl b2 b3 c7 b1
    rw [a10] at c4
    rw [c4] at c8
    exact ⟨he, f, P3, haf, c1, c2, by omega, c4, c5, c8, by omega⟩
def CutTo (w : World) (g d n f ct : Nat) (R : List Bs) (e : Ending) (w' : World) : Prop :=
  e = .returned (.int .i64 0) ∧ ∃ P, After w w' g d f P (n + 1 + 1) (520 * n) (n + 1 + 1 + (n + 1 + 1)) ∧ f + tot P = ct ∧ P.flatten = R.take (ct - f)
theorem After.cut {w wr : World} {g d n f ct : Nat} {P : List (List Bs)} (h : After w wr g d f P (n + 1) (520 * n) (n + 1 + (n + 1))) (hne : ∀ (i : Nat) (p : List Bs), P[i]? = some p → 0 < i → p ≠ []) (hn : n ≤ 80) (hl : P.length ≤ n + 1) (ht : f + tot P = 1 + n) (h1 : f ≤ ct) (h2 : ct ≤ f + tot P) :
    Calls Tryz.prog 11 #[.pointer (some ⟨g, 0, none⟩), .int .u64 (ct : Nat)] wr (CutTo w g d n f ct P.flatten) := by
  obtain ⟨s, S, T, a1, a2, a3, a4, a5, a6, a7, a8, a9⟩ := h
  have hfi : firstS (segs true f P) = f := by
    by_cases hP : P = []
    · rw [hP]; exact (a8 hP).symm
    · exact segs_first hP
  have hnx : nextS (segs true f P) = f + tot P := by
    by_cases hP : P = []
    · rw [hP, a8 hP]; rfl
    · exact segs_next hP
  refine (wcut_ex (fun l' s3 => ∃ P4, l' = segs true f P4 ∧ Quiet s3 (n + 1 + 1) (520 * n) (n + 1 + 1 + (n + 1 + 1)) ∧ Files f P4 s3.files ∧ f + tot P4 = ct ∧ P4.flatten = P.flatten.take (ct - f) ∧ (P4 = [] → P = [])) g d ct S T (segs true f P) wr a1 (by omega) (by omega) (fun w' hb => ?_)).mono ?_
  · refine (cut_segs g d f ct P s S T (n + 1) (520 * n) (n + 1 + (n + 1)) w' (a1.below hb) (a2.below hb) a3 hne a6 a7 (by omega) (by omega) (by omega) (by omega) (by omega) h1 h2 a8).mono ?_
    rintro e w'' ⟨P4, ⟨s3, b1, b2, b3⟩, c1, c2, c3, c4⟩
    exact ⟨_, s3, ⟨P4, rfl, b2, b3, c1, c2, c3⟩, b1⟩
  · rintro e w' ⟨l', s3, ⟨P4, rfl, b2, b3, c1, c2, c3⟩, b1⟩
    obtain ⟨he, haf⟩ := OutsPost.after a4 a5 a9 rfl b2 b3 (fun e => a8 (c3 e)) b1
    exact ⟨he, P4, haf, c1, c2⟩
theorem adding_new {w wr : World} {g d : Nat} {s : DS} {S T : Nat → Prop} (hl : LogW wr g d [] false T (.slice none 0 0) []) (hd : DiskAt wr d s S) (hs : s = newDS 4000000) (hsep : ∀ b, T b → S b → False) (hS : ∀ b, S b → w.heap.size ≤ b) (hT : ∀ b, T b → w.heap.size ≤ b) (hb : Below w.heap.size w wr) : Adding w wr g d [] 0 := by
  subst hs
  exact ⟨[], newDS 4000000, S, T, ⟨⟨_, _, hl⟩, fun _ => hl⟩, hd, hsep, hS, hT, ⟨fun i p h => by simp at h, fun p h => by simp at h⟩, ⟨rfl, rfl, rfl, List.Pairwise.nil, Nat.le_refl _, Nat.le_refl _, by decide⟩, (fun k p h => (by simp at h) : Files 1 [] (newDS 4000000).files), (fun n b h => (by cases h) : Only 1 [] (newDS 4000000).files), rfl, Nat.le_refl _, rfl, hb⟩
/-- One row in memory. -/
theorem one_row {w : World} {A : Option Addr} {n c : Nat} {r : Bs} (hn : n = r.length) (h : Lies w w.heap.size A r) : LiesL (w.alloc (.cells #[.slice A n c] 32)) (w.alloc (.cells #[.slice A n c] 32)).heap.size (some ⟨w.heap.size, 0, none⟩) [r] := fun _ => by
  refine ⟨w.heap.size, 0, rfl, by simp, fun j l hj => ?_⟩
  cases j with
  | zero =>
    simp at hj
    subst hj
    refine ⟨A, c, ?_, (h.below ((Below.refl _ _).alloc (Nat.le_refl _) _)).more (by simp)⟩
    rw [cell_of_row _ _ 0 _ _ _ (heap_alloc_new w _), hn]
    rfl
  | succ j => simp at hj
end Go.Proofs.YtnjifhbooikdbaaGreatDoor.Wa

/-! The walk of WalDrops. -/
namespace Go.Proofs.YtnjifhbooikdbaaGreatDoor.Wa
open Go.RowKit Go.Maps By Mp Dk

theorem below_dN {B : Nat} {a w : World} (h : Below B a w) (q : Nat) : Below B a (w.drewN q) := ⟨h.os, h.tape, h.output, h.size, h.block⟩
theorem wrap_u64 {x : Int} (h0 : 0 ≤ x) (h1 : x ≤ 18446744073709551615) : IntKind.u64.wrap x = x := IntWalk.u64_in _ ⟨by omega, by omega⟩
theorem dt_of {t : Int} {n1 : Nat} (h0 : 0 ≤ t) (h1 : t ≤ 65535) (hn : ¬ (n1 = 0)) (hn2 : n1 ≤ 81) : ∃ dt : Nat, IntKind.u64.wrap ((IntKind.u64.wrap t).tmod ↑n1 + 1) = (dt : Int) ∧ 1 ≤ dt ∧ dt ≤ n1 := by
  have e0 := Int.emod_nonneg t (show (n1 : Int) ≠ 0 by omega)
  have e1 := Int.emod_lt_of_pos t (show (0 : Int) < (n1 : Int) by omega)
  refine ⟨(t % (n1 : Int) + 1).toNat, ?_, by omega, by omega⟩
  rw [wrap_u64 h0 (by omega), Int.tmod_eq_emod_of_nonneg h0, wrap_u64 (by omega) (by omega)]
  omega
theorem ct_of {u : Int} {f m : Nat} (h0 : 0 ≤ u) (h1 : u ≤ 65535) (hf : f ≤ 81) (hm : m ≤ 81) : ∃ ct : Nat, IntKind.u64.wrap ((f : Int) + (IntKind.u64.wrap u).tmod ((m : Int) + 1)) = (ct : Int) ∧ f ≤ ct ∧ ct ≤ f + m := by
  have e0 := Int.emod_nonneg u (show (m : Int) + 1 ≠ 0 by omega)
  have e1 := Int.emod_lt_of_pos u (show (0 : Int) < (m : Int) + 1 by omega)
  refine ⟨((f : Int) + u % ((m : Int) + 1)).toNat, ?_, by omega, by omega⟩
  rw [wrap_u64 h0 (by omega), Int.tmod_eq_emod_of_nonneg h0, wrap_u64 (by omega) (by omega)]
  omega
set_option maxRecDepth 100000 in
set_option maxHeartbeats 8000000 in
theorem walDrops_any (A1 : Option Addr) (c1 : Nat) (a : List Bs) (t u : Int) (w : World) (ha : LiesL w w.heap.size A1 a) (na : a.length ≤ 1048576) (la : ∀ l ∈ a, l.length ≤ 140737488355328) (ht : 0 ≤ t ∧ t ≤ 65535) (hu : 0 ≤ u ∧ u ≤ 65535) :
    Calls Tryz.prog 3 #[.slice A1 a.length c1, .int .u16 t, .int .u16 u] w (True_ w) := by
  have HNW := Lib.hid (new_any 4000000 w rfl)
  have HA := Lib.hid ha
  have HLA := Lib.hid la
  have HTU := Lib.hid (And.intro ht hu)
  have q1 := logTest
  clear ha la ht hu
  go_enter Tryz.func3, Tryz.ntmps3
  go_wp2_with fail
  refine HNW.out.mono ?_
  rintro e w1 ⟨d, S, rfl, hd1, hS1, hb1⟩
  have HD1 := Lib.hid hd1
  have HS1 := Lib.hid hS1
  have HB1 := Lib.hid hb1
  have HOP := Lib.hid (open_new d (newDS 4000000) S w1 hd1 rfl (by decide) rfl)
  clear HNW hd1 hS1 hb1
  go_wp2_with fail
  refine HOP.out.mono ?_
  rintro e w2 ⟨g, T, rfl, hl2, hT2, hb2⟩
  have HAD := Lib.hid (adding_new (w := w) hl2 (HD1.out.below hb2) rfl (fun b ht hs => by have := (dlt' HD1.out).1 b hs; have := hT2 b ht; omega) HS1.out (fun b ht => Nat.le_trans HB1.out.size (hT2 b ht)) (By.ext HB1.out hb2))
  have HB2 := Lib.hid (By.ext HB1.out hb2)
  clear HOP hl2 hT2 hb2 HD1 HS1
  go_wp2_with fail
  refine (answers_any _).mono ?_
  rintro e w3 ⟨rfl, hb3⟩
  have HB3 := Lib.hid (By.ext HB2.out hb3)
  have HAD3 := Lib.hid (HAD.out.below hb3)
  clear hb3 HAD
  by_cases h80 : 80 < a.length
  · have h80i : (80 : Int) < (a.length : Int) := by omega
    go_wp2_with fail
    refine (answers_any _).mono ?_
    rintro e w4 ⟨rfl, hb4⟩
    have HB4 := Lib.hid (By.ext HB3.out hb4)
    clear hb4
    go_wp2
    go_ret
    exact ⟨rfl, HB4.out⟩
  · have h80i : ¬ ((80 : Int) < (a.length : Int)) := by omega
    have hn80 : a.length ≤ 80 := by omega
    clear h80
    go_wp2
    go_loopw [11] (fun i wr => ∃ k : Nat, k ≤ a.length ∧ i = .int .i64 (k : Int) ∧ (∀ (j : Nat) (r : Bs), j < k → a[j]? = some r → r.length ≤ 512) ∧ Adding w wr g d (a.take k) k) (fun i _ => a.length - (intOf i).toNat)
    case atStart => exact ⟨0, Nat.zero_le _, rfl, fun j r hj => by omega, HAD3.out⟩
    case round =>
      obtain ⟨k, hk, rfl, hsm, had⟩ := hrel
      have HSM := Lib.hid hsm
      have HAD := Lib.hid had
      obtain ⟨-, -, -, -, -, -, -, -, -, -, -, -, -, -, -, -, hbw⟩ := had
      have HBW := Lib.hid hbw
      clear hsm hbw
      by_cases hlt : k < a.length
      · obtain ⟨ga, o, Aj, cj, rfl, hga, hcj, hlj⟩ := HA.out.at_ hlt
        have hc' : wr.cell? ⟨ga, o + k, none⟩ = some (.slice Aj (a[k]).length cj) := (HBW.out.cell hga).trans hcj
        have hca : (wr.alloc (.cells #[] 5)).cell? ⟨ga, o + k, none⟩ = some (.slice Aj (a[k]).length cj) := (World.cell?_alloc_lt wr _ ⟨ga, o + k, none⟩ (Nat.lt_of_lt_of_le hga HBW.out.size)).trans hc'
        have HL := Lib.hid ((hlj.below HBW.out).more HBW.out.size)
        have HLK := Lib.hid (show a[k]? = some a[k] from List.getElem?_eq_getElem hlt)
        have HML := Lib.hid (HLA.out _ (List.getElem_mem hlt))
        have HTK := Lib.hid (show a.take (k + 1) = a.take k ++ [a[k]] from List.take_succ_eq_append_getElem hlt)
        obtain ⟨r, hr⟩ : ∃ r, r = a[k] := ⟨_, rfl⟩
        rw [← hr] at hc' hca HL HLK HML HTK
        clear hcj hlj hr
        obtain ⟨rl, hrl⟩ : ∃ rl, rl = r.length := ⟨_, rfl⟩
        rw [← hrl] at hc' hca HML
        have HRL := Lib.hid hrl
        clear hrl
        by_cases h512 : 512 < rl
        · have h5i : (512 : Int) < (rl : Int) := by omega
          go_wp2
          go_ret
          exact ⟨rfl, HBW.out⟩
        · have h5i : ¬ ((512 : Int) < (rl : Int)) := by omega
          have HR5 := Lib.hid (show r.length ≤ 512 by have := HRL.out; omega)
          clear h512
          go_wp2_with (first
            | (at_builtin; refine wpList_app rfl (.tmp 53) (.tmp 57) rfl rfl (By.Own.made wr wr.heap.size #[] 0 (Nat.le_refl _) (by decide) rfl) rfl HRL.out ((HL.out.alloc (Nat.le_refl _) _)) (by have := HR5.out; simp; omega) (by simp) ?_; intro v2 w2 ho2 hb2 hg2
               obtain ⟨A2, c2, hv2, -, -, -, hl2, -⟩ := ho2.form
               subst hv2
               have HB2 := Lib.hid (show Below wr.heap.size wr w2 from ((Below.refl _ _).alloc (Nat.le_refl _) (.cells #[] 5)).trans hb2)
               have HL2 := Lib.hid hl2
               have HNL := Lib.hid (show ([] ++ r).length = r.length by simp)
               clear ho2 hb2 hg2)
            | fail)
          rw [List.nil_append] at hl2
          have HBA := Lib.hid (show Below wr.heap.size wr (w2.alloc (.cells #[.slice A2 r.length c2] 32)) from HB2.out.trans (((Below.refl _ _).alloc (Nat.le_refl _) _).mono HB2.out.size))
          have HAP := Lib.hid (append_one g d k (a.take k) r (some ⟨w2.heap.size, 0, none⟩) 1 w (w2.alloc (.cells #[.slice A2 r.length c2] 32)) (HAD.out.below HBA.out) (by omega) HR5.out (one_row rfl hl2))
          clear hl2
          refine HAP.out.mono ?_
          rintro e w4 ⟨rfl, had4⟩
          have HAD4 := Lib.hid had4
          clear had4
          go_wp2
          go_roundw
          case rel =>
            refine ⟨k + 1, by omega, by go_num, fun j r' hj hr' => ?_, by rw [HTK.out]; exact HAD4.out⟩
            by_cases hjk : j < k
            · exact HSM.out j r' hjk hr'
            · rw [show j = k by omega, HLK.out] at hr'
              injection hr' with hr'
              rw [← hr']
              exact HR5.out
          case measure => simp [intOf]; omega
      · have hke : k = a.length := by omega
        subst hke
        have HSMA := Lib.hid (show ∀ x ∈ a, x.length ≤ 512 from fun x hx => by
          obtain ⟨j, hj, e⟩ := List.getElem_of_mem hx
          exact HSM.out j x hj (List.getElem?_eq_some_iff.2 ⟨hj, e⟩))
        rw [List.take_length] at HAD
        obtain ⟨n, hn⟩ : ∃ n, n = a.length := ⟨_, rfl⟩
        rw [← hn] at HAD hn80 na h80i ⊢
        have HNN := Lib.hid hn
        clear hn hlt hk HSM HAD3
        have hnn : ¬ ((n : Int) < (n : Int)) := by omega
        have HNX := Lib.hid (Adding.next HAD.out)
        obtain ⟨n1, hn1⟩ : ∃ n1, n1 = 1 + n := ⟨_, rfl⟩
        rw [← hn1] at HNX
        have HN1 := Lib.hid hn1
        clear hn1
        go_wp2_with fail
        refine HNX.out.mono ?_
        rintro e w4 ⟨rfl, hb4⟩
        have HAD4 := Lib.hid (HAD.out.below hb4)
        have hz1 : ¬ (n1 = 0) := by have := HN1.out; omega
        have hz2 : ¬ ((n1 : Int) = 0) := by omega
        clear hb4 HAD HNX hnn
        go_upto_region 13 with fail
        obtain ⟨dt, hdt, hd1, hd2⟩ := dt_of HTU.out.1.1 HTU.out.1.2 hz1 (by have := HN1.out; omega)
        rw [hdt]
        have HDR := Lib.hid (Adding.drop HAD4.out hn80 hd1 (by have := HN1.out; omega))
        have HDT := Lib.hid (And.intro hd1 hd2)
        clear hdt hd1 hd2 HAD4
        go_wp2_with fail
        refine HDR.out.mono ?_
        rintro e w5 ⟨rfl, f, P, haf, hf1, hf2, hft, hfl, hne, hsum, hPl⟩
        have HFI := Lib.hid haf.first
        have HNX := Lib.hid haf.next
        rw [hft, ← HN1.out] at HNX
        have HAF := Lib.hid haf
        have HFP := Lib.hid (And.intro hf1 (And.intro hf2 (And.intro hft (And.intro hfl (And.intro hne hPl)))))
        have HSU := Lib.hid hsum
        have hfd : ¬ ((dt : Int) < (f : Int)) := by omega
        have hfn : ¬ (dt < f) := by omega
        have hnw : ((n1 : Int) != (n : Int) + 1) = false := by
          have := HN1.out
          rw [show (n1 : Int) = (n : Int) + 1 by omega]
          simp
        clear haf hf1 hf2 hft hfl hne hsum hPl HDR
        go_wp2_with fail
        refine HFI.out.mono ?_
        rintro e w' ⟨rfl, rfl⟩
        go_wp2_with fail
        refine HNX.out.mono ?_
        rintro e w6 ⟨rfl, hb6⟩
        have HAF6 := Lib.hid (HAF.out.below hb6)
        clear hb6 HAF HFI HNX
        have HFI6 := Lib.hid HAF6.out.first
        clear hz1 hz2
        go_wp2_with fail
        refine HFI6.out.mono ?_
        rintro e w' ⟨rfl, rfl⟩
        clear HFI6 hfd hfn hnw
        obtain ⟨D, hD⟩ : ∃ D, D = dt - f := ⟨_, rfl⟩
        have HDD := Lib.hid hD
        rw [← hD] at HSU
        clear hD
        go_upto_region 17 with fail
        go_loopw [14, 13] (fun i m wr => wr = w6 ∧ ∃ k I : Nat, k ≤ D ∧ I = f + k ∧ i = .int .u64 (I : Int) ∧ m = .int .i64 ((sumL ((a.drop (f - 1)).take k) : Nat) : Int)) (fun i _ _ => dt - (intOf i).toNat)
        case atStart => exact ⟨rfl, 0, f, Nat.zero_le _, rfl, rfl, by rw [List.take_zero]; rfl⟩
        case round =>
          obtain ⟨hwr, k, I, hk, hI, rfl, rfl⟩ := hrel
          subst hwr
          have hft := HFP.out
          have hdt := HDT.out
          have hn1 := HN1.out
          have hdd := HDD.out
          have hsl := sumL_le (l := a.drop (f - 1)) (fun x hx => HSMA.out x (List.mem_of_mem_drop hx)) k
          obtain ⟨tk, htk⟩ : ∃ tk, tk = sumL ((a.drop (f - 1)).take k) := ⟨_, rfl⟩
          by_cases hlt : k < D
          · obtain ⟨j, hj⟩ : ∃ j, j = f - 1 + k := ⟨_, rfl⟩
            have hja : j < a.length := by have := HNN.out; omega
            have hkd : k < (a.drop (f - 1)).length := by rw [List.length_drop]; have := HNN.out; omega
            have hst := sumL_take hkd
            have hge : (a.drop (f - 1))[k] = a[j] := by rw [List.getElem_drop]; congr 1; omega
            rw [hge] at hst
            obtain ⟨ga, o, Aj, cj, rfl, hga, hcj, -⟩ := HA.out.at_ hja
            have hb6 : Below w.heap.size w wr := by obtain ⟨s, S', T', -, -, -, -, -, -, -, -, hb⟩ := HAF6.out; exact hb
            have hc : wr.cell? ⟨ga, o + j, none⟩ = some (.slice Aj (a[j]).length cj) := (hb6.cell hga).trans hcj
            have hle := HSMA.out _ (List.getElem_mem hja)
            obtain ⟨x, hx⟩ : ∃ x, x = (a[j]).length := ⟨_, rfl⟩
            rw [← hx] at hc hle hst
            rw [← htk] at hst hsl ⊢
            have hjw : IntKind.u64.wrap ((I : Int) - 1) = (j : Int) := by rw [wrap_u64 (by omega) (by omega)]; omega
            have hIl : (I : Int) < (dt : Int) := by omega
            have hjn : (j : Int) < (n : Int) := by have := HNN.out; omega
            have hj0 : (0 : Int) ≤ (j : Int) := by omega
            have hI8 : I ≤ 81 := by omega
            have htl : tk ≤ 40960 := by omega
            have HST := Lib.hid hst
            have HK := Lib.hid (And.intro hlt (And.intro hI hIl))
            clear hst hge hkd hj hx htk hcj hga hsl hb6 hft hn1 hdd hdt hI hk
            go_wp2
            go_roundw
            case rel => exact ⟨trivial, k + 1, I + 1, by have := HK.out; omega, by have := HK.out; omega, by go_num, by rw [HST.out]; go_num⟩
            case measure => simp [intOf]; have := HK.out; omega
          · have hkD : k = D := by omega
            subst hkD
            have hIn : ¬ ((I : Int) < (dt : Int)) := by omega
            have hsu := HSU.out
            rw [← htk] at hsu ⊢
            have htn : ¬ ((4096 : Int) ≤ (tk : Int)) := by omega
            have HFI := Lib.hid HAF6.out.first
            have HNX := Lib.hid (show Calls Tryz.prog 8 #[.pointer (some ⟨g, 0, none⟩)] wr (RetB (.int .u64 (n1 : Int)) wr) from by
              have h := HAF6.out.next
              rw [hft.2.2.1, ← hn1] at h
              exact h)
            obtain ⟨m, hm⟩ : ∃ m, m = n1 - f := ⟨_, rfl⟩
            have hwm : IntKind.u64.wrap ((n1 : Int) - (f : Int)) = (m : Int) := by rw [wrap_u64 (by omega) (by omega)]; omega
            have HMM := Lib.hid (show m = n1 - f ∧ 1 ≤ f ∧ f ≤ n1 ∧ n1 ≤ 81 from ⟨hm, by omega, by omega, by omega⟩)
            have hm8 : m ≤ 81 := by omega
            have hmz : ¬ ((m : Int) + 1 = 0) := by omega
            clear hsu htk hm hft hdt hn1 hdd hsl hlt hk hI
            go_wp2_with fail
            refine HFI.out.mono ?_
            rintro e w' ⟨rfl, rfl⟩
            go_wp2_with fail
            refine HNX.out.mono ?_
            rintro e w7 ⟨rfl, hb7⟩
            have HAF7 := Lib.hid (HAF6.out.below hb7)
            have HFI7 := Lib.hid HAF7.out.first
            clear hb7 HFI HNX
            go_wp2_with fail
            refine HFI7.out.mono ?_
            rintro e w' ⟨rfl, rfl⟩
            clear HFI7
            go_upto_region 23 with fail
            obtain ⟨ct, hct, hc1, hc2⟩ := ct_of HTU.out.2.1 HTU.out.2.2 (f := f) (m := m) (by have := HMM.out; omega) hm8
            rw [hct]
            have HCU := Lib.hid (After.cut (ct := ct) HAF7.out HFP.out.2.2.2.2.1 hn80 HFP.out.2.2.2.2.2 HFP.out.2.2.1 hc1 (by have := HMM.out; have := HFP.out.2.2.1; have := HN1.out; omega))
            have HC12 := Lib.hid (And.intro hc1 hc2)
            clear hct hc1 hc2 hmz hwm htn hIn
            go_wp2_with fail
            refine HCU.out.mono ?_
            rintro e w8 ⟨rfl, P4, haf8, htot, hfl⟩
            have HNX8 := Lib.hid (show Calls Tryz.prog 8 #[.pointer (some ⟨g, 0, none⟩)] w8 (RetB (.int .u64 (ct : Int)) w8) from by
              have h := haf8.next
              rw [htot] at h
              exact h)
            have HAF8 := Lib.hid haf8
            rw [HFP.out.2.2.2.1] at hfl
            have HFL := Lib.hid (And.intro htot hfl)
            clear haf8 htot hfl HCU
            go_wp2_with fail
            refine HNX8.out.mono ?_
            rintro e w9 ⟨rfl, hb9⟩
            have HAF9 := Lib.hid (HAF8.out.below hb9)
            have HFI9 := Lib.hid HAF9.out.first
            clear hb9 HAF8 HNX8
            go_wp2_with fail
            refine HFI9.out.mono ?_
            rintro e w' ⟨rfl, rfl⟩
            clear HFI9
            go_upto_region 26 with fail
            obtain ⟨E, hE⟩ : ∃ E, E = ct - f := ⟨_, rfl⟩
            have HEE := Lib.hid hE
            clear hE
            go_loopw [16] (fun i wr => ∃ k I : Nat, k ≤ E ∧ I = f + k ∧ i = .int .u64 (I : Int) ∧ After w wr g d f P4 (n + 1 + 1) (520 * n) (n + 1 + 1 + (n + 1 + 1))) (fun i _ => ct - (intOf i).toNat)
            case atStart => exact ⟨0, f, Nat.zero_le _, rfl, rfl, HAF9.out⟩
            case round =>
              obtain ⟨k, I, hk, hI, rfl, haf⟩ := hrel
              have HAF := Lib.hid haf
              have HBW := Lib.hid (show Below w.heap.size w wr by obtain ⟨s, S', T', -, -, -, -, -, -, -, -, hb⟩ := haf; exact hb)
              clear haf
              have h1 := HFP.out
              have h2 := HDT.out
              have h3 := HN1.out
              have h4 := HEE.out
              have h5 := HC12.out
              have h6 := HMM.out
              have h7 := HNN.out
              by_cases hlt : k < E
              · obtain ⟨j, hj⟩ : ∃ j, j = f - 1 + k := ⟨_, rfl⟩
                have hja : j < a.length := by omega
                obtain ⟨ga, o, Aj, cj, rfl, hga, hcj, hlj⟩ := HA.out.at_ hja
                have hr5 := HSMA.out _ (List.getElem_mem hja)
                have hPk : P4.flatten[I - f]? = some a[j] := by
                  rw [HFL.out.2, show I - f = k by omega, List.getElem?_take, if_pos (by omega), List.getElem?_drop, ← hj, List.getElem?_eq_getElem hja]
                obtain ⟨r, hr⟩ : ∃ r, r = a[j] := ⟨_, rfl⟩
                rw [← hr] at hcj hlj hr5 hPk
                have HRD := Lib.hid (After.read HAF.out (show f ≤ I by omega) hPk hr5 (by have := HFL.out.1; omega))
                have hjw : IntKind.u64.wrap ((I : Int) - 1) = (j : Int) := by rw [wrap_u64 (by omega) (by omega)]; omega
                have hIl : (I : Int) < (ct : Int) := by omega
                have hjn : (j : Int) < (n : Int) := by omega
                have hj0 : (0 : Int) ≤ (j : Int) := by omega
                have hI8 : I ≤ 81 := by omega
                have HK := Lib.hid (And.intro hlt (And.intro hI hIl))
                have HLJ := Lib.hid hlj
                have HCJ := Lib.hid hcj
                have HGA := Lib.hid hga
                clear h1 h2 h3 h4 h5 h6 h7 hr hj hja hlj hcj hga hr5 hPk hI hk hlt
                go_wp2_with fail
                refine HRD.out.mono ?_
                rintro e w10 ⟨v3, rfl, ho3, hb3⟩
                obtain ⟨A3, c3, hv3, -, -, -, hl3, -⟩ := ho3.form
                subst hv3
                have HAFA := Lib.hid (HAF.out.below hb3)
                have HBA := Lib.hid (By.ext HBW.out hb3)
                have ce : w10.cell? ⟨ga, o + j, none⟩ = some (.slice Aj r.length cj) := (HBA.out.cell HGA.out).trans HCJ.out
                have t1 := fun q => run_text (w10.drewN q) (n := r.length) c3 rfl (hl3.drewN q)
                have t2 := fun q => run_text (w10.drewN q) (n := r.length) cj rfl ((lext HLJ.out HBA.out).drewN q)
                clear ho3 hb3 hl3 HRD
                go_upto_region 29 with fail
                go_quiet (fail)
                have HAFN := Lib.hid (HAFA.out.below (below_dN (Below.refl _ _) nq))
                go_wp2
                go_roundw
                case rel => exact ⟨k + 1, I + 1, by have := HK.out; omega, by have := HK.out; omega, by go_num, HAFN.out⟩
                case measure => simp [intOf]; have := HK.out; omega
              · have hIn : ¬ ((I : Int) < (ct : Int)) := by omega
                clear h1 h2 h3 h4 h5 h6 h7 hI hk hlt
                go_wp2
                go_ret
                exact ⟨rfl, HBW.out⟩
end Go.Proofs.YtnjifhbooikdbaaGreatDoor.Wa
