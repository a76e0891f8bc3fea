/- Package scupperref03's bytes of an entry, a configuration, a term and vote, a snapshot, a command, a reply, what edges ask and are told, as contracts of calls. Written by gen3o.py. -/
import Derived.Test.YtloieecpgndbhaaGreatMoE
namespace Go.Proofs.YtloieecpgndbhaaGreat.Mo
open Go.RowKit By CoP Co

set_option maxHeartbeats 400000 in
theorem entry_any (B : Nat) (w : World) (ix : Nat) (hix : ix < 18446744073709551616) (tm : Nat) (htm : tm < 18446744073709551616) (kd : Int) (dl : Int) (Ada : Option Addr) (mda cda : Nat) (da : List UInt8) (hda : mda = da.length) (hrda : Lies w B Ada da) (hB : B ≤ w.heap.size) (hs : da.length + 63 ≤ 140737488355328) :
    Calls Tryz.prog 21 #[.agg #[.int .u64 (ix : Nat), .int .u64 (tm : Nat), .int .i64 kd, .int .i64 dl, .slice Ada mda cda]] w (Gives w.heap.size (putEntry ix tm kd dl da) w) := by
  have Hda := Lib.hid hda
  have HRda := Lib.hid hrda
  clear hda hrda
  have HS := Lib.hid hs
  clear hs
  have hb0 : Below w.heap.size w (w.alloc (.cells #[.int .u64 (ix : Nat), .int .u64 (tm : Nat), .int .i64 kd, .int .i64 dl, .slice Ada mda cda] 25)) := (Below.refl _ _).alloc (Nat.le_refl _) _
  have hz := hb0.size
  have hb1 : Below w.heap.size w ((w.alloc (.cells #[.int .u64 (ix : Nat), .int .u64 (tm : Nat), .int .i64 kd, .int .i64 dl, .slice Ada mda cda] 25)).alloc (.cells #[.slice none 0 0] 152)) := hb0.alloc hz _
  have hrow0 : ((w.alloc (.cells #[.int .u64 (ix : Nat), .int .u64 (tm : Nat), .int .i64 kd, .int .i64 dl, .slice Ada mda cda] 25)).alloc (.cells #[.slice none 0 0] 152)).heap[w.heap.size]? = some (.cells #[.int .u64 (ix : Nat), .int .u64 (tm : Nat), .int .i64 kd, .int .i64 dl, .slice Ada mda cda] 25 (0, 0)) := heap_alloc2_old w _ _
  have ho0 : OutAt w.heap.size (w.heap.size + 1) ((w.alloc (.cells #[.int .u64 (ix : Nat), .int .u64 (tm : Nat), .int .i64 kd, .int .i64 dl, .slice Ada mda cda] 25)).alloc (.cells #[.slice none 0 0] 152)) [] := ⟨_, Nat.le_succ _, heap_alloc2_new _ _ _, Own.nil _ _⟩
  have hz0 : w.heap.size ≤ ((w.alloc (.cells #[.int .u64 (ix : Nat), .int .u64 (tm : Nat), .int .i64 kd, .int .i64 dl, .slice Ada mda cda] 25)).alloc (.cells #[.slice none 0 0] 152)).heap.size := hb1.size
  have HROW0 := Lib.hid hrow0
  have HO0 := Lib.hid ho0
  have HB0 := Lib.hid hb1
  clear hrow0 hb0 hb1 ho0 hz
  go_enter Tryz.func21, Tryz.ntmps21
  go_wp2_with fail
  refine (outEntry_any w.heap.size (w.heap.size + 1) B _ ix hix tm htm kd dl Ada mda cda da Hda.out (HRda.out.below (HB0.out.mono hB)) hB [] HO0.out (by omega) (by have := HS.out; (try simp only [List.length_nil]); omega)).mono ?_
  rintro e w1 ⟨rfl, ho1, hb1, ht1⟩
  obtain ⟨acc1, e1⟩ : ∃ x, x = [] ++ putEntry ix tm kd dl da := ⟨_, rfl⟩
  rw [← e1] at ho1
  have hl1 : acc1.length ≤ 0 + (da.length + 45) := by
    rw [e1, List.length_append]
    have := putEntry_len ix tm kd dl da hix htm (by have := HS.out; (try simp only [List.length_nil]); omega)
    simp only [List.length_nil]; omega
  have hrow1 := ht1 _ _ _ _ HROW0.out (by decide) (by decide)
  obtain ⟨v, hg, hrw, hown⟩ := ho1
  have hc : w1.cell? ⟨w.heap.size + 1, 0, none⟩ = some v := by rw [cell_of_row w1 _ 0 _ _ _ hrw]; rfl
  have ho1 := hown
  clear hrw
  have hz1 := hb1.size
  have HROW1 := Lib.hid hrow1
  have HO1 := Lib.hid ho1
  have HB1 := Lib.hid (HB0.out.trans hb1)
  have E1 := Lib.hid e1
  clear hrow1 ho1 ht1 hb1 e1 hown
  go_wp2
  go_ret
  have h := HO1.out
  rw [E1.out] at h
  refine ⟨v, rfl, ?_, HB1.out⟩
  simpa only [List.append_assoc, List.nil_append] using h
set_option maxHeartbeats 400000 in
theorem conf_any (B : Nat) (w : World) (Avs : Option Addr) (mvs cvs : Nat) (vs : List Int) (hvs : mvs = vs.length) (hrvs : LiesI w B Avs vs) (Als : Option Addr) (mls cls : Nat) (ls : List Int) (hls : mls = ls.length) (hrls : LiesI w B Als ls) (hB : B ≤ w.heap.size) (hs : 9 * vs.length + 9 * ls.length + 36 ≤ 140737488355328) :
    Calls Tryz.prog 23 #[.agg #[.slice Avs mvs cvs, .slice Als mls cls]] w (Gives w.heap.size (putConf vs ls) w) := by
  have Hvs := Lib.hid hvs
  have HRvs := Lib.hid hrvs
  clear hvs hrvs
  have Hls := Lib.hid hls
  have HRls := Lib.hid hrls
  clear hls hrls
  have HS := Lib.hid hs
  clear hs
  have hb0 : Below w.heap.size w (w.alloc (.cells #[.slice Avs mvs cvs, .slice Als mls cls] 28)) := (Below.refl _ _).alloc (Nat.le_refl _) _
  have hz := hb0.size
  have hb1 : Below w.heap.size w ((w.alloc (.cells #[.slice Avs mvs cvs, .slice Als mls cls] 28)).alloc (.cells #[.slice none 0 0] 152)) := hb0.alloc hz _
  have hrow0 : ((w.alloc (.cells #[.slice Avs mvs cvs, .slice Als mls cls] 28)).alloc (.cells #[.slice none 0 0] 152)).heap[w.heap.size]? = some (.cells #[.slice Avs mvs cvs, .slice Als mls cls] 28 (0, 0)) := heap_alloc2_old w _ _
  have ho0 : OutAt w.heap.size (w.heap.size + 1) ((w.alloc (.cells #[.slice Avs mvs cvs, .slice Als mls cls] 28)).alloc (.cells #[.slice none 0 0] 152)) [] := ⟨_, Nat.le_succ _, heap_alloc2_new _ _ _, Own.nil _ _⟩
  have hz0 : w.heap.size ≤ ((w.alloc (.cells #[.slice Avs mvs cvs, .slice Als mls cls] 28)).alloc (.cells #[.slice none 0 0] 152)).heap.size := hb1.size
  have HROW0 := Lib.hid hrow0
  have HO0 := Lib.hid ho0
  have HB0 := Lib.hid hb1
  clear hrow0 hb0 hb1 ho0 hz
  go_enter Tryz.func23, Tryz.ntmps23
  go_wp2_with fail
  refine (outConf_any w.heap.size (w.heap.size + 1) B _ Avs mvs cvs vs Hvs.out (HRvs.out.below (HB0.out.mono hB)) Als mls cls ls Hls.out (HRls.out.below (HB0.out.mono hB)) hB [] HO0.out (by omega) (by have := HS.out; (try simp only [List.length_nil]); omega)).mono ?_
  rintro e w1 ⟨rfl, ho1, hb1, ht1⟩
  obtain ⟨acc1, e1⟩ : ∃ x, x = [] ++ putConf vs ls := ⟨_, rfl⟩
  rw [← e1] at ho1
  have hl1 : acc1.length ≤ 0 + (9 * vs.length + 9 * ls.length + 18) := by
    rw [e1, List.length_append]
    have := putConf_len vs ls  (by have := HS.out; (try simp only [List.length_nil]); omega) (by have := HS.out; (try simp only [List.length_nil]); omega)
    simp only [List.length_nil]; omega
  have hrow1 := ht1 _ _ _ _ HROW0.out (by decide) (by decide)
  obtain ⟨v, hg, hrw, hown⟩ := ho1
  have hc : w1.cell? ⟨w.heap.size + 1, 0, none⟩ = some v := by rw [cell_of_row w1 _ 0 _ _ _ hrw]; rfl
  have ho1 := hown
  clear hrw
  have hz1 := hb1.size
  have HROW1 := Lib.hid hrow1
  have HO1 := Lib.hid ho1
  have HB1 := Lib.hid (HB0.out.trans hb1)
  have E1 := Lib.hid e1
  clear hrow1 ho1 ht1 hb1 e1 hown
  go_wp2
  go_ret
  have h := HO1.out
  rw [E1.out] at h
  refine ⟨v, rfl, ?_, HB1.out⟩
  simpa only [List.append_assoc, List.nil_append] using h
/-- Its bytes. -/
def putHard (tm : Nat) (vo : Int) : List UInt8 := putNum tm ++ putNum (u64N vo)
theorem putHard_len (tm : Nat) (vo : Int) (htm : tm < 18446744073709551616)  : (putHard tm vo).length ≤ 18 := by
  unfold putHard
  simp only [List.length_append]
  have := putNum_len tm htm
  have := putNum_len (u64N vo) (u64N_lt vo)
  omega
set_option maxHeartbeats 400000 in
theorem hard_any (B : Nat) (w : World) (tm : Nat) (htm : tm < 18446744073709551616) (vo : Int) (_ : B ≤ w.heap.size) (hs : 36 ≤ 140737488355328) :
    Calls Tryz.prog 27 #[.agg #[.int .u64 (tm : Nat), .int .i64 vo]] w (Gives w.heap.size (putHard tm vo) w) := by
  have HS := Lib.hid hs
  clear hs
  have hb0 : Below w.heap.size w (w.alloc (.cells #[.int .u64 (tm : Nat), .int .i64 vo] 32)) := (Below.refl _ _).alloc (Nat.le_refl _) _
  have hz := hb0.size
  have hb1 : Below w.heap.size w ((w.alloc (.cells #[.int .u64 (tm : Nat), .int .i64 vo] 32)).alloc (.cells #[.slice none 0 0] 152)) := hb0.alloc hz _
  have hrow0 : ((w.alloc (.cells #[.int .u64 (tm : Nat), .int .i64 vo] 32)).alloc (.cells #[.slice none 0 0] 152)).heap[w.heap.size]? = some (.cells #[.int .u64 (tm : Nat), .int .i64 vo] 32 (0, 0)) := heap_alloc2_old w _ _
  have ho0 : OutAt w.heap.size (w.heap.size + 1) ((w.alloc (.cells #[.int .u64 (tm : Nat), .int .i64 vo] 32)).alloc (.cells #[.slice none 0 0] 152)) [] := ⟨_, Nat.le_succ _, heap_alloc2_new _ _ _, Own.nil _ _⟩
  have hz0 : w.heap.size ≤ ((w.alloc (.cells #[.int .u64 (tm : Nat), .int .i64 vo] 32)).alloc (.cells #[.slice none 0 0] 152)).heap.size := hb1.size
  have HROW0 := Lib.hid hrow0
  have HO0 := Lib.hid ho0
  have HB0 := Lib.hid hb1
  clear hrow0 hb0 hb1 ho0 hz
  go_enter Tryz.func27, Tryz.ntmps27
  go_wp2_with fail
  refine (outNum_any w.heap.size (w.heap.size + 1) tm _ rfl htm [] _ HO0.out (by omega) (by have := HS.out; (try simp only [List.length_nil]); omega)).mono ?_
  rintro e w1 ⟨rfl, ho1, hb1, ht1⟩
  obtain ⟨acc1, e1⟩ : ∃ x, x = [] ++ putNum tm := ⟨_, rfl⟩
  rw [← e1] at ho1
  have hl1 : acc1.length ≤ 0 + (9) := by
    rw [e1, List.length_append]
    have := putNum_len tm htm
    simp only [List.length_nil]; omega
  have hrow1 := ht1 _ _ _ _ HROW0.out (by decide) (by decide)
  have hc1x1 : w1.cell? ⟨w.heap.size, 1, none⟩ = some (.int .i64 vo) := by rw [cell_of_row w1 w.heap.size 1 _ _ _ hrow1]; rfl
  have hz1 := hb1.size
  have HROW1 := Lib.hid hrow1
  have HO1 := Lib.hid ho1
  have HB1 := Lib.hid (HB0.out.trans hb1)
  have E1 := Lib.hid e1
  clear hrow1 ho1 ht1 hb1 e1
  go_wp2_with fail
  refine (outNum_any w.heap.size (w.heap.size + 1) (u64N vo) _ (by rw [u64N_eq]; rfl) (u64N_lt vo) acc1 _ HO1.out (by omega) (by have := HS.out; (try simp only [List.length_nil]); omega)).mono ?_
  rintro e w2 ⟨rfl, ho2, hb2, ht2⟩
  obtain ⟨acc2, e2⟩ : ∃ x, x = acc1 ++ putNum (u64N vo) := ⟨_, rfl⟩
  rw [← e2] at ho2
  have hl2 : acc2.length ≤ acc1.length + (9) := by
    rw [e2, List.length_append]
    have := putNum_len (u64N vo) (u64N_lt vo)
    omega
  have hrow2 := ht2 _ _ _ _ HROW1.out (by decide) (by decide)
  obtain ⟨v, hg, hrw, hown⟩ := ho2
  have hc : w2.cell? ⟨w.heap.size + 1, 0, none⟩ = some v := by rw [cell_of_row w2 _ 0 _ _ _ hrw]; rfl
  have ho2 := hown
  clear hrw
  have hz2 := hb2.size
  have HROW2 := Lib.hid hrow2
  have HO2 := Lib.hid ho2
  have HB2 := Lib.hid (HB1.out.trans hb2)
  have E2 := Lib.hid e2
  clear hrow2 ho2 ht2 hb2 e2 hown
  go_wp2
  go_ret
  have h := HO2.out
  rw [E2.out, E1.out] at h
  refine ⟨v, rfl, ?_, HB2.out⟩
  unfold putHard
  simpa only [List.append_assoc, List.nil_append] using h
/-- Its bytes. -/
def putShot (ix : Nat) (tm : Nat) (vs : List Int) (ls : List Int) (da : List UInt8) : List UInt8 := putNum ix ++ putNum tm ++ (putConf vs ls) ++ putBytes da
theorem putShot_len (ix : Nat) (tm : Nat) (vs : List Int) (ls : List Int) (da : List UInt8) (hix : ix < 18446744073709551616) (htm : tm < 18446744073709551616) (hvs : vs.length ≤ 140737488355328) (hls : ls.length ≤ 140737488355328) (hda : da.length ≤ 140737488355328) : (putShot ix tm vs ls da).length ≤ 9 * vs.length + 9 * ls.length + da.length + 45 := by
  unfold putShot putConf
  simp only [List.length_append]
  have := putNum_len ix hix
  have := putNum_len tm htm
  have := putIds_len vs hvs
  have := putIds_len ls hls
  have := putBytes_length da hda
  omega
set_option maxHeartbeats 400000 in
theorem shot_any (B : Nat) (w : World) (ix : Nat) (hix : ix < 18446744073709551616) (tm : Nat) (htm : tm < 18446744073709551616) (Avs : Option Addr) (mvs cvs : Nat) (vs : List Int) (hvs : mvs = vs.length) (hrvs : LiesI w B Avs vs) (Als : Option Addr) (mls cls : Nat) (ls : List Int) (hls : mls = ls.length) (hrls : LiesI w B Als ls) (Ada : Option Addr) (mda cda : Nat) (da : List UInt8) (hda : mda = da.length) (hrda : Lies w B Ada da) (hB : B ≤ w.heap.size) (hs : 9 * vs.length + 9 * ls.length + da.length + 63 ≤ 140737488355328) :
    Calls Tryz.prog 25 #[.agg #[.int .u64 (ix : Nat), .int .u64 (tm : Nat), .slice Avs mvs cvs, .slice Als mls cls, .slice Ada mda cda]] w (Gives w.heap.size (putShot ix tm vs ls da) w) := by
  have Hvs := Lib.hid hvs
  have HRvs := Lib.hid hrvs
  clear hvs hrvs
  have Hls := Lib.hid hls
  have HRls := Lib.hid hrls
  clear hls hrls
  have Hda := Lib.hid hda
  have HRda := Lib.hid hrda
  clear hda hrda
  have HS := Lib.hid hs
  clear hs
  have hb0 : Below w.heap.size w (w.alloc (.cells #[.int .u64 (ix : Nat), .int .u64 (tm : Nat), .slice Avs mvs cvs, .slice Als mls cls, .slice Ada mda cda] 30)) := (Below.refl _ _).alloc (Nat.le_refl _) _
  have hz := hb0.size
  have hb1 : Below w.heap.size w ((w.alloc (.cells #[.int .u64 (ix : Nat), .int .u64 (tm : Nat), .slice Avs mvs cvs, .slice Als mls cls, .slice Ada mda cda] 30)).alloc (.cells #[.slice none 0 0] 152)) := hb0.alloc hz _
  have hrow0 : ((w.alloc (.cells #[.int .u64 (ix : Nat), .int .u64 (tm : Nat), .slice Avs mvs cvs, .slice Als mls cls, .slice Ada mda cda] 30)).alloc (.cells #[.slice none 0 0] 152)).heap[w.heap.size]? = some (.cells #[.int .u64 (ix : Nat), .int .u64 (tm : Nat), .slice Avs mvs cvs, .slice Als mls cls, .slice Ada mda cda] 30 (0, 0)) := heap_alloc2_old w _ _
  have ho0 : OutAt w.heap.size (w.heap.size + 1) ((w.alloc (.cells #[.int .u64 (ix : Nat), .int .u64 (tm : Nat), .slice Avs mvs cvs, .slice Als mls cls, .slice Ada mda cda] 30)).alloc (.cells #[.slice none 0 0] 152)) [] := ⟨_, Nat.le_succ _, heap_alloc2_new _ _ _, Own.nil _ _⟩
  have hz0 : w.heap.size ≤ ((w.alloc (.cells #[.int .u64 (ix : Nat), .int .u64 (tm : Nat), .slice Avs mvs cvs, .slice Als mls cls, .slice Ada mda cda] 30)).alloc (.cells #[.slice none 0 0] 152)).heap.size := hb1.size
  have HROW0 := Lib.hid hrow0
  have HO0 := Lib.hid ho0
  have HB0 := Lib.hid hb1
  clear hrow0 hb0 hb1 ho0 hz
  go_enter Tryz.func25, Tryz.ntmps25
  go_wp2_with fail
  refine (outNum_any w.heap.size (w.heap.size + 1) ix _ rfl hix [] _ HO0.out (by omega) (by have := HS.out; (try simp only [List.length_nil]); omega)).mono ?_
  rintro e w1 ⟨rfl, ho1, hb1, ht1⟩
  obtain ⟨acc1, e1⟩ : ∃ x, x = [] ++ putNum ix := ⟨_, rfl⟩
  rw [← e1] at ho1
  have hl1 : acc1.length ≤ 0 + (9) := by
    rw [e1, List.length_append]
    have := putNum_len ix hix
    simp only [List.length_nil]; omega
  have hrow1 := ht1 _ _ _ _ HROW0.out (by decide) (by decide)
  have hc1x1 : w1.cell? ⟨w.heap.size, 1, none⟩ = some (.int .u64 (tm : Nat)) := by rw [cell_of_row w1 w.heap.size 1 _ _ _ hrow1]; rfl
  have hz1 := hb1.size
  have HROW1 := Lib.hid hrow1
  have HO1 := Lib.hid ho1
  have HB1 := Lib.hid (HB0.out.trans hb1)
  have E1 := Lib.hid e1
  clear hrow1 ho1 ht1 hb1 e1
  go_wp2_with fail
  refine (outNum_any w.heap.size (w.heap.size + 1) tm _ rfl htm acc1 _ HO1.out (by omega) (by have := HS.out; (try simp only [List.length_nil]); omega)).mono ?_
  rintro e w2 ⟨rfl, ho2, hb2, ht2⟩
  obtain ⟨acc2, e2⟩ : ∃ x, x = acc1 ++ putNum tm := ⟨_, rfl⟩
  rw [← e2] at ho2
  have hl2 : acc2.length ≤ acc1.length + (9) := by
    rw [e2, List.length_append]
    have := putNum_len tm htm
    omega
  have hrow2 := ht2 _ _ _ _ HROW1.out (by decide) (by decide)
  have hc2x2 : w2.cell? ⟨w.heap.size, 2, none⟩ = some (.slice Avs mvs cvs) := by rw [cell_of_row w2 w.heap.size 2 _ _ _ hrow2]; rfl
  have hc2x3 : w2.cell? ⟨w.heap.size, 3, none⟩ = some (.slice Als mls cls) := by rw [cell_of_row w2 w.heap.size 3 _ _ _ hrow2]; rfl
  have hz2 := hb2.size
  have HROW2 := Lib.hid hrow2
  have HO2 := Lib.hid ho2
  have HB2 := Lib.hid (HB1.out.trans hb2)
  have E2 := Lib.hid e2
  clear hrow2 ho2 ht2 hb2 e2
  go_wp2_with fail
  refine (outConf_any w.heap.size (w.heap.size + 1) B _ Avs mvs cvs vs Hvs.out (HRvs.out.below (HB2.out.mono hB)) Als mls cls ls Hls.out (HRls.out.below (HB2.out.mono hB)) hB acc2 HO2.out (by omega) (by have := HS.out; (try simp only [List.length_nil]); omega)).mono ?_
  rintro e w3 ⟨rfl, ho3, hb3, ht3⟩
  obtain ⟨acc3, e3⟩ : ∃ x, x = acc2 ++ putConf vs ls := ⟨_, rfl⟩
  rw [← e3] at ho3
  have hl3 : acc3.length ≤ acc2.length + (9 * vs.length + 9 * ls.length + 18) := by
    rw [e3, List.length_append]
    have := putConf_len vs ls  (by have := HS.out; (try simp only [List.length_nil]); omega) (by have := HS.out; (try simp only [List.length_nil]); omega)
    omega
  have hrow3 := ht3 _ _ _ _ HROW2.out (by decide) (by decide)
  have hc3x4 : w3.cell? ⟨w.heap.size, 4, none⟩ = some (.slice Ada mda cda) := by rw [cell_of_row w3 w.heap.size 4 _ _ _ hrow3]; rfl
  have hz3 := hb3.size
  have HROW3 := Lib.hid hrow3
  have HO3 := Lib.hid ho3
  have HB3 := Lib.hid (HB2.out.trans hb3)
  have E3 := Lib.hid e3
  clear hrow3 ho3 ht3 hb3 e3
  go_wp2_with fail
  refine (outData_any w.heap.size (w.heap.size + 1) Ada mda cda B da Hda.out acc3 _ (HRda.out.below (HB3.out.mono hB)) (by omega) HO3.out (by omega) (by have := HS.out; (try simp only [List.length_nil]); omega)).mono ?_
  rintro e w4 ⟨rfl, ho4, hb4, ht4⟩
  obtain ⟨acc4, e4⟩ : ∃ x, x = acc3 ++ putBytes da := ⟨_, rfl⟩
  rw [← e4] at ho4
  have hl4 : acc4.length ≤ acc3.length + (da.length + 9) := by
    rw [e4, List.length_append]
    have := putBytes_length da (by have := HS.out; (try simp only [List.length_nil]); omega)
    omega
  have hrow4 := ht4 _ _ _ _ HROW3.out (by decide) (by decide)
  obtain ⟨v, hg, hrw, hown⟩ := ho4
  have hc : w4.cell? ⟨w.heap.size + 1, 0, none⟩ = some v := by rw [cell_of_row w4 _ 0 _ _ _ hrw]; rfl
  have ho4 := hown
  clear hrw
  have hz4 := hb4.size
  have HROW4 := Lib.hid hrow4
  have HO4 := Lib.hid ho4
  have HB4 := Lib.hid (HB3.out.trans hb4)
  have E4 := Lib.hid e4
  clear hrow4 ho4 ht4 hb4 e4 hown
  go_wp2
  go_ret
  have h := HO4.out
  rw [E4.out, E3.out, E2.out, E1.out] at h
  refine ⟨v, rfl, ?_, HB4.out⟩
  unfold putShot
  simpa only [List.append_assoc, List.nil_append] using h
set_option maxHeartbeats 400000 in
theorem command_any (B : Nat) (w : World) (se : Nat) (hse : se < 18446744073709551616) (sq : Nat) (hsq : sq < 18446744073709551616) (op : Int) (ke : List UInt8) (am : Int) (sp : Int) (le : Nat) (hle : le < 18446744073709551616) (_ : B ≤ w.heap.size) (hs : ke.length + 81 ≤ 140737488355328) :
    Calls Tryz.prog 37 #[.agg #[.int .u64 (se : Nat), .int .u64 (sq : Nat), .int .i64 op, .string (str ke), .int .i64 am, .int .i64 sp, .int .u64 (le : Nat)]] w (Gives w.heap.size (putCommand se sq op ke am sp le) w) := by
  have hconvke := fun (w : World) => conv_any w ke
  have HS := Lib.hid hs
  clear hs
  have hb0 : Below w.heap.size w (w.alloc (.cells #[.int .u64 (se : Nat), .int .u64 (sq : Nat), .int .i64 op, .string (str ke), .int .i64 am, .int .i64 sp, .int .u64 (le : Nat)] 61)) := (Below.refl _ _).alloc (Nat.le_refl _) _
  have hz := hb0.size
  have hb1 : Below w.heap.size w ((w.alloc (.cells #[.int .u64 (se : Nat), .int .u64 (sq : Nat), .int .i64 op, .string (str ke), .int .i64 am, .int .i64 sp, .int .u64 (le : Nat)] 61)).alloc (.cells #[.slice none 0 0] 152)) := hb0.alloc hz _
  have hrow0 : ((w.alloc (.cells #[.int .u64 (se : Nat), .int .u64 (sq : Nat), .int .i64 op, .string (str ke), .int .i64 am, .int .i64 sp, .int .u64 (le : Nat)] 61)).alloc (.cells #[.slice none 0 0] 152)).heap[w.heap.size]? = some (.cells #[.int .u64 (se : Nat), .int .u64 (sq : Nat), .int .i64 op, .string (str ke), .int .i64 am, .int .i64 sp, .int .u64 (le : Nat)] 61 (0, 0)) := heap_alloc2_old w _ _
  have ho0 : OutAt w.heap.size (w.heap.size + 1) ((w.alloc (.cells #[.int .u64 (se : Nat), .int .u64 (sq : Nat), .int .i64 op, .string (str ke), .int .i64 am, .int .i64 sp, .int .u64 (le : Nat)] 61)).alloc (.cells #[.slice none 0 0] 152)) [] := ⟨_, Nat.le_succ _, heap_alloc2_new _ _ _, Own.nil _ _⟩
  have hz0 : w.heap.size ≤ ((w.alloc (.cells #[.int .u64 (se : Nat), .int .u64 (sq : Nat), .int .i64 op, .string (str ke), .int .i64 am, .int .i64 sp, .int .u64 (le : Nat)] 61)).alloc (.cells #[.slice none 0 0] 152)).heap.size := hb1.size
  have HROW0 := Lib.hid hrow0
  have HO0 := Lib.hid ho0
  have HB0 := Lib.hid hb1
  clear hrow0 hb0 hb1 ho0 hz
  go_enter Tryz.func37, Tryz.ntmps37
  go_wp2_with fail
  refine (outCommand_any w.heap.size (w.heap.size + 1) 0 _ se hse sq hsq op ke am sp le hle (Nat.zero_le _) [] HO0.out (by omega) (by have := HS.out; (try simp only [List.length_nil]); omega)).mono ?_
  rintro e w1 ⟨rfl, ho1, hb1, ht1⟩
  obtain ⟨acc1, e1⟩ : ∃ x, x = [] ++ putCommand se sq op ke am sp le := ⟨_, rfl⟩
  rw [← e1] at ho1
  have hl1 : acc1.length ≤ 0 + (ke.length + 63) := by
    rw [e1, List.length_append]
    have := putCommand_len se sq op ke am sp le hse hsq hle (by have := HS.out; (try simp only [List.length_nil]); omega)
    simp only [List.length_nil]; omega
  have hrow1 := ht1 _ _ _ _ HROW0.out (by decide) (by decide)
  obtain ⟨v, hg, hrw, hown⟩ := ho1
  have hc : w1.cell? ⟨w.heap.size + 1, 0, none⟩ = some v := by rw [cell_of_row w1 _ 0 _ _ _ hrw]; rfl
  have ho1 := hown
  clear hrw
  have hz1 := hb1.size
  have HROW1 := Lib.hid hrow1
  have HO1 := Lib.hid ho1
  have HB1 := Lib.hid (HB0.out.trans hb1)
  have E1 := Lib.hid e1
  clear hrow1 ho1 ht1 hb1 e1 hown
  go_wp2
  go_ret
  have h := HO1.out
  rw [E1.out] at h
  refine ⟨v, rfl, ?_, HB1.out⟩
  simpa only [List.append_assoc, List.nil_append] using h
set_option maxHeartbeats 400000 in
theorem reply_any (B : Nat) (w : World) (se : Nat) (hse : se < 18446744073709551616) (sq : Nat) (hsq : sq < 18446744073709551616) (er : Int) (lz : Nat) (hlz : lz < 18446744073709551616) (am : Int) (un : Int) (_ : B ≤ w.heap.size) (hs : 72 ≤ 140737488355328) :
    Calls Tryz.prog 39 #[.agg #[.int .u64 (se : Nat), .int .u64 (sq : Nat), .int .i64 er, .int .u64 (lz : Nat), .int .i64 am, .int .i64 un]] w (Gives w.heap.size (putReply se sq er lz am un) w) := by
  have HS := Lib.hid hs
  clear hs
  have hb0 : Below w.heap.size w (w.alloc (.cells #[.int .u64 (se : Nat), .int .u64 (sq : Nat), .int .i64 er, .int .u64 (lz : Nat), .int .i64 am, .int .i64 un] 63)) := (Below.refl _ _).alloc (Nat.le_refl _) _
  have hz := hb0.size
  have hb1 : Below w.heap.size w ((w.alloc (.cells #[.int .u64 (se : Nat), .int .u64 (sq : Nat), .int .i64 er, .int .u64 (lz : Nat), .int .i64 am, .int .i64 un] 63)).alloc (.cells #[.slice none 0 0] 152)) := hb0.alloc hz _
  have hrow0 : ((w.alloc (.cells #[.int .u64 (se : Nat), .int .u64 (sq : Nat), .int .i64 er, .int .u64 (lz : Nat), .int .i64 am, .int .i64 un] 63)).alloc (.cells #[.slice none 0 0] 152)).heap[w.heap.size]? = some (.cells #[.int .u64 (se : Nat), .int .u64 (sq : Nat), .int .i64 er, .int .u64 (lz : Nat), .int .i64 am, .int .i64 un] 63 (0, 0)) := heap_alloc2_old w _ _
  have ho0 : OutAt w.heap.size (w.heap.size + 1) ((w.alloc (.cells #[.int .u64 (se : Nat), .int .u64 (sq : Nat), .int .i64 er, .int .u64 (lz : Nat), .int .i64 am, .int .i64 un] 63)).alloc (.cells #[.slice none 0 0] 152)) [] := ⟨_, Nat.le_succ _, heap_alloc2_new _ _ _, Own.nil _ _⟩
  have hz0 : w.heap.size ≤ ((w.alloc (.cells #[.int .u64 (se : Nat), .int .u64 (sq : Nat), .int .i64 er, .int .u64 (lz : Nat), .int .i64 am, .int .i64 un] 63)).alloc (.cells #[.slice none 0 0] 152)).heap.size := hb1.size
  have HROW0 := Lib.hid hrow0
  have HO0 := Lib.hid ho0
  have HB0 := Lib.hid hb1
  clear hrow0 hb0 hb1 ho0 hz
  go_enter Tryz.func39, Tryz.ntmps39
  go_wp2_with fail
  refine (outReply_any w.heap.size (w.heap.size + 1) 0 _ se hse sq hsq er lz hlz am un (Nat.zero_le _) [] HO0.out (by omega) (by have := HS.out; (try simp only [List.length_nil]); omega)).mono ?_
  rintro e w1 ⟨rfl, ho1, hb1, ht1⟩
  obtain ⟨acc1, e1⟩ : ∃ x, x = [] ++ putReply se sq er lz am un := ⟨_, rfl⟩
  rw [← e1] at ho1
  have hl1 : acc1.length ≤ 0 + (54) := by
    rw [e1, List.length_append]
    have := putReply_len se sq er lz am un hse hsq hlz 
    simp only [List.length_nil]; omega
  have hrow1 := ht1 _ _ _ _ HROW0.out (by decide) (by decide)
  obtain ⟨v, hg, hrw, hown⟩ := ho1
  have hc : w1.cell? ⟨w.heap.size + 1, 0, none⟩ = some v := by rw [cell_of_row w1 _ 0 _ _ _ hrw]; rfl
  have ho1 := hown
  clear hrw
  have hz1 := hb1.size
  have HROW1 := Lib.hid hrow1
  have HO1 := Lib.hid ho1
  have HB1 := Lib.hid (HB0.out.trans hb1)
  have E1 := Lib.hid e1
  clear hrow1 ho1 ht1 hb1 e1 hown
  go_wp2
  go_ret
  have h := HO1.out
  rw [E1.out] at h
  refine ⟨v, rfl, ?_, HB1.out⟩
  simpa only [List.append_assoc, List.nil_append] using h
/-- Its bytes. -/
def putAsk (lk : Bool) (ly : Bool) (aq : Nat) (se : Nat) (sq : Nat) (op : Int) (ke : List UInt8) (am : Int) (sp : Int) (le : Nat) (ak : List UInt8) : List UInt8 := putNum (flagN lk) ++ putNum (flagN ly) ++ putNum aq ++ (putCommand se sq op ke am sp le) ++ putBytes ak
theorem putAsk_len (lk : Bool) (ly : Bool) (aq : Nat) (se : Nat) (sq : Nat) (op : Int) (ke : List UInt8) (am : Int) (sp : Int) (le : Nat) (ak : List UInt8) (haq : aq < 18446744073709551616) (hse : se < 18446744073709551616) (hsq : sq < 18446744073709551616) (hle : le < 18446744073709551616) (hke : ke.length ≤ 140737488355328) (hak : ak.length ≤ 140737488355328) : (putAsk lk ly aq se sq op ke am sp le ak).length ≤ ke.length + ak.length + 99 := by
  unfold putAsk putCommand
  simp only [List.length_append]
  have := putNum_len (flagN lk) (by cases lk <;> decide)
  have := putNum_len (flagN ly) (by cases ly <;> decide)
  have := putNum_len aq haq
  have := putNum_len se hse
  have := putNum_len sq hsq
  have := putNum_len (u64N op) (u64N_lt op)
  have := putBytes_length ke hke
  have := putNum_len (u64N am) (u64N_lt am)
  have := putNum_len (u64N sp) (u64N_lt sp)
  have := putNum_len le hle
  have := putBytes_length ak hak
  omega
set_option maxHeartbeats 400000 in
theorem ask_any (B : Nat) (w : World) (lk : Bool) (ly : Bool) (aq : Nat) (haq : aq < 18446744073709551616) (se : Nat) (hse : se < 18446744073709551616) (sq : Nat) (hsq : sq < 18446744073709551616) (op : Int) (ke : List UInt8) (am : Int) (sp : Int) (le : Nat) (hle : le < 18446744073709551616) (ak : List UInt8) (_ : B ≤ w.heap.size) (hs : ke.length + ak.length + 117 ≤ 140737488355328) :
    Calls Tryz.prog 41 #[.agg #[.bool lk, .bool ly, .int .u64 (aq : Nat), .int .u64 (se : Nat), .int .u64 (sq : Nat), .int .i64 op, .string (str ke), .int .i64 am, .int .i64 sp, .int .u64 (le : Nat), .string (str ak)]] w (Gives w.heap.size (putAsk lk ly aq se sq op ke am sp le ak) w) := by
  have hconvke := fun (w : World) => conv_any w ke
  have hconvak := fun (w : World) => conv_any w ak
  have HS := Lib.hid hs
  clear hs
  have hb0 : Below w.heap.size w (w.alloc (.cells #[.bool lk, .bool ly, .int .u64 (aq : Nat), .int .u64 (se : Nat), .int .u64 (sq : Nat), .int .i64 op, .string (str ke), .int .i64 am, .int .i64 sp, .int .u64 (le : Nat), .string (str ak)] 65)) := (Below.refl _ _).alloc (Nat.le_refl _) _
  have hz := hb0.size
  have hb1 : Below w.heap.size w ((w.alloc (.cells #[.bool lk, .bool ly, .int .u64 (aq : Nat), .int .u64 (se : Nat), .int .u64 (sq : Nat), .int .i64 op, .string (str ke), .int .i64 am, .int .i64 sp, .int .u64 (le : Nat), .string (str ak)] 65)).alloc (.cells #[.slice none 0 0] 152)) := hb0.alloc hz _
  have hrow0 : ((w.alloc (.cells #[.bool lk, .bool ly, .int .u64 (aq : Nat), .int .u64 (se : Nat), .int .u64 (sq : Nat), .int .i64 op, .string (str ke), .int .i64 am, .int .i64 sp, .int .u64 (le : Nat), .string (str ak)] 65)).alloc (.cells #[.slice none 0 0] 152)).heap[w.heap.size]? = some (.cells #[.bool lk, .bool ly, .int .u64 (aq : Nat), .int .u64 (se : Nat), .int .u64 (sq : Nat), .int .i64 op, .string (str ke), .int .i64 am, .int .i64 sp, .int .u64 (le : Nat), .string (str ak)] 65 (0, 0)) := heap_alloc2_old w _ _
  have ho0 : OutAt w.heap.size (w.heap.size + 1) ((w.alloc (.cells #[.bool lk, .bool ly, .int .u64 (aq : Nat), .int .u64 (se : Nat), .int .u64 (sq : Nat), .int .i64 op, .string (str ke), .int .i64 am, .int .i64 sp, .int .u64 (le : Nat), .string (str ak)] 65)).alloc (.cells #[.slice none 0 0] 152)) [] := ⟨_, Nat.le_succ _, heap_alloc2_new _ _ _, Own.nil _ _⟩
  have hz0 : w.heap.size ≤ ((w.alloc (.cells #[.bool lk, .bool ly, .int .u64 (aq : Nat), .int .u64 (se : Nat), .int .u64 (sq : Nat), .int .i64 op, .string (str ke), .int .i64 am, .int .i64 sp, .int .u64 (le : Nat), .string (str ak)] 65)).alloc (.cells #[.slice none 0 0] 152)).heap.size := hb1.size
  have HROW0 := Lib.hid hrow0
  have HO0 := Lib.hid ho0
  have HB0 := Lib.hid hb1
  clear hrow0 hb0 hb1 ho0 hz
  go_enter Tryz.func41, Tryz.ntmps41
  go_wp2_with fail
  refine (outFlag_any w.heap.size (w.heap.size + 1) lk [] _ HO0.out (by omega) (by have := HS.out; (try simp only [List.length_nil]); omega)).mono ?_
  rintro e w1 ⟨rfl, ho1, hb1, ht1⟩
  obtain ⟨acc1, e1⟩ : ∃ x, x = [] ++ putNum (flagN lk) := ⟨_, rfl⟩
  rw [← e1] at ho1
  have hl1 : acc1.length ≤ 0 + (9) := by
    rw [e1, List.length_append]
    have := putNum_len (flagN lk) (by cases lk <;> decide)
    simp only [List.length_nil]; omega
  have hrow1 := ht1 _ _ _ _ HROW0.out (by decide) (by decide)
  have hc1x1 : w1.cell? ⟨w.heap.size, 1, none⟩ = some (.bool ly) := by rw [cell_of_row w1 w.heap.size 1 _ _ _ hrow1]; rfl
  have hz1 := hb1.size
  have HROW1 := Lib.hid hrow1
  have HO1 := Lib.hid ho1
  have HB1 := Lib.hid (HB0.out.trans hb1)
  have E1 := Lib.hid e1
  clear hrow1 ho1 ht1 hb1 e1
  go_wp2_with fail
  refine (outFlag_any w.heap.size (w.heap.size + 1) ly acc1 _ HO1.out (by omega) (by have := HS.out; (try simp only [List.length_nil]); omega)).mono ?_
  rintro e w2 ⟨rfl, ho2, hb2, ht2⟩
  obtain ⟨acc2, e2⟩ : ∃ x, x = acc1 ++ putNum (flagN ly) := ⟨_, rfl⟩
  rw [← e2] at ho2
  have hl2 : acc2.length ≤ acc1.length + (9) := by
    rw [e2, List.length_append]
    have := putNum_len (flagN ly) (by cases ly <;> decide)
    omega
  have hrow2 := ht2 _ _ _ _ HROW1.out (by decide) (by decide)
  have hc2x2 : w2.cell? ⟨w.heap.size, 2, none⟩ = some (.int .u64 (aq : Nat)) := by rw [cell_of_row w2 w.heap.size 2 _ _ _ hrow2]; rfl
  have hz2 := hb2.size
  have HROW2 := Lib.hid hrow2
  have HO2 := Lib.hid ho2
  have HB2 := Lib.hid (HB1.out.trans hb2)
  have E2 := Lib.hid e2
  clear hrow2 ho2 ht2 hb2 e2
  go_wp2_with fail
  refine (outNum_any w.heap.size (w.heap.size + 1) aq _ rfl haq acc2 _ HO2.out (by omega) (by have := HS.out; (try simp only [List.length_nil]); omega)).mono ?_
  rintro e w3 ⟨rfl, ho3, hb3, ht3⟩
  obtain ⟨acc3, e3⟩ : ∃ x, x = acc2 ++ putNum aq := ⟨_, rfl⟩
  rw [← e3] at ho3
  have hl3 : acc3.length ≤ acc2.length + (9) := by
    rw [e3, List.length_append]
    have := putNum_len aq haq
    omega
  have hrow3 := ht3 _ _ _ _ HROW2.out (by decide) (by decide)
  have hc3x3 : w3.cell? ⟨w.heap.size, 3, none⟩ = some (.int .u64 (se : Nat)) := by rw [cell_of_row w3 w.heap.size 3 _ _ _ hrow3]; rfl
  have hc3x4 : w3.cell? ⟨w.heap.size, 4, none⟩ = some (.int .u64 (sq : Nat)) := by rw [cell_of_row w3 w.heap.size 4 _ _ _ hrow3]; rfl
  have hc3x5 : w3.cell? ⟨w.heap.size, 5, none⟩ = some (.int .i64 op) := by rw [cell_of_row w3 w.heap.size 5 _ _ _ hrow3]; rfl
  have hc3x6 : w3.cell? ⟨w.heap.size, 6, none⟩ = some (.string (str ke)) := by rw [cell_of_row w3 w.heap.size 6 _ _ _ hrow3]; rfl
  have hc3x7 : w3.cell? ⟨w.heap.size, 7, none⟩ = some (.int .i64 am) := by rw [cell_of_row w3 w.heap.size 7 _ _ _ hrow3]; rfl
  have hc3x8 : w3.cell? ⟨w.heap.size, 8, none⟩ = some (.int .i64 sp) := by rw [cell_of_row w3 w.heap.size 8 _ _ _ hrow3]; rfl
  have hc3x9 : w3.cell? ⟨w.heap.size, 9, none⟩ = some (.int .u64 (le : Nat)) := by rw [cell_of_row w3 w.heap.size 9 _ _ _ hrow3]; rfl
  have hz3 := hb3.size
  have HROW3 := Lib.hid hrow3
  have HO3 := Lib.hid ho3
  have HB3 := Lib.hid (HB2.out.trans hb3)
  have E3 := Lib.hid e3
  clear hrow3 ho3 ht3 hb3 e3
  go_wp2_with fail
  refine (outCommand_any w.heap.size (w.heap.size + 1) 0 _ se hse sq hsq op ke am sp le hle (Nat.zero_le _) acc3 HO3.out (by omega) (by have := HS.out; (try simp only [List.length_nil]); omega)).mono ?_
  rintro e w4 ⟨rfl, ho4, hb4, ht4⟩
  obtain ⟨acc4, e4⟩ : ∃ x, x = acc3 ++ putCommand se sq op ke am sp le := ⟨_, rfl⟩
  rw [← e4] at ho4
  have hl4 : acc4.length ≤ acc3.length + (ke.length + 63) := by
    rw [e4, List.length_append]
    have := putCommand_len se sq op ke am sp le hse hsq hle (by have := HS.out; (try simp only [List.length_nil]); omega)
    omega
  have hrow4 := ht4 _ _ _ _ HROW3.out (by decide) (by decide)
  have hc4x10 : w4.cell? ⟨w.heap.size, 10, none⟩ = some (.string (str ak)) := by rw [cell_of_row w4 w.heap.size 10 _ _ _ hrow4]; rfl
  have hz4 := hb4.size
  have HROW4 := Lib.hid hrow4
  have HO4 := Lib.hid ho4
  have HB4 := Lib.hid (HB3.out.trans hb4)
  have E4 := Lib.hid e4
  clear hrow4 ho4 ht4 hb4 e4
  go_wp2_with fail
  refine (outText_any w.heap.size (w.heap.size + 1) ak acc4 _ HO4.out (by omega) (by have := HS.out; (try simp only [List.length_nil]); omega) _ _ (str_size ak)).mono ?_
  rintro e w5 ⟨rfl, ho5, hb5, ht5⟩
  obtain ⟨acc5, e5⟩ : ∃ x, x = acc4 ++ putBytes ak := ⟨_, rfl⟩
  rw [← e5] at ho5
  have hl5 : acc5.length ≤ acc4.length + (ak.length + 9) := by
    rw [e5, List.length_append]
    have := putBytes_length ak (by have := HS.out; (try simp only [List.length_nil]); omega)
    omega
  have hrow5 := ht5 _ _ _ _ HROW4.out (by decide) (by decide)
  obtain ⟨v, hg, hrw, hown⟩ := ho5
  have hc : w5.cell? ⟨w.heap.size + 1, 0, none⟩ = some v := by rw [cell_of_row w5 _ 0 _ _ _ hrw]; rfl
  have ho5 := hown
  clear hrw
  have hz5 := hb5.size
  have HROW5 := Lib.hid hrow5
  have HO5 := Lib.hid ho5
  have HB5 := Lib.hid (HB4.out.trans hb5)
  have E5 := Lib.hid e5
  clear hrow5 ho5 ht5 hb5 e5 hown
  go_wp2
  go_ret
  have h := HO5.out
  rw [E5.out, E4.out, E3.out, E2.out, E1.out] at h
  refine ⟨v, rfl, ?_, HB5.out⟩
  unfold putAsk
  simpa only [List.append_assoc, List.nil_append] using h
/-- Its bytes. -/
def putTold (tq : Nat) (rt : Bool) (ld : Int) (se : Nat) (sq : Nat) (er : Int) (lz : Nat) (am : Int) (un : Int) (cp : Int) (ln : Int) : List UInt8 := putNum tq ++ putNum (flagN rt) ++ putNum (u64N ld) ++ (putReply se sq er lz am un) ++ putNum (u64N cp) ++ putNum (u64N ln)
theorem putTold_len (tq : Nat) (rt : Bool) (ld : Int) (se : Nat) (sq : Nat) (er : Int) (lz : Nat) (am : Int) (un : Int) (cp : Int) (ln : Int) (htq : tq < 18446744073709551616) (hse : se < 18446744073709551616) (hsq : sq < 18446744073709551616) (hlz : lz < 18446744073709551616)  : (putTold tq rt ld se sq er lz am un cp ln).length ≤ 99 := by
  unfold putTold putReply
  simp only [List.length_append]
  have := putNum_len tq htq
  have := putNum_len (flagN rt) (by cases rt <;> decide)
  have := putNum_len (u64N ld) (u64N_lt ld)
  have := putNum_len se hse
  have := putNum_len sq hsq
  have := putNum_len (u64N er) (u64N_lt er)
  have := putNum_len lz hlz
  have := putNum_len (u64N am) (u64N_lt am)
  have := putNum_len (u64N un) (u64N_lt un)
  have := putNum_len (u64N cp) (u64N_lt cp)
  have := putNum_len (u64N ln) (u64N_lt ln)
  omega
set_option maxHeartbeats 400000 in
theorem told_any (B : Nat) (w : World) (tq : Nat) (htq : tq < 18446744073709551616) (rt : Bool) (ld : Int) (se : Nat) (hse : se < 18446744073709551616) (sq : Nat) (hsq : sq < 18446744073709551616) (er : Int) (lz : Nat) (hlz : lz < 18446744073709551616) (am : Int) (un : Int) (cp : Int) (ln : Int) (_ : B ≤ w.heap.size) (hs : 117 ≤ 140737488355328) :
    Calls Tryz.prog 43 #[.agg #[.int .u64 (tq : Nat), .bool rt, .int .i64 ld, .int .u64 (se : Nat), .int .u64 (sq : Nat), .int .i64 er, .int .u64 (lz : Nat), .int .i64 am, .int .i64 un, .int .i64 cp, .int .i64 ln]] w (Gives w.heap.size (putTold tq rt ld se sq er lz am un cp ln) w) := by
  have HS := Lib.hid hs
  clear hs
  have hb0 : Below w.heap.size w (w.alloc (.cells #[.int .u64 (tq : Nat), .bool rt, .int .i64 ld, .int .u64 (se : Nat), .int .u64 (sq : Nat), .int .i64 er, .int .u64 (lz : Nat), .int .i64 am, .int .i64 un, .int .i64 cp, .int .i64 ln] 67)) := (Below.refl _ _).alloc (Nat.le_refl _) _
  have hz := hb0.size
  have hb1 : Below w.heap.size w ((w.alloc (.cells #[.int .u64 (tq : Nat), .bool rt, .int .i64 ld, .int .u64 (se : Nat), .int .u64 (sq : Nat), .int .i64 er, .int .u64 (lz : Nat), .int .i64 am, .int .i64 un, .int .i64 cp, .int .i64 ln] 67)).alloc (.cells #[.slice none 0 0] 152)) := hb0.alloc hz _
  have hrow0 : ((w.alloc (.cells #[.int .u64 (tq : Nat), .bool rt, .int .i64 ld, .int .u64 (se : Nat), .int .u64 (sq : Nat), .int .i64 er, .int .u64 (lz : Nat), .int .i64 am, .int .i64 un, .int .i64 cp, .int .i64 ln] 67)).alloc (.cells #[.slice none 0 0] 152)).heap[w.heap.size]? = some (.cells #[.int .u64 (tq : Nat), .bool rt, .int .i64 ld, .int .u64 (se : Nat), .int .u64 (sq : Nat), .int .i64 er, .int .u64 (lz : Nat), .int .i64 am, .int .i64 un, .int .i64 cp, .int .i64 ln] 67 (0, 0)) := heap_alloc2_old w _ _
  have ho0 : OutAt w.heap.size (w.heap.size + 1) ((w.alloc (.cells #[.int .u64 (tq : Nat), .bool rt, .int .i64 ld, .int .u64 (se : Nat), .int .u64 (sq : Nat), .int .i64 er, .int .u64 (lz : Nat), .int .i64 am, .int .i64 un, .int .i64 cp, .int .i64 ln] 67)).alloc (.cells #[.slice none 0 0] 152)) [] := ⟨_, Nat.le_succ _, heap_alloc2_new _ _ _, Own.nil _ _⟩
  have hz0 : w.heap.size ≤ ((w.alloc (.cells #[.int .u64 (tq : Nat), .bool rt, .int .i64 ld, .int .u64 (se : Nat), .int .u64 (sq : Nat), .int .i64 er, .int .u64 (lz : Nat), .int .i64 am, .int .i64 un, .int .i64 cp, .int .i64 ln] 67)).alloc (.cells #[.slice none 0 0] 152)).heap.size := hb1.size
  have HROW0 := Lib.hid hrow0
  have HO0 := Lib.hid ho0
  have HB0 := Lib.hid hb1
  clear hrow0 hb0 hb1 ho0 hz
  go_enter Tryz.func43, Tryz.ntmps43
  go_wp2_with fail
  refine (outNum_any w.heap.size (w.heap.size + 1) tq _ rfl htq [] _ HO0.out (by omega) (by have := HS.out; (try simp only [List.length_nil]); omega)).mono ?_
  rintro e w1 ⟨rfl, ho1, hb1, ht1⟩
  obtain ⟨acc1, e1⟩ : ∃ x, x = [] ++ putNum tq := ⟨_, rfl⟩
  rw [← e1] at ho1
  have hl1 : acc1.length ≤ 0 + (9) := by
    rw [e1, List.length_append]
    have := putNum_len tq htq
    simp only [List.length_nil]; omega
  have hrow1 := ht1 _ _ _ _ HROW0.out (by decide) (by decide)
  have hc1x1 : w1.cell? ⟨w.heap.size, 1, none⟩ = some (.bool rt) := by rw [cell_of_row w1 w.heap.size 1 _ _ _ hrow1]; rfl
  have hz1 := hb1.size
  have HROW1 := Lib.hid hrow1
  have HO1 := Lib.hid ho1
  have HB1 := Lib.hid (HB0.out.trans hb1)
  have E1 := Lib.hid e1
  clear hrow1 ho1 ht1 hb1 e1
  go_wp2_with fail
  refine (outFlag_any w.heap.size (w.heap.size + 1) rt acc1 _ HO1.out (by omega) (by have := HS.out; (try simp only [List.length_nil]); omega)).mono ?_
  rintro e w2 ⟨rfl, ho2, hb2, ht2⟩
  obtain ⟨acc2, e2⟩ : ∃ x, x = acc1 ++ putNum (flagN rt) := ⟨_, rfl⟩
  rw [← e2] at ho2
  have hl2 : acc2.length ≤ acc1.length + (9) := by
    rw [e2, List.length_append]
    have := putNum_len (flagN rt) (by cases rt <;> decide)
    omega
  have hrow2 := ht2 _ _ _ _ HROW1.out (by decide) (by decide)
  have hc2x2 : w2.cell? ⟨w.heap.size, 2, none⟩ = some (.int .i64 ld) := by rw [cell_of_row w2 w.heap.size 2 _ _ _ hrow2]; rfl
  have hz2 := hb2.size
  have HROW2 := Lib.hid hrow2
  have HO2 := Lib.hid ho2
  have HB2 := Lib.hid (HB1.out.trans hb2)
  have E2 := Lib.hid e2
  clear hrow2 ho2 ht2 hb2 e2
  go_wp2_with fail
  refine (outNum_any w.heap.size (w.heap.size + 1) (u64N ld) _ (by rw [u64N_eq]; rfl) (u64N_lt ld) acc2 _ HO2.out (by omega) (by have := HS.out; (try simp only [List.length_nil]); omega)).mono ?_
  rintro e w3 ⟨rfl, ho3, hb3, ht3⟩
  obtain ⟨acc3, e3⟩ : ∃ x, x = acc2 ++ putNum (u64N ld) := ⟨_, rfl⟩
  rw [← e3] at ho3
  have hl3 : acc3.length ≤ acc2.length + (9) := by
    rw [e3, List.length_append]
    have := putNum_len (u64N ld) (u64N_lt ld)
    omega
  have hrow3 := ht3 _ _ _ _ HROW2.out (by decide) (by decide)
  have hc3x3 : w3.cell? ⟨w.heap.size, 3, none⟩ = some (.int .u64 (se : Nat)) := by rw [cell_of_row w3 w.heap.size 3 _ _ _ hrow3]; rfl
  have hc3x4 : w3.cell? ⟨w.heap.size, 4, none⟩ = some (.int .u64 (sq : Nat)) := by rw [cell_of_row w3 w.heap.size 4 _ _ _ hrow3]; rfl
  have hc3x5 : w3.cell? ⟨w.heap.size, 5, none⟩ = some (.int .i64 er) := by rw [cell_of_row w3 w.heap.size 5 _ _ _ hrow3]; rfl
  have hc3x6 : w3.cell? ⟨w.heap.size, 6, none⟩ = some (.int .u64 (lz : Nat)) := by rw [cell_of_row w3 w.heap.size 6 _ _ _ hrow3]; rfl
  have hc3x7 : w3.cell? ⟨w.heap.size, 7, none⟩ = some (.int .i64 am) := by rw [cell_of_row w3 w.heap.size 7 _ _ _ hrow3]; rfl
  have hc3x8 : w3.cell? ⟨w.heap.size, 8, none⟩ = some (.int .i64 un) := by rw [cell_of_row w3 w.heap.size 8 _ _ _ hrow3]; rfl
  have hz3 := hb3.size
  have HROW3 := Lib.hid hrow3
  have HO3 := Lib.hid ho3
  have HB3 := Lib.hid (HB2.out.trans hb3)
  have E3 := Lib.hid e3
  clear hrow3 ho3 ht3 hb3 e3
  go_wp2_with fail
  refine (outReply_any w.heap.size (w.heap.size + 1) 0 _ se hse sq hsq er lz hlz am un (Nat.zero_le _) acc3 HO3.out (by omega) (by have := HS.out; (try simp only [List.length_nil]); omega)).mono ?_
  rintro e w4 ⟨rfl, ho4, hb4, ht4⟩
  obtain ⟨acc4, e4⟩ : ∃ x, x = acc3 ++ putReply se sq er lz am un := ⟨_, rfl⟩
  rw [← e4] at ho4
  have hl4 : acc4.length ≤ acc3.length + (54) := by
    rw [e4, List.length_append]
    have := putReply_len se sq er lz am un hse hsq hlz 
    omega
  have hrow4 := ht4 _ _ _ _ HROW3.out (by decide) (by decide)
  have hc4x9 : w4.cell? ⟨w.heap.size, 9, none⟩ = some (.int .i64 cp) := by rw [cell_of_row w4 w.heap.size 9 _ _ _ hrow4]; rfl
  have hz4 := hb4.size
  have HROW4 := Lib.hid hrow4
  have HO4 := Lib.hid ho4
  have HB4 := Lib.hid (HB3.out.trans hb4)
  have E4 := Lib.hid e4
  clear hrow4 ho4 ht4 hb4 e4
  go_wp2_with fail
  refine (outNum_any w.heap.size (w.heap.size + 1) (u64N cp) _ (by rw [u64N_eq]; rfl) (u64N_lt cp) acc4 _ HO4.out (by omega) (by have := HS.out; (try simp only [List.length_nil]); omega)).mono ?_
  rintro e w5 ⟨rfl, ho5, hb5, ht5⟩
  obtain ⟨acc5, e5⟩ : ∃ x, x = acc4 ++ putNum (u64N cp) := ⟨_, rfl⟩
  rw [← e5] at ho5
  have hl5 : acc5.length ≤ acc4.length + (9) := by
    rw [e5, List.length_append]
    have := putNum_len (u64N cp) (u64N_lt cp)
    omega
  have hrow5 := ht5 _ _ _ _ HROW4.out (by decide) (by decide)
  have hc5x10 : w5.cell? ⟨w.heap.size, 10, none⟩ = some (.int .i64 ln) := by rw [cell_of_row w5 w.heap.size 10 _ _ _ hrow5]; rfl
  have hz5 := hb5.size
  have HROW5 := Lib.hid hrow5
  have HO5 := Lib.hid ho5
  have HB5 := Lib.hid (HB4.out.trans hb5)
  have E5 := Lib.hid e5
  clear hrow5 ho5 ht5 hb5 e5
  go_wp2_with fail
  refine (outNum_any w.heap.size (w.heap.size + 1) (u64N ln) _ (by rw [u64N_eq]; rfl) (u64N_lt ln) acc5 _ HO5.out (by omega) (by have := HS.out; (try simp only [List.length_nil]); omega)).mono ?_
  rintro e w6 ⟨rfl, ho6, hb6, ht6⟩
  obtain ⟨acc6, e6⟩ : ∃ x, x = acc5 ++ putNum (u64N ln) := ⟨_, rfl⟩
  rw [← e6] at ho6
  have hl6 : acc6.length ≤ acc5.length + (9) := by
    rw [e6, List.length_append]
    have := putNum_len (u64N ln) (u64N_lt ln)
    omega
  have hrow6 := ht6 _ _ _ _ HROW5.out (by decide) (by decide)
  obtain ⟨v, hg, hrw, hown⟩ := ho6
  have hc : w6.cell? ⟨w.heap.size + 1, 0, none⟩ = some v := by rw [cell_of_row w6 _ 0 _ _ _ hrw]; rfl
  have ho6 := hown
  clear hrw
  have hz6 := hb6.size
  have HROW6 := Lib.hid hrow6
  have HO6 := Lib.hid ho6
  have HB6 := Lib.hid (HB5.out.trans hb6)
  have E6 := Lib.hid e6
  clear hrow6 ho6 ht6 hb6 e6 hown
  go_wp2
  go_ret
  have h := HO6.out
  rw [E6.out, E5.out, E4.out, E3.out, E2.out, E1.out] at h
  refine ⟨v, rfl, ?_, HB6.out⟩
  unfold putTold
  simpa only [List.append_assoc, List.nil_append] using h
end Go.Proofs.YtloieecpgndbhaaGreat.Mo
