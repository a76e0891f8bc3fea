/- Package scupperref03's writer: configurations, entries, commands, replies, as contracts of calls. Written by gen3o.py. -/
import Derived.Test.YtloieecpgndbhaaGreatGB
namespace Go.Proofs.YtloieecpgndbhaaGreat.Mo
open Go.RowKit By CoP Co

/-- Its bytes. -/
def putConf (vs : List Int) (ls : List Int) : List UInt8 := putIds vs ++ putIds ls
theorem putConf_len (vs : List Int) (ls : List Int)  (hvs : vs.length ≤ 140737488355328) (hls : ls.length ≤ 140737488355328) : (putConf vs ls).length ≤ 9 * vs.length + 9 * ls.length + 18 := by
  unfold putConf
  simp only [List.length_append]
  have := putIds_len vs hvs
  have := putIds_len ls hls
  omega
set_option maxHeartbeats 400000 in
theorem outConf_any (base g B : Nat) (w : World) (Avs : Option Addr) (mvs cvs : Nat) (vs : List Int) (hvs : mvs = vs.length) (hrvs : LiesI w B Avs vs) (Als : Option Addr) (mls cls : Nat) (ls : List Int) (hls : mls = ls.length) (hrls : LiesI w B Als ls) (hB : B ≤ base) (acc : List UInt8) (h : OutAt base g w acc) (hb : base ≤ w.heap.size) (hs : acc.length + 9 * vs.length + 9 * ls.length + 36 ≤ 140737488355328) :
    Calls Tryz.prog 78 #[.pointer (some ⟨g, 0, none⟩), .agg #[.slice Avs mvs cvs, .slice Als mls cls]] w (Wrote base g (acc ++ putConf vs ls) w) := by
  have Hvs := Lib.hid hvs
  have HRvs := Lib.hid hrvs
  clear hvs hrvs
  have Hls := Lib.hid hls
  have HRls := Lib.hid hrls
  clear hls hrls
  have HS := Lib.hid hs
  clear hs
  have HO := Lib.hid h
  clear h
  have hrow0 := heap_alloc_new w (.cells #[.slice Avs mvs cvs, .slice Als mls cls] 28)
  have hB0 : Below w.heap.size w (w.alloc (.cells #[.slice Avs mvs cvs, .slice Als mls cls] 28)) := (Below.refl _ _).alloc (Nat.le_refl _) _
  have ho0 := HO.out.kept hB0 (Nat.le_refl _)
  have hz0 : base ≤ (w.alloc (.cells #[.slice Avs mvs cvs, .slice Als mls cls] 28)).heap.size := Nat.le_trans hb hB0.size
  have HROW0 := Lib.hid hrow0
  have HO0 := Lib.hid ho0
  have HT0 := Lib.hid (Typed.below hB0)
  have HB0 := Lib.hid (hB0.mono hb)
  clear hrow0 hB0 ho0
  go_enter Tryz.func78, Tryz.ntmps78
  go_wp2_with fail
  refine (outIds_any base g Avs mvs cvs B vs Hvs.out acc _ (HRvs.out.below (HB0.out.mono hB)) hB HO0.out (by omega) (by have := HS.out; omega) (by have := HS.out; omega)).mono ?_
  rintro e w1 ⟨rfl, ho1, hb1, ht1⟩
  obtain ⟨acc1, e1⟩ : ∃ x, x = acc ++ putIds vs := ⟨_, rfl⟩
  rw [← e1] at ho1
  have hl1 : acc1.length ≤ acc.length + (9 * vs.length + 9) := by
    rw [e1, List.length_append]
    have := putIds_len vs (by have := HS.out; omega)
    omega
  have hrow1 := ht1 _ _ _ _ HROW0.out (by decide) (by decide)
  have hc1x1 : w1.cell? ⟨w.heap.size, 1, none⟩ = some (.slice Als mls cls) := by rw [cell_of_row w1 w.heap.size 1 _ _ _ hrow1]; rfl
  have hz1 := hb1.size
  have HROW1 := Lib.hid hrow1
  have HO1 := Lib.hid ho1
  have HT1 := Lib.hid (HT0.out.trans ht1)
  have HB1 := Lib.hid (HB0.out.trans hb1)
  have E1 := Lib.hid e1
  clear hrow1 ho1 ht1 hb1 e1
  go_wp2_with fail
  refine (outIds_any base g Als mls cls B ls Hls.out acc1 _ (HRls.out.below (HB1.out.mono hB)) hB HO1.out (by omega) (by have := HS.out; omega) (by have := HS.out; omega)).mono ?_
  rintro e w2 ⟨rfl, ho2, hb2, ht2⟩
  obtain ⟨acc2, e2⟩ : ∃ x, x = acc1 ++ putIds ls := ⟨_, rfl⟩
  rw [← e2] at ho2
  have hl2 : acc2.length ≤ acc1.length + (9 * ls.length + 9) := by
    rw [e2, List.length_append]
    have := putIds_len ls (by have := HS.out; omega)
    omega
  have hrow2 := ht2 _ _ _ _ HROW1.out (by decide) (by decide)
  have hz2 := hb2.size
  have HROW2 := Lib.hid hrow2
  have HO2 := Lib.hid ho2
  have HT2 := Lib.hid (HT1.out.trans ht2)
  have HB2 := Lib.hid (HB1.out.trans hb2)
  have E2 := Lib.hid e2
  clear hrow2 ho2 ht2 hb2 e2
  go_wp2
  go_end0
  refine ⟨rfl, ?_, HB2.out, HT2.out⟩
  have h := HO2.out
  rw [E2.out, E1.out] at h
  unfold putConf
  simpa only [List.append_assoc] using h
/-- Its bytes. -/
def putEntry (ix : Nat) (tm : Nat) (kd : Int) (dl : Int) (da : List UInt8) : List UInt8 := putNum ix ++ putNum tm ++ putNum (u64N kd) ++ putNum (u64N dl) ++ putBytes da
theorem putEntry_len (ix : Nat) (tm : Nat) (kd : Int) (dl : Int) (da : List UInt8) (hix : ix < 18446744073709551616) (htm : tm < 18446744073709551616) (hda : da.length ≤ 140737488355328) : (putEntry ix tm kd dl da).length ≤ da.length + 45 := by
  unfold putEntry
  simp only [List.length_append]
  have := putNum_len ix hix
  have := putNum_len tm htm
  have := putNum_len (u64N kd) (u64N_lt kd)
  have := putNum_len (u64N dl) (u64N_lt dl)
  have := putBytes_length da hda
  omega
set_option maxHeartbeats 400000 in
theorem outEntry_any (base g B : Nat) (w : World) (ix : Nat) (hix : ix < 18446744073709551616) (tm : Nat) (htm : tm < 18446744073709551616) (kd : Int) (dl : Int) (Ada : Option Addr) (mda cda : Nat) (da : List UInt8) (hda : mda = da.length) (hrda : Lies w B Ada da) (hB : B ≤ base) (acc : List UInt8) (h : OutAt base g w acc) (hb : base ≤ w.heap.size) (hs : acc.length + da.length + 63 ≤ 140737488355328) :
    Calls Tryz.prog 75 #[.pointer (some ⟨g, 0, none⟩), .agg #[.int .u64 (ix : Nat), .int .u64 (tm : Nat), .int .i64 kd, .int .i64 dl, .slice Ada mda cda]] w (Wrote base g (acc ++ putEntry ix tm kd dl da) w) := by
  have Hda := Lib.hid hda
  have HRda := Lib.hid hrda
  clear hda hrda
  have HS := Lib.hid hs
  clear hs
  have HO := Lib.hid h
  clear h
  have hrow0 := heap_alloc_new w (.cells #[.int .u64 (ix : Nat), .int .u64 (tm : Nat), .int .i64 kd, .int .i64 dl, .slice Ada mda cda] 25)
  have hB0 : Below w.heap.size w (w.alloc (.cells #[.int .u64 (ix : Nat), .int .u64 (tm : Nat), .int .i64 kd, .int .i64 dl, .slice Ada mda cda] 25)) := (Below.refl _ _).alloc (Nat.le_refl _) _
  have ho0 := HO.out.kept hB0 (Nat.le_refl _)
  have hz0 : base ≤ (w.alloc (.cells #[.int .u64 (ix : Nat), .int .u64 (tm : Nat), .int .i64 kd, .int .i64 dl, .slice Ada mda cda] 25)).heap.size := Nat.le_trans hb hB0.size
  have HROW0 := Lib.hid hrow0
  have HO0 := Lib.hid ho0
  have HT0 := Lib.hid (Typed.below hB0)
  have HB0 := Lib.hid (hB0.mono hb)
  clear hrow0 hB0 ho0
  go_enter Tryz.func75, Tryz.ntmps75
  go_wp2_with fail
  refine (outNum_any base g ix _ rfl hix acc _ HO0.out (by omega) (by have := HS.out; omega)).mono ?_
  rintro e w1 ⟨rfl, ho1, hb1, ht1⟩
  obtain ⟨acc1, e1⟩ : ∃ x, x = acc ++ putNum ix := ⟨_, rfl⟩
  rw [← e1] at ho1
  have hl1 : acc1.length ≤ acc.length + (9) := by
    rw [e1, List.length_append]
    have := putNum_len ix hix
    omega
  have hrow1 := ht1 _ _ _ _ HROW0.out (by decide) (by decide)
  have hc1x1 : w1.cell? ⟨w.heap.size, 1, none⟩ = some (.int .u64 (tm : Nat)) := by rw [cell_of_row w1 w.heap.size 1 _ _ _ hrow1]; rfl
  have hz1 := hb1.size
  have HROW1 := Lib.hid hrow1
  have HO1 := Lib.hid ho1
  have HT1 := Lib.hid (HT0.out.trans ht1)
  have HB1 := Lib.hid (HB0.out.trans hb1)
  have E1 := Lib.hid e1
  clear hrow1 ho1 ht1 hb1 e1
  go_wp2_with fail
  refine (outNum_any base g tm _ rfl htm acc1 _ HO1.out (by omega) (by have := HS.out; omega)).mono ?_
  rintro e w2 ⟨rfl, ho2, hb2, ht2⟩
  obtain ⟨acc2, e2⟩ : ∃ x, x = acc1 ++ putNum tm := ⟨_, rfl⟩
  rw [← e2] at ho2
  have hl2 : acc2.length ≤ acc1.length + (9) := by
    rw [e2, List.length_append]
    have := putNum_len tm htm
    omega
  have hrow2 := ht2 _ _ _ _ HROW1.out (by decide) (by decide)
  have hc2x2 : w2.cell? ⟨w.heap.size, 2, none⟩ = some (.int .i64 kd) := by rw [cell_of_row w2 w.heap.size 2 _ _ _ hrow2]; rfl
  have hz2 := hb2.size
  have HROW2 := Lib.hid hrow2
  have HO2 := Lib.hid ho2
  have HT2 := Lib.hid (HT1.out.trans ht2)
  have HB2 := Lib.hid (HB1.out.trans hb2)
  have E2 := Lib.hid e2
  clear hrow2 ho2 ht2 hb2 e2
  go_wp2_with fail
  refine (outNum_any base g (u64N kd) _ (by rw [u64N_eq]; rfl) (u64N_lt kd) acc2 _ HO2.out (by omega) (by have := HS.out; omega)).mono ?_
  rintro e w3 ⟨rfl, ho3, hb3, ht3⟩
  obtain ⟨acc3, e3⟩ : ∃ x, x = acc2 ++ putNum (u64N kd) := ⟨_, rfl⟩
  rw [← e3] at ho3
  have hl3 : acc3.length ≤ acc2.length + (9) := by
    rw [e3, List.length_append]
    have := putNum_len (u64N kd) (u64N_lt kd)
    omega
  have hrow3 := ht3 _ _ _ _ HROW2.out (by decide) (by decide)
  have hc3x3 : w3.cell? ⟨w.heap.size, 3, none⟩ = some (.int .i64 dl) := by rw [cell_of_row w3 w.heap.size 3 _ _ _ hrow3]; rfl
  have hz3 := hb3.size
  have HROW3 := Lib.hid hrow3
  have HO3 := Lib.hid ho3
  have HT3 := Lib.hid (HT2.out.trans ht3)
  have HB3 := Lib.hid (HB2.out.trans hb3)
  have E3 := Lib.hid e3
  clear hrow3 ho3 ht3 hb3 e3
  go_wp2_with fail
  refine (outNum_any base g (u64N dl) _ (by rw [u64N_eq]; rfl) (u64N_lt dl) acc3 _ HO3.out (by omega) (by have := HS.out; omega)).mono ?_
  rintro e w4 ⟨rfl, ho4, hb4, ht4⟩
  obtain ⟨acc4, e4⟩ : ∃ x, x = acc3 ++ putNum (u64N dl) := ⟨_, rfl⟩
  rw [← e4] at ho4
  have hl4 : acc4.length ≤ acc3.length + (9) := by
    rw [e4, List.length_append]
    have := putNum_len (u64N dl) (u64N_lt dl)
    omega
  have hrow4 := ht4 _ _ _ _ HROW3.out (by decide) (by decide)
  have hc4x4 : w4.cell? ⟨w.heap.size, 4, none⟩ = some (.slice Ada mda cda) := by rw [cell_of_row w4 w.heap.size 4 _ _ _ hrow4]; rfl
  have hz4 := hb4.size
  have HROW4 := Lib.hid hrow4
  have HO4 := Lib.hid ho4
  have HT4 := Lib.hid (HT3.out.trans ht4)
  have HB4 := Lib.hid (HB3.out.trans hb4)
  have E4 := Lib.hid e4
  clear hrow4 ho4 ht4 hb4 e4
  go_wp2_with fail
  refine (outData_any base g Ada mda cda B da Hda.out acc4 _ (HRda.out.below (HB4.out.mono hB)) (by omega) HO4.out (by omega) (by have := HS.out; omega)).mono ?_
  rintro e w5 ⟨rfl, ho5, hb5, ht5⟩
  obtain ⟨acc5, e5⟩ : ∃ x, x = acc4 ++ putBytes da := ⟨_, rfl⟩
  rw [← e5] at ho5
  have hl5 : acc5.length ≤ acc4.length + (da.length + 9) := by
    rw [e5, List.length_append]
    have := putBytes_length da (by have := HS.out; omega)
    omega
  have hrow5 := ht5 _ _ _ _ HROW4.out (by decide) (by decide)
  have hz5 := hb5.size
  have HROW5 := Lib.hid hrow5
  have HO5 := Lib.hid ho5
  have HT5 := Lib.hid (HT4.out.trans ht5)
  have HB5 := Lib.hid (HB4.out.trans hb5)
  have E5 := Lib.hid e5
  clear hrow5 ho5 ht5 hb5 e5
  go_wp2
  go_end0
  refine ⟨rfl, ?_, HB5.out, HT5.out⟩
  have h := HO5.out
  rw [E5.out, E4.out, E3.out, E2.out, E1.out] at h
  unfold putEntry
  simpa only [List.append_assoc] using h
/-- Its bytes. -/
def putCommand (se : Nat) (sq : Nat) (op : Int) (ke : List UInt8) (am : Int) (sp : Int) (le : Nat) : List UInt8 := putNum se ++ putNum sq ++ putNum (u64N op) ++ putBytes ke ++ putNum (u64N am) ++ putNum (u64N sp) ++ putNum le
theorem putCommand_len (se : Nat) (sq : Nat) (op : Int) (ke : List UInt8) (am : Int) (sp : Int) (le : Nat) (hse : se < 18446744073709551616) (hsq : sq < 18446744073709551616) (hle : le < 18446744073709551616) (hke : ke.length ≤ 140737488355328) : (putCommand se sq op ke am sp le).length ≤ ke.length + 63 := by
  unfold putCommand
  simp only [List.length_append]
  have := putNum_len se hse
  have := putNum_len sq hsq
  have := putNum_len (u64N op) (u64N_lt op)
  have := putBytes_length ke hke
  have := putNum_len (u64N am) (u64N_lt am)
  have := putNum_len (u64N sp) (u64N_lt sp)
  have := putNum_len le hle
  omega
set_option maxHeartbeats 400000 in
theorem outCommand_any (base g B : Nat) (w : World) (se : Nat) (hse : se < 18446744073709551616) (sq : Nat) (hsq : sq < 18446744073709551616) (op : Int) (ke : List UInt8) (am : Int) (sp : Int) (le : Nat) (hle : le < 18446744073709551616) (_ : B ≤ base) (acc : List UInt8) (h : OutAt base g w acc) (hb : base ≤ w.heap.size) (hs : acc.length + ke.length + 81 ≤ 140737488355328) :
    Calls Tryz.prog 92 #[.pointer (some ⟨g, 0, none⟩), .agg #[.int .u64 (se : Nat), .int .u64 (sq : Nat), .int .i64 op, .string (str ke), .int .i64 am, .int .i64 sp, .int .u64 (le : Nat)]] w (Wrote base g (acc ++ putCommand se sq op ke am sp le) w) := by
  have hconvke := fun (w : World) => conv_any w ke
  have HS := Lib.hid hs
  clear hs
  have HO := Lib.hid h
  clear h
  have hrow0 := heap_alloc_new w (.cells #[.int .u64 (se : Nat), .int .u64 (sq : Nat), .int .i64 op, .string (str ke), .int .i64 am, .int .i64 sp, .int .u64 (le : Nat)] 61)
  have hB0 : Below w.heap.size w (w.alloc (.cells #[.int .u64 (se : Nat), .int .u64 (sq : Nat), .int .i64 op, .string (str ke), .int .i64 am, .int .i64 sp, .int .u64 (le : Nat)] 61)) := (Below.refl _ _).alloc (Nat.le_refl _) _
  have ho0 := HO.out.kept hB0 (Nat.le_refl _)
  have hz0 : base ≤ (w.alloc (.cells #[.int .u64 (se : Nat), .int .u64 (sq : Nat), .int .i64 op, .string (str ke), .int .i64 am, .int .i64 sp, .int .u64 (le : Nat)] 61)).heap.size := Nat.le_trans hb hB0.size
  have HROW0 := Lib.hid hrow0
  have HO0 := Lib.hid ho0
  have HT0 := Lib.hid (Typed.below hB0)
  have HB0 := Lib.hid (hB0.mono hb)
  clear hrow0 hB0 ho0
  go_enter Tryz.func92, Tryz.ntmps92
  go_wp2_with fail
  refine (outNum_any base g se _ rfl hse acc _ HO0.out (by omega) (by have := HS.out; omega)).mono ?_
  rintro e w1 ⟨rfl, ho1, hb1, ht1⟩
  obtain ⟨acc1, e1⟩ : ∃ x, x = acc ++ putNum se := ⟨_, rfl⟩
  rw [← e1] at ho1
  have hl1 : acc1.length ≤ acc.length + (9) := by
    rw [e1, List.length_append]
    have := putNum_len se hse
    omega
  have hrow1 := ht1 _ _ _ _ HROW0.out (by decide) (by decide)
  have hc1x1 : w1.cell? ⟨w.heap.size, 1, none⟩ = some (.int .u64 (sq : Nat)) := by rw [cell_of_row w1 w.heap.size 1 _ _ _ hrow1]; rfl
  have hz1 := hb1.size
  have HROW1 := Lib.hid hrow1
  have HO1 := Lib.hid ho1
  have HT1 := Lib.hid (HT0.out.trans ht1)
  have HB1 := Lib.hid (HB0.out.trans hb1)
  have E1 := Lib.hid e1
  clear hrow1 ho1 ht1 hb1 e1
  go_wp2_with fail
  refine (outNum_any base g sq _ rfl hsq acc1 _ HO1.out (by omega) (by have := HS.out; omega)).mono ?_
  rintro e w2 ⟨rfl, ho2, hb2, ht2⟩
  obtain ⟨acc2, e2⟩ : ∃ x, x = acc1 ++ putNum sq := ⟨_, rfl⟩
  rw [← e2] at ho2
  have hl2 : acc2.length ≤ acc1.length + (9) := by
    rw [e2, List.length_append]
    have := putNum_len sq hsq
    omega
  have hrow2 := ht2 _ _ _ _ HROW1.out (by decide) (by decide)
  have hc2x2 : w2.cell? ⟨w.heap.size, 2, none⟩ = some (.int .i64 op) := by rw [cell_of_row w2 w.heap.size 2 _ _ _ hrow2]; rfl
  have hz2 := hb2.size
  have HROW2 := Lib.hid hrow2
  have HO2 := Lib.hid ho2
  have HT2 := Lib.hid (HT1.out.trans ht2)
  have HB2 := Lib.hid (HB1.out.trans hb2)
  have E2 := Lib.hid e2
  clear hrow2 ho2 ht2 hb2 e2
  go_wp2_with fail
  refine (outNum_any base g (u64N op) _ (by rw [u64N_eq]; rfl) (u64N_lt op) acc2 _ HO2.out (by omega) (by have := HS.out; omega)).mono ?_
  rintro e w3 ⟨rfl, ho3, hb3, ht3⟩
  obtain ⟨acc3, e3⟩ : ∃ x, x = acc2 ++ putNum (u64N op) := ⟨_, rfl⟩
  rw [← e3] at ho3
  have hl3 : acc3.length ≤ acc2.length + (9) := by
    rw [e3, List.length_append]
    have := putNum_len (u64N op) (u64N_lt op)
    omega
  have hrow3 := ht3 _ _ _ _ HROW2.out (by decide) (by decide)
  have hc3x3 : w3.cell? ⟨w.heap.size, 3, none⟩ = some (.string (str ke)) := by rw [cell_of_row w3 w.heap.size 3 _ _ _ hrow3]; rfl
  have hz3 := hb3.size
  have HROW3 := Lib.hid hrow3
  have HO3 := Lib.hid ho3
  have HT3 := Lib.hid (HT2.out.trans ht3)
  have HB3 := Lib.hid (HB2.out.trans hb3)
  have E3 := Lib.hid e3
  clear hrow3 ho3 ht3 hb3 e3
  go_wp2_with fail
  refine (outText_any base g ke acc3 _ HO3.out (by omega) (by have := HS.out; omega) _ _ (str_size ke)).mono ?_
  rintro e w4 ⟨rfl, ho4, hb4, ht4⟩
  obtain ⟨acc4, e4⟩ : ∃ x, x = acc3 ++ putBytes ke := ⟨_, rfl⟩
  rw [← e4] at ho4
  have hl4 : acc4.length ≤ acc3.length + (ke.length + 9) := by
    rw [e4, List.length_append]
    have := putBytes_length ke (by have := HS.out; omega)
    omega
  have hrow4 := ht4 _ _ _ _ HROW3.out (by decide) (by decide)
  have hc4x4 : w4.cell? ⟨w.heap.size, 4, none⟩ = some (.int .i64 am) := by rw [cell_of_row w4 w.heap.size 4 _ _ _ hrow4]; rfl
  have hz4 := hb4.size
  have HROW4 := Lib.hid hrow4
  have HO4 := Lib.hid ho4
  have HT4 := Lib.hid (HT3.out.trans ht4)
  have HB4 := Lib.hid (HB3.out.trans hb4)
  have E4 := Lib.hid e4
  clear hrow4 ho4 ht4 hb4 e4
  go_wp2_with fail
  refine (outNum_any base g (u64N am) _ (by rw [u64N_eq]; rfl) (u64N_lt am) acc4 _ HO4.out (by omega) (by have := HS.out; omega)).mono ?_
  rintro e w5 ⟨rfl, ho5, hb5, ht5⟩
  obtain ⟨acc5, e5⟩ : ∃ x, x = acc4 ++ putNum (u64N am) := ⟨_, rfl⟩
  rw [← e5] at ho5
  have hl5 : acc5.length ≤ acc4.length + (9) := by
    rw [e5, List.length_append]
    have := putNum_len (u64N am) (u64N_lt am)
    omega
  have hrow5 := ht5 _ _ _ _ HROW4.out (by decide) (by decide)
  have hc5x5 : w5.cell? ⟨w.heap.size, 5, none⟩ = some (.int .i64 sp) := by rw [cell_of_row w5 w.heap.size 5 _ _ _ hrow5]; rfl
  have hz5 := hb5.size
  have HROW5 := Lib.hid hrow5
  have HO5 := Lib.hid ho5
  have HT5 := Lib.hid (HT4.out.trans ht5)
  have HB5 := Lib.hid (HB4.out.trans hb5)
  have E5 := Lib.hid e5
  clear hrow5 ho5 ht5 hb5 e5
  go_wp2_with fail
  refine (outNum_any base g (u64N sp) _ (by rw [u64N_eq]; rfl) (u64N_lt sp) acc5 _ HO5.out (by omega) (by have := HS.out; omega)).mono ?_
  rintro e w6 ⟨rfl, ho6, hb6, ht6⟩
  obtain ⟨acc6, e6⟩ : ∃ x, x = acc5 ++ putNum (u64N sp) := ⟨_, rfl⟩
  rw [← e6] at ho6
  have hl6 : acc6.length ≤ acc5.length + (9) := by
    rw [e6, List.length_append]
    have := putNum_len (u64N sp) (u64N_lt sp)
    omega
  have hrow6 := ht6 _ _ _ _ HROW5.out (by decide) (by decide)
  have hc6x6 : w6.cell? ⟨w.heap.size, 6, none⟩ = some (.int .u64 (le : Nat)) := by rw [cell_of_row w6 w.heap.size 6 _ _ _ hrow6]; rfl
  have hz6 := hb6.size
  have HROW6 := Lib.hid hrow6
  have HO6 := Lib.hid ho6
  have HT6 := Lib.hid (HT5.out.trans ht6)
  have HB6 := Lib.hid (HB5.out.trans hb6)
  have E6 := Lib.hid e6
  clear hrow6 ho6 ht6 hb6 e6
  go_wp2_with fail
  refine (outNum_any base g le _ rfl hle acc6 _ HO6.out (by omega) (by have := HS.out; omega)).mono ?_
  rintro e w7 ⟨rfl, ho7, hb7, ht7⟩
  obtain ⟨acc7, e7⟩ : ∃ x, x = acc6 ++ putNum le := ⟨_, rfl⟩
  rw [← e7] at ho7
  have hl7 : acc7.length ≤ acc6.length + (9) := by
    rw [e7, List.length_append]
    have := putNum_len le hle
    omega
  have hrow7 := ht7 _ _ _ _ HROW6.out (by decide) (by decide)
  have hz7 := hb7.size
  have HROW7 := Lib.hid hrow7
  have HO7 := Lib.hid ho7
  have HT7 := Lib.hid (HT6.out.trans ht7)
  have HB7 := Lib.hid (HB6.out.trans hb7)
  have E7 := Lib.hid e7
  clear hrow7 ho7 ht7 hb7 e7
  go_wp2
  go_end0
  refine ⟨rfl, ?_, HB7.out, HT7.out⟩
  have h := HO7.out
  rw [E7.out, E6.out, E5.out, E4.out, E3.out, E2.out, E1.out] at h
  unfold putCommand
  simpa only [List.append_assoc] using h
/-- Its bytes. -/
def putReply (se : Nat) (sq : Nat) (er : Int) (lz : Nat) (am : Int) (un : Int) : List UInt8 := putNum se ++ putNum sq ++ putNum (u64N er) ++ putNum lz ++ putNum (u64N am) ++ putNum (u64N un)
theorem putReply_len (se : Nat) (sq : Nat) (er : Int) (lz : Nat) (am : Int) (un : Int) (hse : se < 18446744073709551616) (hsq : sq < 18446744073709551616) (hlz : lz < 18446744073709551616)  : (putReply se sq er lz am un).length ≤ 54 := by
  unfold putReply
  simp only [List.length_append]
  have := putNum_len se hse
  have := putNum_len sq hsq
  have := putNum_len (u64N er) (u64N_lt er)
  have := putNum_len lz hlz
  have := putNum_len (u64N am) (u64N_lt am)
  have := putNum_len (u64N un) (u64N_lt un)
  omega
set_option maxHeartbeats 400000 in
theorem outReply_any (base g B : Nat) (w : World) (se : Nat) (hse : se < 18446744073709551616) (sq : Nat) (hsq : sq < 18446744073709551616) (er : Int) (lz : Nat) (hlz : lz < 18446744073709551616) (am : Int) (un : Int) (_ : B ≤ base) (acc : List UInt8) (h : OutAt base g w acc) (hb : base ≤ w.heap.size) (hs : acc.length + 72 ≤ 140737488355328) :
    Calls Tryz.prog 93 #[.pointer (some ⟨g, 0, none⟩), .agg #[.int .u64 (se : Nat), .int .u64 (sq : Nat), .int .i64 er, .int .u64 (lz : Nat), .int .i64 am, .int .i64 un]] w (Wrote base g (acc ++ putReply se sq er lz am un) w) := by
  have HS := Lib.hid hs
  clear hs
  have HO := Lib.hid h
  clear h
  have hrow0 := heap_alloc_new w (.cells #[.int .u64 (se : Nat), .int .u64 (sq : Nat), .int .i64 er, .int .u64 (lz : Nat), .int .i64 am, .int .i64 un] 63)
  have hB0 : Below w.heap.size w (w.alloc (.cells #[.int .u64 (se : Nat), .int .u64 (sq : Nat), .int .i64 er, .int .u64 (lz : Nat), .int .i64 am, .int .i64 un] 63)) := (Below.refl _ _).alloc (Nat.le_refl _) _
  have ho0 := HO.out.kept hB0 (Nat.le_refl _)
  have hz0 : base ≤ (w.alloc (.cells #[.int .u64 (se : Nat), .int .u64 (sq : Nat), .int .i64 er, .int .u64 (lz : Nat), .int .i64 am, .int .i64 un] 63)).heap.size := Nat.le_trans hb hB0.size
  have HROW0 := Lib.hid hrow0
  have HO0 := Lib.hid ho0
  have HT0 := Lib.hid (Typed.below hB0)
  have HB0 := Lib.hid (hB0.mono hb)
  clear hrow0 hB0 ho0
  go_enter Tryz.func93, Tryz.ntmps93
  go_wp2_with fail
  refine (outNum_any base g se _ rfl hse acc _ HO0.out (by omega) (by have := HS.out; omega)).mono ?_
  rintro e w1 ⟨rfl, ho1, hb1, ht1⟩
  obtain ⟨acc1, e1⟩ : ∃ x, x = acc ++ putNum se := ⟨_, rfl⟩
  rw [← e1] at ho1
  have hl1 : acc1.length ≤ acc.length + (9) := by
    rw [e1, List.length_append]
    have := putNum_len se hse
    omega
  have hrow1 := ht1 _ _ _ _ HROW0.out (by decide) (by decide)
  have hc1x1 : w1.cell? ⟨w.heap.size, 1, none⟩ = some (.int .u64 (sq : Nat)) := by rw [cell_of_row w1 w.heap.size 1 _ _ _ hrow1]; rfl
  have hz1 := hb1.size
  have HROW1 := Lib.hid hrow1
  have HO1 := Lib.hid ho1
  have HT1 := Lib.hid (HT0.out.trans ht1)
  have HB1 := Lib.hid (HB0.out.trans hb1)
  have E1 := Lib.hid e1
  clear hrow1 ho1 ht1 hb1 e1
  go_wp2_with fail
  refine (outNum_any base g sq _ rfl hsq acc1 _ HO1.out (by omega) (by have := HS.out; omega)).mono ?_
  rintro e w2 ⟨rfl, ho2, hb2, ht2⟩
  obtain ⟨acc2, e2⟩ : ∃ x, x = acc1 ++ putNum sq := ⟨_, rfl⟩
  rw [← e2] at ho2
  have hl2 : acc2.length ≤ acc1.length + (9) := by
    rw [e2, List.length_append]
    have := putNum_len sq hsq
    omega
  have hrow2 := ht2 _ _ _ _ HROW1.out (by decide) (by decide)
  have hc2x2 : w2.cell? ⟨w.heap.size, 2, none⟩ = some (.int .i64 er) := by rw [cell_of_row w2 w.heap.size 2 _ _ _ hrow2]; rfl
  have hz2 := hb2.size
  have HROW2 := Lib.hid hrow2
  have HO2 := Lib.hid ho2
  have HT2 := Lib.hid (HT1.out.trans ht2)
  have HB2 := Lib.hid (HB1.out.trans hb2)
  have E2 := Lib.hid e2
  clear hrow2 ho2 ht2 hb2 e2
  go_wp2_with fail
  refine (outNum_any base g (u64N er) _ (by rw [u64N_eq]; rfl) (u64N_lt er) acc2 _ HO2.out (by omega) (by have := HS.out; omega)).mono ?_
  rintro e w3 ⟨rfl, ho3, hb3, ht3⟩
  obtain ⟨acc3, e3⟩ : ∃ x, x = acc2 ++ putNum (u64N er) := ⟨_, rfl⟩
  rw [← e3] at ho3
  have hl3 : acc3.length ≤ acc2.length + (9) := by
    rw [e3, List.length_append]
    have := putNum_len (u64N er) (u64N_lt er)
    omega
  have hrow3 := ht3 _ _ _ _ HROW2.out (by decide) (by decide)
  have hc3x3 : w3.cell? ⟨w.heap.size, 3, none⟩ = some (.int .u64 (lz : Nat)) := by rw [cell_of_row w3 w.heap.size 3 _ _ _ hrow3]; rfl
  have hz3 := hb3.size
  have HROW3 := Lib.hid hrow3
  have HO3 := Lib.hid ho3
  have HT3 := Lib.hid (HT2.out.trans ht3)
  have HB3 := Lib.hid (HB2.out.trans hb3)
  have E3 := Lib.hid e3
  clear hrow3 ho3 ht3 hb3 e3
  go_wp2_with fail
  refine (outNum_any base g lz _ rfl hlz acc3 _ HO3.out (by omega) (by have := HS.out; omega)).mono ?_
  rintro e w4 ⟨rfl, ho4, hb4, ht4⟩
  obtain ⟨acc4, e4⟩ : ∃ x, x = acc3 ++ putNum lz := ⟨_, rfl⟩
  rw [← e4] at ho4
  have hl4 : acc4.length ≤ acc3.length + (9) := by
    rw [e4, List.length_append]
    have := putNum_len lz hlz
    omega
  have hrow4 := ht4 _ _ _ _ HROW3.out (by decide) (by decide)
  have hc4x4 : w4.cell? ⟨w.heap.size, 4, none⟩ = some (.int .i64 am) := by rw [cell_of_row w4 w.heap.size 4 _ _ _ hrow4]; rfl
  have hz4 := hb4.size
  have HROW4 := Lib.hid hrow4
  have HO4 := Lib.hid ho4
  have HT4 := Lib.hid (HT3.out.trans ht4)
  have HB4 := Lib.hid (HB3.out.trans hb4)
  have E4 := Lib.hid e4
  clear hrow4 ho4 ht4 hb4 e4
  go_wp2_with fail
  refine (outNum_any base g (u64N am) _ (by rw [u64N_eq]; rfl) (u64N_lt am) acc4 _ HO4.out (by omega) (by have := HS.out; omega)).mono ?_
  rintro e w5 ⟨rfl, ho5, hb5, ht5⟩
  obtain ⟨acc5, e5⟩ : ∃ x, x = acc4 ++ putNum (u64N am) := ⟨_, rfl⟩
  rw [← e5] at ho5
  have hl5 : acc5.length ≤ acc4.length + (9) := by
    rw [e5, List.length_append]
    have := putNum_len (u64N am) (u64N_lt am)
    omega
  have hrow5 := ht5 _ _ _ _ HROW4.out (by decide) (by decide)
  have hc5x5 : w5.cell? ⟨w.heap.size, 5, none⟩ = some (.int .i64 un) := by rw [cell_of_row w5 w.heap.size 5 _ _ _ hrow5]; rfl
  have hz5 := hb5.size
  have HROW5 := Lib.hid hrow5
  have HO5 := Lib.hid ho5
  have HT5 := Lib.hid (HT4.out.trans ht5)
  have HB5 := Lib.hid (HB4.out.trans hb5)
  have E5 := Lib.hid e5
  clear hrow5 ho5 ht5 hb5 e5
  go_wp2_with fail
  refine (outNum_any base g (u64N un) _ (by rw [u64N_eq]; rfl) (u64N_lt un) acc5 _ HO5.out (by omega) (by have := HS.out; omega)).mono ?_
  rintro e w6 ⟨rfl, ho6, hb6, ht6⟩
  obtain ⟨acc6, e6⟩ : ∃ x, x = acc5 ++ putNum (u64N un) := ⟨_, rfl⟩
  rw [← e6] at ho6
  have hl6 : acc6.length ≤ acc5.length + (9) := by
    rw [e6, List.length_append]
    have := putNum_len (u64N un) (u64N_lt un)
    omega
  have hrow6 := ht6 _ _ _ _ HROW5.out (by decide) (by decide)
  have hz6 := hb6.size
  have HROW6 := Lib.hid hrow6
  have HO6 := Lib.hid ho6
  have HT6 := Lib.hid (HT5.out.trans ht6)
  have HB6 := Lib.hid (HB5.out.trans hb6)
  have E6 := Lib.hid e6
  clear hrow6 ho6 ht6 hb6 e6
  go_wp2
  go_end0
  refine ⟨rfl, ?_, HB6.out, HT6.out⟩
  have h := HO6.out
  rw [E6.out, E5.out, E4.out, E3.out, E2.out, E1.out] at h
  unfold putReply
  simpa only [List.append_assoc] using h
end Go.Proofs.YtloieecpgndbhaaGreat.Mo
