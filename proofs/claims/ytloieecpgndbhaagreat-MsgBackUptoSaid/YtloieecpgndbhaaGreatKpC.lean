/- Package scupperref03's Msg: the bytes of a message. Written by genmsg.py. -/
import Derived.Test.YtloieecpgndbhaaGreatKpA
import Derived.Test.YtloieecpgndbhaaGreatMoE
namespace Go.Proofs.YtloieecpgndbhaaGreat.Kd
open Go.RowKit By CoP Co Mo

theorem flatPut_le (k : Kd) (ds : List Data) (j : Nat) (h : j < ds.length) : ((ds.take j).flatMap k.put).length + (k.put ds[j]).length ≤ (ds.flatMap k.put).length := by
  have e : ds.flatMap k.put = (ds.take j).flatMap k.put ++ (k.put ds[j] ++ (ds.drop (j + 1)).flatMap k.put) := by
    conv => lhs; rw [← List.take_append_drop j ds, List.drop_eq_getElem_cons h]
    rw [List.flatMap_append, List.flatMap_cons]
  rw [e, List.length_append, List.length_append]
  omega
theorem flatPut_take_le (k : Kd) (ds : List Data) (j : Nat) : ((ds.take j).flatMap k.put).length ≤ (ds.flatMap k.put).length := by
  conv => rhs; rw [← List.take_append_drop j ds]
  rw [List.flatMap_append, List.length_append]
  omega
set_option maxRecDepth 100000 in
set_option maxHeartbeats 2000000 in
theorem msgOut_any (w : World) (kd fr tt : Int) (tm ix lt cm rd : Nat) (ok : Bool) (Ae : Option Addr) (en ce : Nat) (es : List Data) (A : Option Addr) (vn c : Nat) (vs : List Int) (A2 : Option Addr) (ln c2 : Nat) (ls : List Int) (fo : Int) (A3 : Option Addr) (dn c3 : Nat) (da : List UInt8)
    (ht : tm < 18446744073709551616 ∧ ix < 18446744073709551616 ∧ lt < 18446744073709551616 ∧ cm < 18446744073709551616 ∧ rd < 18446744073709551616)
    (hen : en = es.length) (hel : en ≤ 9437184) (he : entsK.rep w (Old w) [.slice Ae en ce] (.agg es)) (hvn : vn = vs.length) (hv : LiesI w w.heap.size A vs) (hln : ln = ls.length) (hl : LiesI w w.heap.size A2 ls) (hdn : dn = da.length) (hd : Lies w w.heap.size A3 da)
    (hsz : (es.flatMap entryK.put).length ≤ 9437184 ∧ vs.length ≤ 9437184 ∧ ls.length ≤ 9437184 ∧ da.length ≤ 9437184) :
    Calls Tryz.prog 31 #[.agg #[.int .i64 kd, .int .i64 fr, .int .i64 tt, .int .u64 (tm : Int), .int .u64 (ix : Int), .int .u64 (lt : Int), .int .u64 (cm : Int), .int .u64 (rd : Int), .bool ok, .slice Ae en ce, .slice A vn c, .slice A2 ln c2, .int .i64 fo, .slice A3 dn c3]] w (Gives w.heap.size (putNum (u64N kd) ++ putNum (u64N fr) ++ putNum (u64N tt) ++ putNum tm ++ putNum ix ++ putNum lt ++ putNum cm ++ putNum rd ++ putNum (flagN ok) ++ (putNum es.length ++ es.flatMap entryK.put) ++ putConf vs ls ++ putNum (u64N fo) ++ putBytes da) w) := by
  obtain ⟨h3, h4, h5, h6, h7⟩ := ht
  have HEN := Lib.hid hen
  have HE := Lib.hid he
  have HVN := Lib.hid hvn
  have HV := Lib.hid hv
  have HLN := Lib.hid hln
  have HL := Lib.hid hl
  have HDN := Lib.hid hdn
  have HD := Lib.hid hd
  have HSZ := Lib.hid hsz
  clear hen he hvn hv hln hl hdn hd hsz
  have hb0 : Below w.heap.size w (w.alloc (.cells #[.int .i64 kd, .int .i64 fr, .int .i64 tt, .int .u64 (tm : Int), .int .u64 (ix : Int), .int .u64 (lt : Int), .int .u64 (cm : Int), .int .u64 (rd : Int), .bool ok, .slice Ae en ce, .slice A vn c, .slice A2 ln c2, .int .i64 fo, .slice A3 dn c3] 55)) := (Below.refl _ _).alloc (Nat.le_refl _) _
  have hz := hb0.size
  have hb1 : Below w.heap.size w ((w.alloc (.cells #[.int .i64 kd, .int .i64 fr, .int .i64 tt, .int .u64 (tm : Int), .int .u64 (ix : Int), .int .u64 (lt : Int), .int .u64 (cm : Int), .int .u64 (rd : Int), .bool ok, .slice Ae en ce, .slice A vn c, .slice A2 ln c2, .int .i64 fo, .slice A3 dn c3] 55)).alloc (.cells #[.slice none 0 0] 152)) := hb0.alloc hz _
  have hrow0 : ((w.alloc (.cells #[.int .i64 kd, .int .i64 fr, .int .i64 tt, .int .u64 (tm : Int), .int .u64 (ix : Int), .int .u64 (lt : Int), .int .u64 (cm : Int), .int .u64 (rd : Int), .bool ok, .slice Ae en ce, .slice A vn c, .slice A2 ln c2, .int .i64 fo, .slice A3 dn c3] 55)).alloc (.cells #[.slice none 0 0] 152)).heap[w.heap.size]? = some (.cells #[.int .i64 kd, .int .i64 fr, .int .i64 tt, .int .u64 (tm : Int), .int .u64 (ix : Int), .int .u64 (lt : Int), .int .u64 (cm : Int), .int .u64 (rd : Int), .bool ok, .slice Ae en ce, .slice A vn c, .slice A2 ln c2, .int .i64 fo, .slice A3 dn c3] 55 (0, 0)) := heap_alloc2_old w _ _
  have ho0 : OutAt w.heap.size (w.heap.size + 1) ((w.alloc (.cells #[.int .i64 kd, .int .i64 fr, .int .i64 tt, .int .u64 (tm : Int), .int .u64 (ix : Int), .int .u64 (lt : Int), .int .u64 (cm : Int), .int .u64 (rd : Int), .bool ok, .slice Ae en ce, .slice A vn c, .slice A2 ln c2, .int .i64 fo, .slice A3 dn c3] 55)).alloc (.cells #[.slice none 0 0] 152)) [] := ⟨_, Nat.le_succ _, heap_alloc2_new _ _ _, Own.nil _ _⟩
  have hz0 : w.heap.size ≤ ((w.alloc (.cells #[.int .i64 kd, .int .i64 fr, .int .i64 tt, .int .u64 (tm : Int), .int .u64 (ix : Int), .int .u64 (lt : Int), .int .u64 (cm : Int), .int .u64 (rd : Int), .bool ok, .slice Ae en ce, .slice A vn c, .slice A2 ln c2, .int .i64 fo, .slice A3 dn c3] 55)).alloc (.cells #[.slice none 0 0] 152)).heap.size := hb1.size
  have HROW0 := Lib.hid hrow0
  have HO0 := Lib.hid ho0
  have HB0 := Lib.hid hb1
  clear hrow0 hb0 hb1 ho0 hz
  go_enter Tryz.func31, Tryz.ntmps31
  go_wp2_with fail
  refine (outNum_any w.heap.size (w.heap.size + 1) (u64N kd) _ (by rw [u64N_eq]; rfl) (u64N_lt kd) [] _ HO0.out (by omega) (by (try simp only [List.length_nil]); omega)).mono ?_
  rintro e w1 ⟨rfl, ho1, hb1, ht1⟩
  obtain ⟨acc1, e1⟩ : ∃ x, x = [] ++ putNum (u64N kd) := ⟨_, rfl⟩
  rw [← e1] at ho1
  have hl1 : acc1.length ≤ 0 + 9 := by
    rw [e1, List.length_append]
    have := putNum_len (u64N kd) (u64N_lt kd)
    simp only [List.length_nil]; omega
  have hrow1 := ht1 _ _ _ _ HROW0.out (by decide) (by decide)
  have hc1x1 : w1.cell? ⟨w.heap.size, 1, none⟩ = some (.int .i64 fr) := by rw [cell_of_row w1 w.heap.size 1 _ _ _ hrow1]; rfl
  have hz1 := hb1.size
  have HROW1 := Lib.hid hrow1
  have HO1 := Lib.hid ho1
  have HB1 := Lib.hid (HB0.out.trans hb1)
  have E1 := Lib.hid e1
  clear hrow1 ho1 ht1 hb1 e1
  go_wp2_with fail
  refine (outNum_any w.heap.size (w.heap.size + 1) (u64N fr) _ (by rw [u64N_eq]; rfl) (u64N_lt fr) acc1 _ HO1.out (by omega) (by (try simp only [List.length_nil]); omega)).mono ?_
  rintro e w2 ⟨rfl, ho2, hb2, ht2⟩
  obtain ⟨acc2, e2⟩ : ∃ x, x = acc1 ++ putNum (u64N fr) := ⟨_, rfl⟩
  rw [← e2] at ho2
  have hl2 : acc2.length ≤ acc1.length + 9 := by
    rw [e2, List.length_append]
    have := putNum_len (u64N fr) (u64N_lt fr)
    omega
  have hrow2 := ht2 _ _ _ _ HROW1.out (by decide) (by decide)
  have hc2x2 : w2.cell? ⟨w.heap.size, 2, none⟩ = some (.int .i64 tt) := by rw [cell_of_row w2 w.heap.size 2 _ _ _ hrow2]; rfl
  have hz2 := hb2.size
  have HROW2 := Lib.hid hrow2
  have HO2 := Lib.hid ho2
  have HB2 := Lib.hid (HB1.out.trans hb2)
  have E2 := Lib.hid e2
  clear hrow2 ho2 ht2 hb2 e2
  go_wp2_with fail
  refine (outNum_any w.heap.size (w.heap.size + 1) (u64N tt) _ (by rw [u64N_eq]; rfl) (u64N_lt tt) acc2 _ HO2.out (by omega) (by (try simp only [List.length_nil]); omega)).mono ?_
  rintro e w3 ⟨rfl, ho3, hb3, ht3⟩
  obtain ⟨acc3, e3⟩ : ∃ x, x = acc2 ++ putNum (u64N tt) := ⟨_, rfl⟩
  rw [← e3] at ho3
  have hl3 : acc3.length ≤ acc2.length + 9 := by
    rw [e3, List.length_append]
    have := putNum_len (u64N tt) (u64N_lt tt)
    omega
  have hrow3 := ht3 _ _ _ _ HROW2.out (by decide) (by decide)
  have hc3x3 : w3.cell? ⟨w.heap.size, 3, none⟩ = some (.int .u64 (tm : Int)) := by rw [cell_of_row w3 w.heap.size 3 _ _ _ hrow3]; rfl
  have hz3 := hb3.size
  have HROW3 := Lib.hid hrow3
  have HO3 := Lib.hid ho3
  have HB3 := Lib.hid (HB2.out.trans hb3)
  have E3 := Lib.hid e3
  clear hrow3 ho3 ht3 hb3 e3
  go_wp2_with fail
  refine (outNum_any w.heap.size (w.heap.size + 1) tm _ rfl h3 acc3 _ HO3.out (by omega) (by (try simp only [List.length_nil]); omega)).mono ?_
  rintro e w4 ⟨rfl, ho4, hb4, ht4⟩
  obtain ⟨acc4, e4⟩ : ∃ x, x = acc3 ++ putNum tm := ⟨_, rfl⟩
  rw [← e4] at ho4
  have hl4 : acc4.length ≤ acc3.length + 9 := by
    rw [e4, List.length_append]
    have := putNum_len tm h3
    omega
  have hrow4 := ht4 _ _ _ _ HROW3.out (by decide) (by decide)
  have hc4x4 : w4.cell? ⟨w.heap.size, 4, none⟩ = some (.int .u64 (ix : Int)) := by rw [cell_of_row w4 w.heap.size 4 _ _ _ hrow4]; rfl
  have hz4 := hb4.size
  have HROW4 := Lib.hid hrow4
  have HO4 := Lib.hid ho4
  have HB4 := Lib.hid (HB3.out.trans hb4)
  have E4 := Lib.hid e4
  clear hrow4 ho4 ht4 hb4 e4
  go_wp2_with fail
  refine (outNum_any w.heap.size (w.heap.size + 1) ix _ rfl h4 acc4 _ HO4.out (by omega) (by (try simp only [List.length_nil]); omega)).mono ?_
  rintro e w5 ⟨rfl, ho5, hb5, ht5⟩
  obtain ⟨acc5, e5⟩ : ∃ x, x = acc4 ++ putNum ix := ⟨_, rfl⟩
  rw [← e5] at ho5
  have hl5 : acc5.length ≤ acc4.length + 9 := by
    rw [e5, List.length_append]
    have := putNum_len ix h4
    omega
  have hrow5 := ht5 _ _ _ _ HROW4.out (by decide) (by decide)
  have hc5x5 : w5.cell? ⟨w.heap.size, 5, none⟩ = some (.int .u64 (lt : Int)) := by rw [cell_of_row w5 w.heap.size 5 _ _ _ hrow5]; rfl
  have hz5 := hb5.size
  have HROW5 := Lib.hid hrow5
  have HO5 := Lib.hid ho5
  have HB5 := Lib.hid (HB4.out.trans hb5)
  have E5 := Lib.hid e5
  clear hrow5 ho5 ht5 hb5 e5
  go_wp2_with fail
  refine (outNum_any w.heap.size (w.heap.size + 1) lt _ rfl h5 acc5 _ HO5.out (by omega) (by (try simp only [List.length_nil]); omega)).mono ?_
  rintro e w6 ⟨rfl, ho6, hb6, ht6⟩
  obtain ⟨acc6, e6⟩ : ∃ x, x = acc5 ++ putNum lt := ⟨_, rfl⟩
  rw [← e6] at ho6
  have hl6 : acc6.length ≤ acc5.length + 9 := by
    rw [e6, List.length_append]
    have := putNum_len lt h5
    omega
  have hrow6 := ht6 _ _ _ _ HROW5.out (by decide) (by decide)
  have hc6x6 : w6.cell? ⟨w.heap.size, 6, none⟩ = some (.int .u64 (cm : Int)) := by rw [cell_of_row w6 w.heap.size 6 _ _ _ hrow6]; rfl
  have hz6 := hb6.size
  have HROW6 := Lib.hid hrow6
  have HO6 := Lib.hid ho6
  have HB6 := Lib.hid (HB5.out.trans hb6)
  have E6 := Lib.hid e6
  clear hrow6 ho6 ht6 hb6 e6
  go_wp2_with fail
  refine (outNum_any w.heap.size (w.heap.size + 1) cm _ rfl h6 acc6 _ HO6.out (by omega) (by (try simp only [List.length_nil]); omega)).mono ?_
  rintro e w7 ⟨rfl, ho7, hb7, ht7⟩
  obtain ⟨acc7, e7⟩ : ∃ x, x = acc6 ++ putNum cm := ⟨_, rfl⟩
  rw [← e7] at ho7
  have hl7 : acc7.length ≤ acc6.length + 9 := by
    rw [e7, List.length_append]
    have := putNum_len cm h6
    omega
  have hrow7 := ht7 _ _ _ _ HROW6.out (by decide) (by decide)
  have hc7x7 : w7.cell? ⟨w.heap.size, 7, none⟩ = some (.int .u64 (rd : Int)) := by rw [cell_of_row w7 w.heap.size 7 _ _ _ hrow7]; rfl
  have hz7 := hb7.size
  have HROW7 := Lib.hid hrow7
  have HO7 := Lib.hid ho7
  have HB7 := Lib.hid (HB6.out.trans hb7)
  have E7 := Lib.hid e7
  clear hrow7 ho7 ht7 hb7 e7
  go_wp2_with fail
  refine (outNum_any w.heap.size (w.heap.size + 1) rd _ rfl h7 acc7 _ HO7.out (by omega) (by (try simp only [List.length_nil]); omega)).mono ?_
  rintro e w8 ⟨rfl, ho8, hb8, ht8⟩
  obtain ⟨acc8, e8⟩ : ∃ x, x = acc7 ++ putNum rd := ⟨_, rfl⟩
  rw [← e8] at ho8
  have hl8 : acc8.length ≤ acc7.length + 9 := by
    rw [e8, List.length_append]
    have := putNum_len rd h7
    omega
  have hrow8 := ht8 _ _ _ _ HROW7.out (by decide) (by decide)
  have hc8x8 : w8.cell? ⟨w.heap.size, 8, none⟩ = some (.bool ok) := by rw [cell_of_row w8 w.heap.size 8 _ _ _ hrow8]; rfl
  have hz8 := hb8.size
  have HROW8 := Lib.hid hrow8
  have HO8 := Lib.hid ho8
  have HB8 := Lib.hid (HB7.out.trans hb8)
  have E8 := Lib.hid e8
  clear hrow8 ho8 ht8 hb8 e8
  go_wp2_with fail
  refine (outFlag_any w.heap.size (w.heap.size + 1) ok acc8 _ HO8.out (by omega) (by (try simp only [List.length_nil]); omega)).mono ?_
  rintro e w9 ⟨rfl, ho9, hb9, ht9⟩
  obtain ⟨acc9, e9⟩ : ∃ x, x = acc8 ++ putNum (flagN ok) := ⟨_, rfl⟩
  rw [← e9] at ho9
  have hl9 : acc9.length ≤ acc8.length + 9 := by
    rw [e9, List.length_append]
    have := putNum_len (flagN ok) (by cases ok <;> decide)
    omega
  have hrow9 := ht9 _ _ _ _ HROW8.out (by decide) (by decide)
  have hc9x9 : w9.cell? ⟨w.heap.size, 9, none⟩ = some (.slice Ae en ce) := by rw [cell_of_row w9 w.heap.size 9 _ _ _ hrow9]; rfl
  have hz9 := hb9.size
  have HROW9 := Lib.hid hrow9
  have HO9 := Lib.hid ho9
  have HB9 := Lib.hid (HB8.out.trans hb9)
  have E9 := Lib.hid e9
  clear hrow9 ho9 ht9 hb9 e9
  go_wp2_with fail
  refine (outNum_any w.heap.size (w.heap.size + 1) en _ rfl (by omega) acc9 _ HO9.out (by omega) (by (try simp only [List.length_nil]); omega)).mono ?_
  rintro e w10 ⟨rfl, ho10, hb10, ht10⟩
  obtain ⟨acc10, e10⟩ : ∃ x, x = acc9 ++ putNum en := ⟨_, rfl⟩
  rw [← e10] at ho10
  have hl10 : acc10.length ≤ acc9.length + 9 := by
    rw [e10, List.length_append]
    have := putNum_len en (by omega)
    omega
  have hrow10 := ht10 _ _ _ _ HROW9.out (by decide) (by decide)
  have hc10x9 : w10.cell? ⟨w.heap.size, 9, none⟩ = some (.slice Ae en ce) := by rw [cell_of_row w10 w.heap.size 9 _ _ _ hrow10]; rfl
  have hz10 := hb10.size
  have HROW10 := Lib.hid hrow10
  have HO10 := Lib.hid ho10
  have HB10 := Lib.hid (HB9.out.trans hb10)
  have E10 := Lib.hid e10
  clear hrow10 ho10 ht10 hb10 e10
  have hq10 : acc10.length ≤ 90 := by omega
  clear hc10x9 hl1 hl2 hl3 hl4 hl5 hl6 hl7 hl8 hl9 hl10
  have hc9 : ∀ w' : World, w'.heap[w.heap.size]? = some (.cells #[.int .i64 kd, .int .i64 fr, .int .i64 tt, .int .u64 (tm : Int), .int .u64 (ix : Int), .int .u64 (lt : Int), .int .u64 (cm : Int), .int .u64 (rd : Int), .bool ok, .slice Ae en ce, .slice A vn c, .slice A2 ln c2, .int .i64 fo, .slice A3 dn c3] 55 (0, 0)) → w'.cell? ⟨w.heap.size, 9, none⟩ = some (.slice Ae en ce) := fun w' h => by rw [cell_of_row w' w.heap.size 9 _ _ _ h]; rfl
  have HC9 := Lib.hid hc9
  have hx9 := hc9 _ HROW10.out
  clear hc9
  go_wp2
  clear hx9
  go_loopw [4] (fun i wr => ∃ j : Nat, j ≤ en ∧ i = .int .i64 (j : Int) ∧ OutAt w.heap.size (w.heap.size + 1) wr (acc10 ++ (es.take j).flatMap entryK.put) ∧ Below w.heap.size w wr ∧ wr.heap[w.heap.size]? = some (.cells #[.int .i64 kd, .int .i64 fr, .int .i64 tt, .int .u64 (tm : Int), .int .u64 (ix : Int), .int .u64 (lt : Int), .int .u64 (cm : Int), .int .u64 (rd : Int), .bool ok, .slice Ae en ce, .slice A vn c, .slice A2 ln c2, .int .i64 fo, .slice A3 dn c3] 55 (0, 0))) (fun i _ => en - (intOf i).toNat)
  case atStart => exact ⟨0, Nat.zero_le _, rfl, by simpa using HO10.out, HB10.out, HROW10.out⟩
  case round =>
    obtain ⟨j, hj, rfl, ho, hbw, hrw⟩ := hrel
    have hz := hbw.size
    have HOW := Lib.hid ho
    have HBW := Lib.hid hbw
    have HRW := Lib.hid hrw
    have hx9 := HC9.out _ hrw
    clear ho hbw hrw
    by_cases hjn : j < en
    · have hjl : j < es.length := by have := HEN.out; omega
      obtain ⟨Aq, cq, eq, q1, q2, _, _, q3⟩ := HE.out
      obtain rfl := Data.agg.inj q2
      simp only [List.cons.injEq, Value.slice.injEq, and_true] at q1
      obtain ⟨rfl, -, rfl⟩ := q1
      obtain ⟨g, o, rfl, hg, hcells⟩ := q3 (by omega)
      obtain ⟨xs, hxs, hrd⟩ := hcells j es[j] (List.getElem?_eq_getElem hjl)
      have HLE := Lib.hid (flatPut_le entryK es j hjl)
      have HSUC := Lib.hid (show acc10 ++ (es.take (j + 1)).flatMap entryK.put = acc10 ++ (es.take j).flatMap entryK.put ++ entryK.put es[j] by
        rw [List.take_succ_eq_append_getElem hjl]
        simp only [List.flatMap_append, List.flatMap_cons, List.flatMap_nil, List.append_nil, List.append_assoc])
      generalize es[j] = d at hxs HLE HSUC
      obtain ⟨eix, etm, ekd, edl, Ad, cd, eda, rfl, rfl, b1, b2, _, _, b5, b6, hlies⟩ := entry_shape hxs
      have hcell : ∀ (q : Nat) (v : Value), [Value.int .u64 (eix : Int), .int .u64 (etm : Int), .int .i64 ekd, .int .i64 edl, .slice Ad eda.length cd][q]? = some v → wr.cell? ⟨g, o + j * 5 + q, none⟩ = some v := fun q v h => (HBW.out.cell (p := ⟨g, o + j * 5 + q, none⟩) (block_lt_of_cell (hrd q v h))).trans (hrd q v h)
      have x0 : wr.cell? ⟨g, o + j * 5, none⟩ = some (.int .u64 (eix : Int)) := hcell 0 _ rfl
      have x1 : wr.cell? ⟨g, o + j * 5 + 1, none⟩ = some (.int .u64 (etm : Int)) := hcell 1 _ rfl
      have x2 : wr.cell? ⟨g, o + j * 5 + 2, none⟩ = some (.int .i64 ekd) := hcell 2 _ rfl
      have x3 : wr.cell? ⟨g, o + j * 5 + 3, none⟩ = some (.int .i64 edl) := hcell 3 _ rfl
      have x4 : wr.cell? ⟨g, o + j * 5 + 4, none⟩ = some (.slice Ad eda.length cd) := hcell 4 _ rfl
      have HLD := Lib.hid hlies.lies
      have hpe : eda.length ≤ (entryK.put (entryD eix etm ekd edl eda)).length := by
        rw [entry_put]
        simp only [putEntry, putBytes, List.length_append]; omega
      have HPE := Lib.hid hpe
      have HNL := Lib.hid (show eda.length = eda.length from rfl)
      generalize hel2 : eda.length = eln at HNL x4 hcell hpe
      have HEL := Lib.hid hel2.symm
      clear hlies hcell hrd hcells hxs q3 q2 hpe hel2 HNL
      go_wp2_with fail
      refine (outEntry_any w.heap.size (w.heap.size + 1) w.heap.size _ eix b1 etm b2 ekd edl Ad eln cd eda HEL.out (HLD.out.below HBW.out) (Nat.le_refl _) _ HOW.out (by omega) (by have h1 := HLE.out; have h2 := HSZ.out; have h3 := HPE.out; rw [List.length_append]; omega)).mono ?_
      rintro e w2 ⟨rfl, ho2, hb2, ht2⟩
      rw [← entry_put, ← HSUC.out] at ho2
      have HO2 := Lib.hid ho2
      have HB2 := Lib.hid (HBW.out.trans hb2)
      have HT2 := Lib.hid (ht2 _ _ _ _ HRW.out (by decide) (by decide))
      clear ho2 hb2 ht2 x0 x1 x2 x3 x4 hx9
      go_wp2
      go_roundw
      case rel => exact ⟨j + 1, by omega, by go_num, HO2.out, HB2.out, HT2.out⟩
      case measure => simp [intOf]; omega
    · obtain rfl : j = en := by omega
      have htk : es.take j = es := List.take_of_length_le (by have := HEN.out; omega)
      have ho11 := HOW.out
      rw [htk] at ho11
      obtain ⟨acc11, e11⟩ : ∃ x, x = acc10 ++ es.flatMap entryK.put := ⟨_, rfl⟩
      rw [← e11] at ho11
      have hl11 : acc11.length ≤ 90 + 9437184 := by
        have := HSZ.out
        rw [e11, List.length_append]; omega
      have HO11 := Lib.hid ho11
      have E11 := Lib.hid e11
      have HROW11 := HRW
      have HB11 := HBW
      have hc11x10 : wr.cell? ⟨w.heap.size, 10, none⟩ = some (.slice A vn c) := by rw [cell_of_row _ w.heap.size 10 _ _ _ HRW.out]; rfl
      have hc11x11 : wr.cell? ⟨w.heap.size, 10 + 1, none⟩ = some (.slice A2 ln c2) := by rw [cell_of_row _ w.heap.size 11 _ _ _ HRW.out]; rfl
      clear ho11 e11 htk
      go_wp2_with fail
      refine (outConf_any w.heap.size (w.heap.size + 1) w.heap.size _ A vn c vs HVN.out (HV.out.below HB11.out) A2 ln c2 ls HLN.out (HL.out.below HB11.out) (Nat.le_refl _) acc11 HO11.out (by omega) (by have := HSZ.out; omega)).mono ?_
      rintro e w12 ⟨rfl, ho12, hb12, ht12⟩
      obtain ⟨acc12, e12⟩ : ∃ x, x = acc11 ++ putConf vs ls := ⟨_, rfl⟩
      rw [← e12] at ho12
      have hl12 : acc12.length ≤ acc11.length + (9 * vs.length + 9 * ls.length + 18) := by
        rw [e12, List.length_append]
        have := putConf_len vs ls (by have := HSZ.out; omega) (by have := HSZ.out; omega)
        omega
      have hrow12 := ht12 _ _ _ _ HROW11.out (by decide) (by decide)
      have hc12x12 : w12.cell? ⟨w.heap.size, 12, none⟩ = some (.int .i64 fo) := by rw [cell_of_row w12 w.heap.size 12 _ _ _ hrow12]; rfl
      have hz12 := hb12.size
      have HROW12 := Lib.hid hrow12
      have HO12 := Lib.hid ho12
      have HB12 := Lib.hid (HB11.out.trans hb12)
      have E12 := Lib.hid e12
      clear hrow12 ho12 ht12 hb12 e12
      go_wp2_with fail
      refine (outNum_any w.heap.size (w.heap.size + 1) (u64N fo) _ (by rw [u64N_eq]; rfl) (u64N_lt fo) acc12 _ HO12.out (by omega) (by have := HSZ.out; omega)).mono ?_
      rintro e w13 ⟨rfl, ho13, hb13, ht13⟩
      obtain ⟨acc13, e13⟩ : ∃ x, x = acc12 ++ putNum (u64N fo) := ⟨_, rfl⟩
      rw [← e13] at ho13
      have hl13 : acc13.length ≤ acc12.length + 9 := by
        rw [e13, List.length_append]
        have := putNum_len (u64N fo) (u64N_lt fo)
        omega
      have hrow13 := ht13 _ _ _ _ HROW12.out (by decide) (by decide)
      have hc13x13 : w13.cell? ⟨w.heap.size, 13, none⟩ = some (.slice A3 dn c3) := by rw [cell_of_row w13 w.heap.size 13 _ _ _ hrow13]; rfl
      have hz13 := hb13.size
      have HROW13 := Lib.hid hrow13
      have HO13 := Lib.hid ho13
      have HB13 := Lib.hid (HB12.out.trans hb13)
      have E13 := Lib.hid e13
      clear hrow13 ho13 ht13 hb13 e13
      go_wp2_with fail
      refine (outData_any w.heap.size (w.heap.size + 1) A3 dn c3 w.heap.size da HDN.out acc13 _ (HD.out.below HB13.out) (by omega) HO13.out (by omega) (by have := HSZ.out; omega)).mono ?_
      rintro e w14 ⟨rfl, ho14, hb14, ht14⟩
      have HB14 := Lib.hid (HB13.out.trans hb14)
      obtain ⟨v, hg, hrw, hown⟩ := ho14
      have hc : w14.cell? ⟨w.heap.size + 1, 0, none⟩ = some v := by rw [cell_of_row w14 _ 0 _ _ _ hrw]; rfl
      have HOWN := Lib.hid hown
      clear hrw hown hb14 ht14 hg
      go_wp2
      go_ret
      have h := HOWN.out
      rw [E13.out, E12.out, E11.out, E10.out, E9.out, E8.out, E7.out, E6.out, E5.out, E4.out, E3.out, E2.out, E1.out, HEN.out] at h
      refine ⟨v, rfl, ?_, HB14.out⟩
      simpa only [List.append_assoc, List.nil_append] using h
end Go.Proofs.YtloieecpgndbhaaGreat.Kd
