/- Package wal: Append to an empty log, as a contract of a call. -/
import Derived.Test.YtnjifhbooikdbaaGreatDoorWaG
import Derived.Deep.RegionLaw
namespace Go.Proofs.YtnjifhbooikdbaaGreatDoor.Wa
open Go.RowKit Go.Maps By Mp Dk

theorem sInfo : (Tryz.prog.info? tSeg).map (fun i => (i.zero, i.size, i.bytes)) = some (some (.agg #[.int .u64 0, .int .u64 0, .bool false, .slice none 0 0]), 4, 48) := by kernel_rfl
theorem step_appS {ops : Array Oper} {o : Oper} {a : Act} {w : World} {K : Act → World → Prop} {Q : Exit → Act → World → Prop} {E : Prop} (hgd : o.guard = none) (s x : Operand) (hop : o.op = .call { callee := .builtin .append, args := #[s, x], argTypes := #[tSegs, tSegs] })
    (base : Nat) (v : Value) (n : Nat) (xs : List Value) (hs : a.eval s = v) (hown : w.ownsRow base tSeg 4 v n xs) (ad : Addr) (hx : a.eval x = .slice (some ad) 1 1) (news : List Value) (hl : news.length = 4) (hnews : ∀ j u, news[j]? = some u → w.cell? (ad.add j) = some u) (h1 : ∀ u ∈ news, u.oneCell' = true)
    (hn : n ≤ 1099511627776) (hbase : base ≤ w.heap.size)
    (hK : ∀ v' w', w'.ownsRow base tSeg 4 v' (n + 1) (xs ++ news) → w.grownBy w' v.ownBlock → K (a.put o.dst v') w') : if Region.wanted o (yielded ops a.tmps) = true then Oper.wp Tryz.prog o a w K Q else E := by
  have hw : Region.wanted o (yielded ops a.tmps) = true := by simp [Region.wanted, hgd]
  rw [if_pos hw]
  obtain ⟨i0, hi, hz0, hz1, hz2⟩ := info_parts sInfo
  obtain ⟨v', w', hrun, h2, h3, _⟩ := run_append_own (P := Tryz.prog) w base tSegs o.type tSeg i0 _ 4 48 Tryz.underlying47 hi hz0 hz1 hz2 rfl (by decide) v n xs hown ad 1 1 news (by omega) hnews h1 (by unfold maxLen; omega) (by omega) hbase
  exact wp_app_run s x _ hop hs hx hrun (hK v' w' h2 h3)
theorem seg0_name : seg0.name = [119, 46, 48, 46, 49, 46, 98] := by
  unfold Seg.name seg0
  dsimp only
  rw [b36_lt (by decide), b36_lt (by decide)]
  rfl
def AppPost (g d : Nat) (l' : List Seg) (s' : DS) (S T : Nat → Prop) (w : World) (e : Ending) (w' : World) : Prop := e = .returned (.int .i64 0) ∧ ∃ S' T', DiskAt w' d s' S' ∧ LogAt w' g d l' false T' ∧ (∀ b, T' b → S' b → False) ∧ (∀ b, S' b → S b ∨ w.heap.size ≤ b) ∧ (∀ b, T' b → T b ∨ w.heap.size ≤ b) ∧ Kept (fun b => S b ∨ T b) w w'
theorem dlt {w : World} {d : Nat} {s : DS} {S : Nat → Prop} (h : DiskAt w d s S) : (∀ b, S b → b < w.heap.size) ∧ S d ∧ s.Ok := by
  obtain ⟨bm, sm, pb, ps, v, h⟩ := h
  exact ⟨h.lt, h.subg, h.ok⟩
theorem rowCells {w : World} {base : Nat} {e : TypeId} {sz n : Nat} {A : Option Addr} {c : Nat} {xs : List Value} (h : w.ownsRow base e sz (.slice A n c) n xs) (hp : 0 < n) : ∃ a, A = some a ∧ ∀ j u, xs[j]? = some u → w.cell? (a.add j) = some u := by
  rcases h.2 with ⟨h1, h2⟩ | ⟨g, cap, cur, hv, hb, hg, hn, hm, hs, ht⟩
  · omega
  · injection hv with h1 h2 h3
    subst h1
    refine ⟨_, rfl, fun j u hj => ?_⟩
    rw [plainAdd, Nat.zero_add, cell_of_row w g j _ _ _ hg]
    rw [← ht, List.getElem?_take] at hj
    split at hj
    · simpa using hj
    · cases hj
theorem put_frames {d : Nat} {s : DS} {S : Nat → Prop} {nm : Bs} {off : Int} {D : Bs} {A : Option Addr} {c B : Nat} {w4 w7 : World} (hd7 : DiskAt w7 d s S) (hcnt : s.cnt ≤ 68719476736) (hdl : d < B) (hod : Own B w4 (.slice A D.length c) D) (hb : Below w4.heap.size w4 w7) (hc : D.length ≤ c) (hD : D.length ≤ 140737488355328) (hn : nm.length ≤ 140737488355328) (her : chgE s 1 nm off D = 0) :
    Calls Tryz.prog 23 #[.pointer (some ⟨d, 0, none⟩), .string (str nm), .int .i64 off, .slice A D.length c] w7 (DStep (.int .i64 0) d (chgS s 1 nm off D) S w7) := by
  have hl7 : LiesS w7 (fun b => B ≤ b ∧ b < w4.heap.size) A D := (lies8 hod).keep (fun b h => hb.block b h.2.1) (fun b h => ⟨h.1, h.2.1⟩)
  have hz := hb.size
  have hput := put_any d s S nm off D A D.length c w7 hd7 hcnt hD hn rfl hc (fun b => B ≤ b ∧ b < w4.heap.size) (fun b h => ⟨by omega, by omega⟩) hl7
  rw [her] at hput
  exact hput
/-- The log behind its first Append. -/
theorem appended {w w8 w10 w11 : World} {g d x : Nat} {s8 : DS} {S T S8 : Nat → Prop} {ls : List Bs} {A9 A11 : Option Addr} {c9 c11 : Nat} (hn : ls.length ≤ 1099511627776) (_hgx : g ≠ x) (hg : g < w.heap.size) (_hx8 : x < w8.heap.size) (hxw : w.heap.size ≤ x) (hTg : T g)
    (hd8 : DiskAt w8 d s8 S8) (hS8 : ∀ b, S8 b → b ≠ x ∧ b ≠ g ∧ (S b ∨ w.heap.size ≤ b)) (hk8 : Kept (fun b => S b ∨ T b) w w8) (hk10 : Kept (fun b => b = x) w8 w10)
    (ho10 : w10.ownsRow w8.heap.size 3 1 (.slice A9 ls.length c9) ls.length (ints (endsOf 0 ls))) (hg11 : (w10.alloc (.cells #[.int .u64 0, .int .u64 1, .bool true, .slice A9 ls.length c9] 59)).drew.grownBy w11 none)
    (ho11 : w11.ownsRow w10.heap.size tSeg 4 (.slice A11 1 c11) 1 [Value.int .u64 0, .int .u64 1, .bool true, .slice A9 ls.length c9]) (hr11 : w11.heap[g]? = some (.cells #[.pointer (some ⟨d, 0, none⟩), .slice none 0 0, .bool false] tLog (0, 0))) :
    AppPost g d [⟨0, 1, true, endsOf 0 ls⟩] s8 S T w (.returned (.int .i64 0)) (w11.setCell ⟨g, 1, none⟩ (.slice A11 1 c11)) := by
  have hz8 := hk8.size
  have hz10 := hk10.size
  have hza : (w10.alloc (.cells #[.int .u64 0, .int .u64 1, .bool true, .slice A9 ls.length c9] 59)).drew.heap.size = w10.heap.size + 1 := World.size_alloc w10 _
  have hz11 := hg11.size
  rw [hza] at hz11
  have hb11 : ∀ b, b < w10.heap.size → w11.heap[b]? = w10.heap[b]? := fun b hb => (hg11.block b (by rw [hza]; omega) (fun e => by cases e)).trans (heap_alloc_old w10 _ hb)
  have hb12 : ∀ b, b ≠ g → (w11.setCell ⟨g, 1, none⟩ (.slice A11 1 c11)).heap[b]? = w11.heap[b]? := fun b hb => heap_setCell_other w11 ⟨g, 1, none⟩ b _ hb
  have hz12 : (w11.setCell ⟨g, 1, none⟩ (.slice A11 1 c11)).heap.size = w11.heap.size := size_setCell' _ _ _
  have hgw8 : g < w8.heap.size := by omega
  have hall : ∀ b, b < w8.heap.size → b ≠ x → b ≠ g → (w11.setCell ⟨g, 1, none⟩ (.slice A11 1 c11)).heap[b]? = w8.heap[b]? := fun b hb h1 h2 => (hb12 b h2).trans ((hb11 b (by omega)).trans (hk10.block b hb h1))
  have hl8 := dlt hd8
  refine ⟨rfl, S8, fun b => b = g ∨ (Value.slice A11 1 c11).ownBlock = some b ∨ (Value.slice A9 ls.length c9).ownBlock = some b, hd8.keep (fun b hb => hall b (hl8.1 b hb) (hS8 b hb).1 (hS8 b hb).2.1) (by omega), ⟨.slice A11 1 c11, [(A9, c9)], ?_⟩, fun b ht hs => ?_, fun b hb => (hS8 b hb).2.2, fun b hb => ?_, ?_⟩
  · refine ⟨Go.heap_setCell_same w11 g 1 _ _ (.slice A11 1 c11) hr11, rfl, ?_, fun i s a hi ha => ?_, fun i j a b q n m hi hj _ _ => ?_, .inl rfl, fun b hb => .inr (.inl hb), fun i a n q ha hq => ?_, fun b hb => ?_, fun s hs => ?_, by simp⟩
    · have h := ownsRow_base (ownsRow_keep (w' := w11.setCell ⟨g, 1, none⟩ (.slice A11 1 c11)) ho11 (fun b hb => hb12 b (fun e => by have := (ownsRow_lt ho11 hb).1; omega))) (Nat.zero_le _)
      have e : sRow [(⟨0, 1, true, endsOf 0 ls⟩ : Seg)] [(A9, c9)] = [Value.int .u64 0, .int .u64 1, .bool true, .slice A9 ls.length c9] := by
        show [Value.int .u64 ((0 : Nat) : Int), .int .u64 ((1 : Nat) : Int), .bool true, .slice A9 (endsOf 0 ls).length c9] ++ [] = _
        rw [endsOf_length]
        rfl
      rw [e]
      exact h
    · cases i with
      | zero =>
        simp only [List.getElem?_cons_zero, Option.some.injEq] at hi ha
        subst hi
        subst ha
        show World.ownsRow _ 0 3 1 (.slice A9 (endsOf 0 ls).length c9) (endsOf 0 ls).length (ints (endsOf 0 ls))
        rw [endsOf_length]
        refine ownsRow_base (ownsRow_keep ho10 (fun b hb => ?_)) (Nat.zero_le _)
        have h1 := ownsRow_lt ho10 hb
        exact (hb12 b (by omega)).trans (hb11 b h1.2)
      | succ i => simp at hi
    · cases i with
      | zero =>
        cases j with
        | zero => rfl
        | succ j => simp at hj
      | succ i => simp at hi
    · cases i with
      | zero =>
        simp only [List.getElem?_cons_zero, Option.some.injEq] at ha
        subst ha
        refine .inr (.inr ?_)
        rcases A9 with _ | ad
        · cases hq
        · exact hq
      | succ i => simp at ha
    · rcases hb with hb | hb | hb
      · omega
      · have := (ownsRow_lt ho11 hb).2; omega
      · have := (ownsRow_lt ho10 hb).2; omega
    · simp only [List.mem_cons, List.not_mem_nil, or_false] at hs
      subst hs
      exact ⟨by show 1 + (endsOf 0 ls).length < _; rw [endsOf_length]; omega, by show 0 < 18446744073709551616; decide, by show (endsOf 0 ls).length ≤ _; rw [endsOf_length]; exact hn⟩
  · have h1 := hS8 b hs
    have h2 := hl8.1 b hs
    rcases ht with ht | ht | ht
    · exact h1.2.1 ht
    · have := (ownsRow_lt ho11 ht).1; omega
    · have := (ownsRow_lt ho10 ht).1; omega
  · rcases hb with hb | hb | hb
    · exact .inl (hb ▸ hTg)
    · have := (ownsRow_lt ho11 hb).1; exact .inr (by omega)
    · have := (ownsRow_lt ho10 hb).1; exact .inr (by omega)
  · have hk11 : Kept (fun b => b = x) w8 w11 := ((hk10.alloc _).drew).step (M1 := fun _ => False) (Kept.of_grown hg11 (fun k e _ => by cases e)) (fun _ _ e => e.elim)
    have hk12 : Kept (fun b => b = x ∨ b = g) w8 (w11.setCell ⟨g, 1, none⟩ (.slice A11 1 c11)) := (hk11.mono (fun b _ e => .inl e)).setCell (p := ⟨g, 1, none⟩) (fun _ => .inr rfl) _
    exact hk8.step hk12 (fun b hb e => by
      rcases e with e | e
      · omega
      · exact .inr (e ▸ hTg))
set_option maxRecDepth 100000 in
set_option maxHeartbeats 4000000 in
theorem append_first (g d : Nat) (s : DS) (S T : Nat → Prop) (A : Option Addr) (c : Nat) (ls : List Bs) (w : World) (hw : LogW w g d [] false T (.slice none 0 0) []) (hd : DiskAt w d s S) (hsep : ∀ b, T b → S b → False) (hcnt : s.cnt ≤ 68719476736)
    (hr : LiesL w w.heap.size A ls) (h6 : ∀ l ∈ ls, l.length ≤ 65520) (hn : ls.length ≤ 1099511627776) (hne : 0 < ls.length) (ha : (framesB ls).length ≤ 70368744177664) (her : chgE s 1 seg0.name 0 (framesB ls) = 0) :
    Calls Tryz.prog 7 #[.pointer (some ⟨g, 0, none⟩), .slice A ls.length c] w (AppPost g d [⟨0, 1, true, endsOf 0 ls⟩] (chgS s 1 seg0.name 0 (framesB ls)) S T w) := by
  have h : LogAt w g d [] false T := ⟨_, _, hw⟩
  have HLW := Lib.hid hw
  have HLOG := Lib.hid h
  have HD := Lib.hid hd
  have HSEP := Lib.hid hsep
  have HR := Lib.hid hr
  have H6 := Lib.hid h6
  have HA := Lib.hid ha
  have HER := Lib.hid her
  have HWK := Lib.hid (works_any g d [] false T w h)
  have HLA := Lib.hid (last_empty g d false T w h)
  clear h hw hd hsep hr h6 ha her
  go_enter Tryz.func7, Tryz.ntmps7
  go_wp2_with fail
  refine HWK.out.mono ?_
  rintro e w' ⟨rfl, rfl⟩
  go_wp2_with fail
  refine HLA.out.mono ?_
  rintro e w1 ⟨rfl, hb1⟩
  have HB1 := Lib.hid hb1
  clear hb1 HWK HLA
  dsimp only [segV, segC, seg0]
  go_upto_region 5 with fail
  have HX2 := Lib.hid (heap_alloc_new w1 (.cells #[.int .u64 0, .int .u64 1, .bool true, .slice none 0 0] 59))
  have HB2 := Lib.hid (bAlloc HB1.out (.cells #[.int .u64 0, .int .u64 1, .bool true, .slice none 0 0] 59))
  obtain ⟨x, hx⟩ : ∃ x, x = w1.heap.size := ⟨_, rfl⟩
  generalize w1.alloc (.cells #[.int .u64 0, .int .u64 1, .bool true, .slice none 0 0] 59) = w2 at *
  rw [← hx] at HX2 ⊢
  have HXW := Lib.hid (show w.heap.size ≤ x by rw [hx]; exact HB1.out.size)
  clear hx
  have HBX := Lib.hid (fun (w' : World) (hb : Below w2.heap.size w2 w') => box_cells (s := seg0) (A := none) (c := 0) HX2.out hb)
  obtain ⟨b0, b1, b2, b3⟩ := HBX.out w2 (Below.refl _ _)
  dsimp only [seg0] at b0 b1 b2 b3
  have HSZ := Lib.hid (fun w' => seg_size_any seg0 none 0 w' (by decide) (by decide) (fun h => absurd h (by decide)))
  have HNX := Lib.hid (fun w' => seg_next_any seg0 none 0 w' (by decide) (by decide))
  rw [show seg0.size = 0 from rfl] at HSZ
  rw [show seg0.next = 1 from rfl] at HNX
  dsimp only [segV, segC, seg0] at HSZ HNX
  go_wp2_with fail
  refine (HSZ.out _).mono ?_
  rintro e w3 ⟨rfl, hb3⟩
  have HB23 := Lib.hid hb3
  have HB3 := Lib.hid (By.ext HB2.out hb3)
  clear b0 b1 b2 b3 hb3
  have HFR := Lib.hid (frames_any A c 0 ls w3 ((HR.out.below HB3.out).more HB3.out.size) H6.out hn (by have := HA.out; omega))
  go_wp2_with fail
  refine HFR.out.mono ?_
  rintro e w4 ⟨vd, vu, rfl, hod, hou, hb4⟩
  obtain ⟨Ad, cd, hvd, hcd, -, -, hld, -⟩ := hod.form
  obtain ⟨Au, cu, hvu⟩ := ownsRow_form hou
  rw [endsOf_length] at hvu
  subst hvd
  subst hvu
  have HOD := Lib.hid hod
  have HOU := Lib.hid hou
  have HLD := Lib.hid hld
  have HCD := Lib.hid hcd
  have HB34 := Lib.hid hb4
  have HB4 := Lib.hid (By.ext HB3.out hb4)
  have HB24 := Lib.hid (By.ext HB23.out hb4)
  clear hod hou hld hb4 hcd HFR
  obtain ⟨b0, b1, b2, b3⟩ := HBX.out w4 HB24.out
  dsimp only [seg0] at b0 b1 b2 b3
  go_wp2_with fail
  refine (HNX.out _).mono ?_
  rintro e w5 ⟨rfl, hb5⟩
  have HB45 := Lib.hid hb5
  have HB5 := Lib.hid (By.ext HB4.out hb5)
  have HB25 := Lib.hid (By.ext HB24.out hb5)
  clear b0 b1 b2 b3 hb5
  have hnei : ¬ ((ls.length : Int) = 0) := by omega
  have hneb : ((ls.length : Int) == 0) = false := by simpa using hnei
  go_upto_region 12 with fail
  clear hnei hneb
  have HGL := Lib.hid (show g < w.heap.size by obtain ⟨v, ac, h⟩ := HLOG.out; exact row_lt h.row)
  have hg5 : ∀ w', Below w5.heap.size w5 w' → w'.cell? ⟨g, 0, none⟩ = some (.pointer (some ⟨d, 0, none⟩)) := fun w' hb => by
    obtain ⟨v, ac, h⟩ := LogAt.below HLOG.out (By.ext HB5.out hb)
    rw [cell_of_row w' g 0 _ _ _ h.row]
    rfl
  have HDW := Lib.hid (show d < w3.heap.size from Nat.lt_of_lt_of_le ((dlt HD.out).1 d (dlt HD.out).2.1) HB3.out.size)
  have HAL := Lib.hid (show (framesB ls).length ≤ 140737488355328 from Nat.le_trans HA.out (by decide))
  have HTG := Lib.hid (show T g by obtain ⟨v, ac, h⟩ := HLOG.out; exact h.tg)
  have HALL := Lib.hid (fun (w' : World) (hb : Below w5.heap.size w5 w') => And.intro (hg5 w' hb) (HBX.out w' (By.ext HB25.out hb)))
  have HNM := Lib.hid (fun w' => lab_name_any seg0 w' (by decide) (by decide))
  dsimp only [labV, labC, seg0] at HNM HALL
  clear hg5
  go_region_held3 (fun w' => w'.cell? ⟨g, 0, none⟩ = some (.pointer (some ⟨d, 0, none⟩)) ∧ w'.cell? ⟨x, 0, none⟩ = some (.int .u64 0) ∧ w'.cell? ⟨x, 1, none⟩ = some (.int .u64 1) ∧ w'.cell? ⟨x, 2, none⟩ = some (.bool true) ∧ w'.cell? ⟨x, 3, none⟩ = some (.slice none 0 0))
    (first
      | with_reducible assumption
      | exact HALL.out _ (Below.refl _ _)
      | exact HALL.out _ (Below.refl _ _).drew
      | exact HALL.out _ HB6.out
      | exact HALL.out _ HB7.out
      | exact HC8.out)
    (first
      | (go_at_call 24; refine (HNM.out _).mono ?_; rintro e w6 ⟨rfl, hb6⟩
         have HB6 := Lib.hid (show Below w5.heap.size w5 w6 from By.ext (Below.refl _ _).drew hb6)
         clear hb6)
      | (go_at_call 21; refine (HSZ.out _).mono ?_; rintro e w7 ⟨rfl, hb7⟩
         have HB7 := Lib.hid (show Below w5.heap.size w5 w7 from By.ext HB6.out hb7)
         have hput := put_frames (nm := seg0.name) (off := 0) (HD.out.below (By.ext HB5.out HB7.out)) hcnt HDW.out HOD.out (By.ext HB45.out HB7.out) HCD.out HAL.out (by rw [seg0_name]; decide) HER.out
         have HPUT := Lib.hid hput
         clear hb7 hput)
      | (go_at_call 23; refine HPUT.out.mono ?_; rintro e w8 ⟨rfl, S8, hd8, hS8, hk8⟩
         have HC8 := Lib.hid (show w8.cell? ⟨g, 0, none⟩ = some (.pointer (some ⟨d, 0, none⟩)) ∧ w8.cell? ⟨x, 0, none⟩ = some (.int .u64 0) ∧ w8.cell? ⟨x, 1, none⟩ = some (.int .u64 1) ∧ w8.cell? ⟨x, 2, none⟩ = some (.bool true) ∧ w8.cell? ⟨x, 3, none⟩ = some (.slice none 0 0) from by
           have hc7 := HALL.out _ HB7.out
           have hSg : ¬ S g := fun e => HSEP.out g HTG.out e
           have hSx : ¬ S x := fun e => by have := (dlt HD.out).1 x e; have := HXW.out; omega
           have hz7 := (By.ext HB5.out HB7.out).size
           have hxl := row_lt HX2.out
           have hz27 := (By.ext HB25.out HB7.out).size
           have hgb := hk8.block g (by have := HGL.out; omega) hSg
           have hxb := hk8.block x (by omega) hSx
           exact ⟨(World.cell?_of_block (w := w7) hgb).trans hc7.1, (World.cell?_of_block (w := w7) hxb).trans hc7.2.1, (World.cell?_of_block (w := w7) hxb).trans hc7.2.2.1, (World.cell?_of_block (w := w7) hxb).trans hc7.2.2.2.1, (World.cell?_of_block (w := w7) hxb).trans hc7.2.2.2.2⟩)
         have HX8 := Lib.hid (show w8.heap[x]? = some (.cells #[.int .u64 0, .int .u64 1, .bool true, .slice none 0 0] tSeg (0, 0)) from by
           have hSx : ¬ S x := fun e => by have := (dlt HD.out).1 x e; have := HXW.out; omega
           have hxl := row_lt HX2.out
           have hz27 := (By.ext HB25.out HB7.out).size
           exact (hk8.block x (by omega) hSx).trans (((By.ext HB25.out HB7.out).block x hxl).trans HX2.out))
         have HLW8 := Lib.hid ((HLW.out.keep (fun b hb => (By.ext HB5.out HB7.out).block b (HLW.out.lt b hb)) (By.ext HB5.out HB7.out).size).keep (w' := w8) (fun b hb => hk8.block b (Nat.lt_of_lt_of_le (HLW.out.lt b hb) (By.ext HB5.out HB7.out).size) (fun e => HSEP.out b hb e)) hk8.size)
         have HOU8 := Lib.hid (show OwnI w3.heap.size w8 (.slice Au ls.length cu) (endsOf 0 ls) from ownsRow_keep HOU.out (fun b hb => by
           have h1 := ownsRow_lt HOU.out hb
           have hz3 := HB3.out.size
           have hz47 := (By.ext HB45.out HB7.out).size
           exact (hk8.block b (by omega) (fun e => by have := (dlt HD.out).1 b e; omega)).trans ((By.ext HB45.out HB7.out).block b h1.2)))
         have HK78 := Lib.hid (show Kept (fun b => S b ∨ T b) w w8 from (Kept.of_below (By.ext HB5.out HB7.out)).step hk8 (fun b _ e => .inl e))
         have HS8W := Lib.hid (show ∀ b, S8 b → b ≠ x ∧ b ≠ g ∧ (S b ∨ w.heap.size ≤ b) from fun b hb => by
           have hz7 := (By.ext HB5.out HB7.out).size
           have hz27 := (By.ext HB25.out HB7.out).size
           have hxl := row_lt HX2.out
           have hgl := HGL.out
           rcases hS8 b hb with e | e
           · exact ⟨fun e' => by have := (dlt HD.out).1 b e; have := HXW.out; omega, fun e' => HSEP.out g HTG.out (e' ▸ e), .inl e⟩
           · exact ⟨by omega, by omega, .inr (by omega)⟩)
         have HD8 := Lib.hid hd8
         have HS8 := Lib.hid hS8
         have HK8 := Lib.hid hk8
         clear hd8 hS8 hk8))
  clear HALL HNM HSZ HNX HPUT
  obtain ⟨b0, b1, b2, b3, b4⟩ := HC8.out
  go_upto_region 15 with fail
  obtain ⟨i0, hi, hz0, hz1, hz2⟩ := info_parts iInfo
  have hul : (endsOf 0 ls).length = ls.length := endsOf_length 0 ls
  have hou8 : w8.ownsRow w3.heap.size 3 1 (.slice Au ls.length cu) ls.length (ints (endsOf 0 ls)) := by
    have h := HOU8.out
    unfold OwnI at h
    rw [hul] at h
    exact h
  obtain ⟨au, hau, hcu⟩ := rowCells hou8 hne
  subst hau
  have HCU := Lib.hid hcu
  have HIL := Lib.hid (show (ints (endsOf 0 ls)).length = ls.length * 1 by simp [ints, hul])
  have HI1 := Lib.hid (ints_one (l := endsOf 0 ls))
  clear hou8 hcu hul
  go_wp2_with (at_builtin; refine wpList_append_own _ rfl (.tmp 68) (.tmp 69) 57 rfl w8.heap.size 3 i0 _ 1 8 Tryz.underlying57 hi hz0 hz1 hz2 rfl (by decide) (.slice none 0 0) 0 [] rfl (World.ownsRow_nil w8 _ _ 1) au ls.length cu (ints (endsOf 0 ls)) rfl HIL.out HCU.out HI1.out (by unfold maxLen; omega) (by omega) (Nat.le_refl _) ?_; intro v9 w9 ho9 hg9 _; rw [Nat.zero_add, List.nil_append] at ho9; obtain ⟨A9, c9, hv9⟩ := ownsRow_form ho9; subst hv9; have hx9 := (hg9.block x (row_lt HX8.out) (fun e => by cases e)).trans HX8.out; have hf9 : w9.frozen? ⟨x, 3, none⟩ = false := frozen_of_row w9 x 3 _ _ hx9; have hc9 : w9.cell? ⟨x, 3, none⟩ = some (.slice none 0 0) := (cell_of_row w9 x 3 _ _ _ hx9).trans rfl)
  have hx10 : (w9.setCell ⟨x, 3, none⟩ (.slice A9 ls.length c9)).heap[x]? = some (.cells #[.int .u64 0, .int .u64 1, .bool true, .slice A9 ls.length c9] tSeg (0, 0)) := Go.heap_setCell_same w9 x 3 _ _ (.slice A9 ls.length c9) hx9
  have HX10 := Lib.hid hx10
  have HXL := Lib.hid (row_lt HX8.out)
  have HK10 := Lib.hid (show Kept (fun b => b = x) w8 (w9.setCell ⟨x, 3, none⟩ (.slice A9 ls.length c9)) from (Kept.of_grown (M := fun b => b = x) hg9 (fun k e _ => by cases e)).setCell (p := ⟨x, 3, none⟩) (fun _ => rfl) _)
  have HO10 := Lib.hid (show (w9.setCell ⟨x, 3, none⟩ (.slice A9 ls.length c9)).ownsRow w8.heap.size 3 1 (.slice A9 ls.length c9) ls.length (ints (endsOf 0 ls)) from ownsRow_keep ho9 (fun b hb => heap_setCell_other w9 ⟨x, 3, none⟩ b _ (fun e => by
    have h1 := (ownsRow_lt ho9 hb).1
    have h2 := HXL.out
    have e : b = x := e
    omega)))
  clear hx9 hf9 hc9 ho9 hg9 hx10 b0 b1 b2 b3 b4 HI1 HCU HIL hi hz0 hz1 hz2
  obtain ⟨w10, hw10⟩ : ∃ w10, w10 = w9.setCell ⟨x, 3, none⟩ (.slice A9 ls.length c9) := ⟨_, rfl⟩
  rw [← hw10] at HX10 HK10 HO10 ⊢
  clear hw10
  have HGX := Lib.hid (show g ≠ x by have := HGL.out; have := HXW.out; omega)
  have HR10 := Lib.hid ((HK10.out.block g (Nat.lt_of_lt_of_le HGL.out HK78.out.size) HGX.out).trans HLW8.out.row)
  have b0 : w10.cell? ⟨x, 0, none⟩ = some (.int .u64 0) := (cell_of_row w10 x 0 _ _ _ HX10.out).trans rfl
  have b1 : w10.cell? ⟨x, 1, none⟩ = some (.int .u64 1) := (cell_of_row w10 x 1 _ _ _ HX10.out).trans rfl
  have b2 : w10.cell? ⟨x, 2, none⟩ = some (.bool true) := (cell_of_row w10 x 2 _ _ _ HX10.out).trans rfl
  have b3 : w10.cell? ⟨x, 3, none⟩ = some (.slice A9 ls.length c9) := (cell_of_row w10 x 3 _ _ _ HX10.out).trans rfl
  have b4 : w10.cell? ⟨g, 1, none⟩ = some (.slice none 0 0) := (cell_of_row w10 g 1 _ _ _ HR10.out).trans rfl
  have HNC := Lib.hid (show ∀ (j : Nat) (u : Value), [Value.int .u64 0, .int .u64 1, .bool true, .slice A9 ls.length c9][j]? = some u → (w10.alloc (.cells #[.int .u64 0, .int .u64 1, .bool true, .slice A9 ls.length c9] 59)).drew.cell? ((⟨w10.heap.size, 0, none⟩ : Addr).add j) = some u from by
    intro j u hu
    rw [plainAdd, Nat.zero_add]
    refine Eq.trans (cell_of_row (w10.alloc (.cells #[.int .u64 0, .int .u64 1, .bool true, .slice A9 ls.length c9] 59)) _ j _ _ _ (heap_alloc_new w10 _)) ?_
    simpa using hu)
  have HN1 := Lib.hid (show ∀ u ∈ [Value.int .u64 0, .int .u64 1, .bool true, .slice A9 ls.length c9], u.oneCell' = true from by
    intro u hu
    simp only [List.mem_cons, List.not_mem_nil, or_false] at hu
    rcases hu with rfl | rfl | rfl | rfl <;> rfl)
  have HZ10 := Lib.hid (show w10.heap.size ≤ (w10.alloc (.cells #[.int .u64 0, .int .u64 1, .bool true, .slice A9 ls.length c9] 59)).drew.heap.size by show _ ≤ (w10.alloc _).heap.size; simp)
  have HRA := Lib.hid (show (w10.alloc (.cells #[.int .u64 0, .int .u64 1, .bool true, .slice A9 ls.length c9] 59)).drew.heap[g]? = _ from (heap_alloc_old w10 _ (row_lt HR10.out)).trans HR10.out)
  have HKA := Lib.hid (show Kept (fun b => b = x) w8 (w10.alloc (.cells #[.int .u64 0, .int .u64 1, .bool true, .slice A9 ls.length c9] 59)).drew from (HK10.out.alloc _).drew)
  have b5 : (w10.alloc (.cells #[.int .u64 0, .int .u64 1, .bool true, .slice A9 ls.length c9] 59)).cell? ⟨g, 1, none⟩ = some (.slice none 0 0) := (World.cell?_alloc_lt w10 _ ⟨g, 1, none⟩ (row_lt HR10.out)).trans b4
  go_region_law (refine step_appS rfl (.tmp 78) (.tmp 80) rfl w10.heap.size (.slice none 0 0) 0 [] rfl (World.ownsRow_nil _ _ _ 4) ⟨w10.heap.size, 0, none⟩ rfl [Value.int .u64 0, .int .u64 1, .bool true, .slice A9 ls.length c9] rfl HNC.out HN1.out (by decide) HZ10.out ?_; intro v11 w11 ho11 hg11
                 obtain ⟨A11, c11, rfl⟩ := ownsRow_form ho11
                 have hr11 := (hg11.block g (row_lt HRA.out) (fun e => by cases e)).trans HRA.out
                 have hc11 : w11.cell? ⟨g, 1, none⟩ = some (.slice none 0 0) := (cell_of_row w11 g 1 _ _ _ hr11).trans rfl
                 have hf11 : w11.frozen? ⟨g, 1, none⟩ = false := frozen_of_row w11 g 1 _ _ hr11
                 have HO11 := Lib.hid ho11
                 have HR11 := Lib.hid hr11
                 have HG11 := Lib.hid (show (w10.alloc (.cells #[.int .u64 0, .int .u64 1, .bool true, .slice A9 ls.length c9] 59)).drew.grownBy w11 none from hg11)
                 clear ho11 hr11 hg11)
  all_goals
    go_wp2
    go_ret
    exact appended hn HGX.out HGL.out HXL.out HXW.out HTG.out HD8.out HS8W.out HK78.out HK10.out HO10.out HG11.out HO11.out HR11.out
end Go.Proofs.YtnjifhbooikdbaaGreatDoor.Wa
