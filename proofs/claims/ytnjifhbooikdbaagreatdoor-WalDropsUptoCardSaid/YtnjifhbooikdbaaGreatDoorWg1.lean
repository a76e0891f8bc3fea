/- Package wal: last of a log that has segments, as a contract of a call. | Package wal: rows appended to, and where they are then; a row cut; a log behind an Append. No walk. | Package wal: Append to a log that has segments, as a contract of a call. | Package wal: Append to a log that has segments: the walk. | Package wal: label.read, as a contract of a call. | Package wal: sort and beginning of the one file that a log has, as contracts of calls. | Package wal: Append of no record, as a contract of a call. -/
import Derived.Test.YtnjifhbooikdbaaGreatDoorWaJ
import Derived.Test.YtnjifhbooikdbaaGreatDoorWaH
import Derived.Test.YtnjifhbooikdbaaGreatDoorWaK
/-! Package wal: last of a log that has segments, as a contract of a call. -/
namespace Go.Proofs.YtnjifhbooikdbaaGreatDoor.Wa
open Go.RowKit Go.Maps By Mp Dk

/-- The segment that the next records go to, and its place. -/
def lastS (l : List Seg) : Nat × Seg := match l.getLast? with
  | none => (0, seg0)
  | some s => if s.size < 512 ∨ 1024 ≤ l.length then (l.length - 1, s) else (l.length, ⟨s.era, s.next, false, []⟩)
def LastPost (l : List Seg) (ac : List AC) (w : World) (e : Ending) (w' : World) : Prop := ∃ (k : Nat) (sg : Seg) (A : Option Addr) (c : Nat), e = .returned (.tuple #[.int .i64 (k : Int), segV sg A c]) ∧ lastS l = (k, sg) ∧ SegOk sg ∧ ((k + 1 = l.length ∧ l[k]? = some sg ∧ ac[k]? = some (A, c)) ∨ (k = l.length ∧ sg.ends = [] ∧ A = none ∧ c = 0)) ∧ Below w.heap.size w w'
theorem lastS_at {l : List Seg} {k : Nat} (hk : k < l.length) (h : k + 1 = l.length) : lastS l = if l[k].size < 512 ∨ 1024 ≤ l.length then (k, l[k]) else (l.length, ⟨l[k].era, l[k].next, false, []⟩) := by
  unfold lastS
  rw [List.getLast?_eq_getElem?, show l.length - 1 = k by omega, List.getElem?_eq_getElem hk]
theorem size_le {s : Seg} (h : ∀ x ∈ s.ends, x ≤ 9223372036854775807) : s.size ≤ 9223372036854775807 := by
  unfold Seg.size Seg.start
  split
  · omega
  · cases hx : s.ends[s.next - s.first - 1]? with
    | none => simp
    | some x => exact h x (List.mem_of_getElem? hx)
theorem ret_seg {w4 : World} {r : Nat} {a0 a1 a2 a3 : Value} {k : Int} {tm : Array Value} (h2 : tm[2]?.getD undef = .int .i64 k) (h3 : tm[3]?.getD undef = .pointer (some ⟨r, 0, none⟩)) (hrow : w4.heap[r]? = some (.cells #[a0, a1, a2, a3] tSeg (0, 0))) :
    (results Tryz.f19 tm).run Tryz.prog w4 = .ok (.tuple #[.int .i64 k, .agg #[a0, a1, a2, a3]]) w4 := by
  have hres : Tryz.f19.results = #[.tmp 2, .cell 3 59] := by kernel_rfl
  have hlv : (loadVar 59 ⟨r, 0, none⟩).run Tryz.prog w4 = .ok (.agg #[a0, a1, a2, a3]) w4 := run_loadVar_row w4 _ _ _ _ _ _ hrow Tryz.underlying59 rfl (by kernel_rfl)
  unfold results
  rw [hres]
  simp [asAddr, hlv, h2, h3]
set_option maxRecDepth 100000 in
set_option maxHeartbeats 4000000 in
theorem last_any (g d : Nat) (l : List Seg) (dead : Bool) (T : Nat → Prop) (v : Value) (ac : List AC) (w : World) (h : LogW w g d l dead T v ac) (hne : 0 < l.length) :
    Calls Tryz.prog 19 #[.pointer (some ⟨g, 0, none⟩)] w (LastPost l ac w) := by
  obtain ⟨k, hk1⟩ : ∃ k, k + 1 = l.length := ⟨l.length - 1, by omega⟩
  have hk : k < l.length := by omega
  obtain ⟨ub, cap, A, c, hv, hub, hac, hli, hok, hc0, hc1, hc2, hc3⟩ := h.at_ hk
  subst hv
  have HB1 := Lib.hid (bAlloc (Below.refl w.heap.size w) (.cells #[.int .u64 0, .int .u64 0, .bool false, .slice none 0 0] 59))
  have HNB := Lib.hid (heap_alloc_new w (.cells #[.int .u64 0, .int .u64 0, .bool false, .slice none 0 0] 59))
  have hlst := lastS_at hk hk1
  have hrow := h.row
  rw [← hk1] at hrow
  have HALL := Lib.hid (fun (w' : World) (hb : Below w.heap.size w w') => log_cells hrow hub hc0 hc1 hc2 hc3 hb)
  have hfew := h.few
  rw [← hk1] at hfew
  have HK1 := Lib.hid hk1
  obtain ⟨s, hs⟩ : ∃ s, s = l[k] := ⟨_, rfl⟩
  have hls : l[k]? = some s := by rw [hs]; exact List.getElem?_eq_getElem hk
  rw [← hs] at HALL hlst hli hok
  have HSZ := Lib.hid (fun w' (hb : Below w.heap.size w w') => seg_size_any s A c w' hok.next (Nat.le_trans hok.len (by decide)) ((hli.below hb).more hb.size))
  have HNX := Lib.hid (fun w' => seg_next_any s A c w' hok.next (Nat.le_trans hok.len (by decide)))
  have HIN := Lib.hid (And.intro hac (And.intro hls hok))
  have HLST := Lib.hid hlst
  obtain ⟨z, hz⟩ : ∃ z, z = s.size := ⟨_, rfl⟩
  obtain ⟨nx, hnx⟩ : ∃ nx, nx = s.next := ⟨_, rfl⟩
  rw [← hz] at HSZ HLST
  rw [← hnx] at HNX HLST
  clear h hub hac hli hok hc0 hc1 hc2 hc3 hrow hs hls hlst hz hk hk1 hne
  have HNXT := Lib.hid hnx
  clear hnx
  obtain ⟨w1, hw1⟩ : ∃ w1, w1 = w.alloc (.cells #[.int .u64 0, .int .u64 0, .bool false, .slice none 0 0] 59) := ⟨_, rfl⟩
  rw [← hw1] at HB1 HNB
  have HW1 := Lib.hid hw1
  obtain ⟨era, first, base, ends⟩ := s
  dsimp only [segV, segC] at HALL HSZ HNX
  obtain ⟨a0, a1, a2, a3, a4, a5⟩ := HALL.out w1 HB1.out
  rw [hw1] at a0 a1 a2 a3 a4 a5
  have i2 : IntKind.i64.wrap (k : Int) = (k : Int) := IntWalk.i64_in _ ⟨by omega, by omega⟩
  go_enter Tryz.func19, Tryz.ntmps19
  go_upto_region 5 with fail
  clear a0 a1 a2 a3 a4 a5
  have HT := Lib.hid (two_new w (.cells #[.int .u64 0, .int .u64 0, .bool false, .slice none 0 0] 59) (.cells #[.int .u64 (era : Nat), .int .u64 (first : Nat), .bool base, .slice A ends.length c] 59))
  generalize (w.alloc (.cells #[.int .u64 0, .int .u64 0, .bool false, .slice none 0 0] 59)).alloc (.cells #[.int .u64 (era : Nat), .int .u64 (first : Nat), .bool base, .slice A ends.length c] 59) = w2 at *
  clear hw1 HW1 HNB HB1 HALL
  have HBX := Lib.hid (fun (w' : World) (hb : Below w2.heap.size w2 w') => box_cells (s := ⟨era, first, base, ends⟩) (A := A) (c := c) HT.out.2.1 hb)
  have HRX := Lib.hid (fun (w' : World) (hb : Below w2.heap.size w2 w') => (hb.block _ (row_lt HT.out.1)).trans HT.out.1)
  obtain ⟨b0, b1, b2, b3⟩ := HBX.out w2 (Below.refl _ _)
  try dsimp only at b0 b1 b2 b3
  go_wp2_with fail
  refine (HSZ.out _ HT.out.2.2).mono ?_
  rintro e w3 ⟨rfl, hb3⟩
  have HB3 := Lib.hid (By.ext HT.out.2.2 hb3)
  have HB23 := Lib.hid hb3
  have hr3 := HRX.out w3 hb3
  have HR3 := Lib.hid hr3
  clear b0 b1 b2 b3
  obtain ⟨b0, b1, b2, b3⟩ := HBX.out w3 hb3
  try dsimp only at b0 b1 b2 b3
  have f3 : ∀ i, w3.frozen? ⟨w.heap.size, i, none⟩ = false := fun i => frozen_of_row w3 _ i _ _ hr3
  have c0 : w3.cell? ⟨w.heap.size, 0, none⟩ = some (.int .u64 0) := (cell_of_row w3 _ 0 _ _ _ hr3).trans rfl
  have c1 : w3.cell? ⟨w.heap.size, 1, none⟩ = some (.int .u64 0) := (cell_of_row w3 _ 1 _ _ _ hr3).trans rfl
  have c2 : w3.cell? ⟨w.heap.size, 2, none⟩ = some (.bool false) := (cell_of_row w3 _ 2 _ _ _ hr3).trans rfl
  have c3 : w3.cell? ⟨w.heap.size, 3, none⟩ = some (.slice none 0 0) := (cell_of_row w3 _ 3 _ _ _ hr3).trans rfl
  clear hr3
  have hgo : ∀ (q0 q1 q2 q3 : Value), (((((w3.setCell ⟨w.heap.size, 0, none⟩ q0).setCell ⟨w.heap.size, 1, none⟩ q1).setCell ⟨w.heap.size, 2, none⟩ q2).setCell ⟨w.heap.size, 3, none⟩ q3).heap[w.heap.size]? = some (.cells #[q0, q1, q2, q3] tSeg (0, 0))) ∧ Below w.heap.size w ((((w3.setCell ⟨w.heap.size, 0, none⟩ q0).setCell ⟨w.heap.size, 1, none⟩ q1).setCell ⟨w.heap.size, 2, none⟩ q2).setCell ⟨w.heap.size, 3, none⟩ q3) := fun q0 q1 q2 q3 =>
    ⟨Go.heap_setCell_same _ _ 3 _ _ q3 (Go.heap_setCell_same _ _ 2 _ _ q2 (Go.heap_setCell_same _ _ 1 _ _ q1 (Go.heap_setCell_same w3 _ 0 _ _ q0 HR3.out))), bSet (bSet (bSet (bSet HB3.out _ (Nat.le_refl _) _) _ (Nat.le_refl _) _) _ (Nat.le_refl _) _) _ (Nat.le_refl _) _⟩
  have HGO := Lib.hid hgo
  clear hgo
  by_cases hz : z < 512 ∨ 1024 ≤ k + 1
  · have HFIN := Lib.hid (show ∀ w4, Below w.heap.size w w4 → LastPost l ac w (.returned (.tuple #[.int .i64 (k : Int), .agg #[.int .u64 (era : Nat), .int .u64 (first : Nat), .bool base, .slice A ends.length c]])) w4 from fun w4 hb =>
      ⟨k, ⟨era, first, base, ends⟩, A, c, rfl, by rw [HLST.out, if_pos (by rw [← HK1.out]; exact hz)], HIN.out.2.2, .inl ⟨HK1.out, HIN.out.2.1, HIN.out.1⟩, hb⟩)
    by_cases hz1 : z < 512
    · have hzi : (z : Int) < 512 := by omega
      go_upto_region 6 with fail
      go_region
      all_goals
        go_wp2
        have hg := HGO.out (.int .u64 (era : Nat)) (.int .u64 (first : Nat)) (.bool base) (.slice A ends.length c)
        exact bodyPost_ret (ret_seg rfl rfl hg.1) rfl (HFIN.out _ hg.2.drew)
    · have hzi : ¬ ((z : Int) < 512) := by omega
      have hki : (1024 : Int) ≤ (k : Int) + 1 := by omega
      go_upto_region 6 with fail
      go_region
      all_goals
        go_wp2
        have hg := HGO.out (.int .u64 (era : Nat)) (.int .u64 (first : Nat)) (.bool base) (.slice A ends.length c)
        exact bodyPost_ret (ret_seg rfl rfl hg.1) rfl (HFIN.out _ hg.2.drew)
  · have hzi : ¬ ((z : Int) < 512) := by omega
    have hki : ¬ ((1024 : Int) ≤ (k : Int) + 1) := by omega
    have hnx64 : nx < 18446744073709551616 := by have := HIN.out.2.2.next; have := HNXT.out; omega
    have HFIN := Lib.hid (show ∀ w4, Below w.heap.size w w4 → LastPost l ac w (.returned (.tuple #[.int .i64 ((k + 1 : Nat) : Int), .agg #[.int .u64 (era : Nat), .int .u64 (nx : Nat), .bool false, .slice none 0 0]])) w4 from fun w4 hb =>
      ⟨k + 1, ⟨era, nx, false, []⟩, none, 0, rfl, by rw [HLST.out, if_neg (by rw [← HK1.out]; exact hz), HK1.out], ⟨by show nx + 0 < _; omega, HIN.out.2.2.era, by show 0 ≤ _; omega⟩, .inr ⟨HK1.out, rfl, rfl, rfl⟩, hb⟩)
    go_upto_region 7 with fail
    go_region_with (first
      | (go_at_call 22; refine (HNX.out _).mono ?_; rintro e w5 ⟨rfl, hb5⟩
         have HB5 := Lib.hid (show Below w3.heap.size w3 w5 from By.ext (Below.refl _ _).drew hb5)
         have hr5 := (HB5.out.block _ (row_lt HR3.out)).trans HR3.out
         have f5 : ∀ i, w5.frozen? ⟨w.heap.size, i, none⟩ = false := fun i => frozen_of_row w5 _ i _ _ hr5
         have d0 : w5.cell? ⟨w.heap.size, 0, none⟩ = some (.int .u64 0) := (cell_of_row w5 _ 0 _ _ _ hr5).trans rfl
         have d1 : w5.cell? ⟨w.heap.size, 1, none⟩ = some (.int .u64 0) := (cell_of_row w5 _ 1 _ _ _ hr5).trans rfl
         have d2 : w5.cell? ⟨w.heap.size, 2, none⟩ = some (.bool false) := (cell_of_row w5 _ 2 _ _ _ hr5).trans rfl
         have d3 : w5.cell? ⟨w.heap.size, 3, none⟩ = some (.slice none 0 0) := (cell_of_row w5 _ 3 _ _ _ hr5).trans rfl
         have HR5 := Lib.hid hr5
         obtain ⟨e0, e1, e2, e3⟩ := HBX.out w5 (By.ext HB23.out HB5.out)
         clear hb5 hr5)
      | fail)
    all_goals
      go_wp2
      have hr4 := Go.heap_setCell_same _ _ 3 _ _ (.slice none 0 0) (Go.heap_setCell_same _ _ 2 _ _ (.bool false) (Go.heap_setCell_same _ _ 1 _ _ (.int .u64 (nx : Nat)) (Go.heap_setCell_same w5 _ 0 _ _ (.int .u64 (era : Nat)) HR5.out)))
      exact bodyPost_ret (ret_seg rfl rfl hr4) rfl (HFIN.out _ (bSet (bSet (bSet (bSet (By.ext HB3.out HB5.out) _ (Nat.le_refl _) _) _ (Nat.le_refl _) _) _ (Nat.le_refl _) _) _ (Nat.le_refl _) _))
end Go.Proofs.YtnjifhbooikdbaaGreatDoor.Wa

/-! Package wal: rows appended to, and where they are then; a row cut; a log behind an Append. No walk. -/
namespace Go.Proofs.YtnjifhbooikdbaaGreatDoor.Wa
open Go.RowKit Go.Maps By Mp Dk

theorem cells_of {w : World} {ad : Addr} {news : List Value} {m sz : Nat} (hl : news.length = m * sz) (hnews : 0 < m → ∃ a, (some ad : Option Addr) = some a ∧ ∀ j u, news[j]? = some u → w.cell? (a.add j) = some u) : ∀ (j : Nat) (u : Value), news[j]? = some u → w.cell? (ad.add j) = some u := by
  intro j u hu
  rcases Nat.eq_zero_or_pos m with h | h
  · rw [h, Nat.zero_mul] at hl
    rw [List.eq_nil_of_length_eq_zero hl] at hu
    cases hu
  · obtain ⟨a, e, h2⟩ := hnews h
    injection e with e
    rw [e]
    exact h2 j u hu
/-- Appending to a row of the call's own, and where the row is then. -/
theorem run_appG {tes te : TypeId} {i0 : TypeInfo} {z : Value} {sz by_ : Nat} (ht : Tryz.prog.underlying tes = some (.slice te)) (hi : Tryz.prog.info? te = some i0) (hz0 : i0.zero = some z) (hz1 : i0.size = sz) (hz2 : i0.bytes = by_) (hzs : z.cells.size = sz) (hsz : 0 < sz)
    (w : World) (ty : TypeId) (base : Nat) (v : Value) (n : Nat) (xs : List Value) (hown : w.ownsRow base te sz v n xs) (ad : Option Addr) (m c : Nat) (news : List Value) (hl : news.length = m * sz)
    (hnews : 0 < m → ∃ a, ad = some a ∧ ∀ j u, news[j]? = some u → w.cell? (a.add j) = some u) (h1 : ∀ u ∈ news, u.oneCell' = true)
    (hn : (n + m) * by_ ≤ 140737488355328) (hn2 : n + m ≤ 140737488355328) (hbase : base ≤ w.heap.size) : ∃ v' w', (Builtin.append_ #[tes, tes] ty #[v, .slice ad m c]).run Tryz.prog w = .ok v' w' ∧ w'.ownsRow base te sz v' (n + m) (xs ++ news) ∧ w.grownBy w' v.ownBlock ∧ ∀ b, v'.ownBlock = some b → v.ownBlock = some b ∨ w.heap.size ≤ b := by
  rcases ad with _ | ad
  · have hm0 : m = 0 := by
      rcases Nat.eq_zero_or_pos m with h | h
      · exact h
      · obtain ⟨a, e, _⟩ := hnews h
        cases e
    subst hm0
    obtain rfl : news = [] := List.eq_nil_of_length_eq_zero (by rw [hl, Nat.zero_mul])
    exact ⟨v, w, run_append_none w base _ ty _ i0 sz ht hi v _ _ hown c, by simpa using hown, ⟨rfl, rfl, rfl, Nat.le_refl _, fun _ _ _ => rfl⟩, fun b hb => .inl hb⟩
  · have hcells : ∀ j u, news[j]? = some u → w.cell? (ad.add j) = some u := cells_of hl hnews
    rcases hown.2 with ⟨rfl, rfl⟩ | ⟨g, cap, cur, rfl, hbg, hg, hnc, hcm, hcs, htake⟩
    · have hxs : xs = [] := List.eq_nil_of_length_eq_zero (by simpa using hown.1)
      subst hxs
      obtain ⟨v', w', hrun, h2, h3, _⟩ := run_append_own (P := Tryz.prog) w w.heap.size tes ty te i0 _ sz by_ ht hi hz0 hz1 hz2 hzs hsz (.slice none 0 0) 0 [] (World.ownsRow_nil w _ _ sz) ad m c news hl hcells h1 (by unfold maxLen; omega) hn (Nat.le_refl _)
      exact ⟨v', w', hrun, ownsRow_base h2 hbase, h3, fun b hb => .inr (ownsRow_lt h2 hb).1⟩
    · by_cases hroom : n + m ≤ cap
      · obtain ⟨w', hrun, h2, h3⟩ := run_append_fits (P := Tryz.prog) w base tes ty te i0 sz ht hi hz1 g n cap xs hown ad m c news hl hcells h1 hroom
        exact ⟨_, w', hrun, h2, h3, fun b hb => .inl hb⟩
      · obtain ⟨v', w', hrun, h2, h3⟩ := run_append_arg_grows (P := Tryz.prog) w tes ty te i0 _ sz by_ ht hi hz0 hz1 hz2 hzs hsz ⟨g, 0, none⟩ n cap xs hown.1
          (fun j u hj => by
            rw [plainAdd, Nat.zero_add, cell_of_row w g j _ _ _ hg]
            rw [← htake, List.getElem?_take] at hj
            split at hj
            · simpa using hj
            · cases hj) ad m c news hl hcells (by omega) (by unfold maxLen; omega) hn
        exact ⟨v', w', hrun, ownsRow_base h2 hbase, h3.but _, fun b hb => .inr (ownsRow_lt h2 hb).1⟩
theorem wpList_appI {ops : Array Oper} {rest : List Oper} {o : Oper} {a : Act} {Q : Exit → Act → World → Prop} {w : World} (hgd : o.guard = none) (s x : Operand) (hop : o.op = .call { callee := .builtin .append, args := #[s, x], argTypes := #[57, 57] })
    (base : Nat) (v : Value) (n : Nat) (xs : List Value) (hs : a.eval s = v) (hown : w.ownsRow base 3 1 v n xs) (ad : Option Addr) (m c : Nat) (hx : a.eval x = .slice ad m c) (news : List Value) (hl : news.length = m * 1)
    (hnews : 0 < m → ∃ a, ad = some a ∧ ∀ j u, news[j]? = some u → w.cell? (a.add j) = some u) (h1 : ∀ u ∈ news, u.oneCell' = true)
    (hn : n + m ≤ 4398046511104) (hbase : base ≤ w.heap.size)
    (h : ∀ v' w', w'.ownsRow base 3 1 v' (n + m) (xs ++ news) → w.grownBy w' v.ownBlock → (∀ b, v'.ownBlock = some b → v.ownBlock = some b ∨ w.heap.size ≤ b) → wpList Tryz.prog ops Q rest (a.put o.dst v') w') : wpList Tryz.prog ops Q (o :: rest) a w :=
  wpList_plain hgd fun K hK => by
    obtain ⟨i0, hi, hz0, hz1, hz2⟩ := info_parts iInfo
    obtain ⟨v', w', hrun, h2, h3, h4⟩ := run_appG Tryz.underlying57 hi hz0 hz1 hz2 rfl (by decide) w o.type base v n xs hown ad m c news hl hnews h1 (by omega) (by omega) hbase
    exact wp_app_run s x _ hop hs hx hrun (hK _ _ (h v' w' h2 h3 h4))
theorem step_appS2 {ops : Array Oper} {o : Oper} {a : Act} {w : World} {K : Act → World → Prop} {Q : Exit → Act → World → Prop} {E : Prop} (hgd : o.guard = none) (s x : Operand) (hop : o.op = .call { callee := .builtin .append, args := #[s, x], argTypes := #[tSegs, tSegs] })
    (base : Nat) (v : Value) (n : Nat) (xs : List Value) (hs : a.eval s = v) (hown : w.ownsRow base tSeg 4 v n xs) (ad : Addr) (hx : a.eval x = .slice (some ad) 1 1) (news : List Value) (hl : news.length = 4) (hnews : ∀ j u, news[j]? = some u → w.cell? (ad.add j) = some u) (h1 : ∀ u ∈ news, u.oneCell' = true)
    (hn : n ≤ 1099511627776) (hbase : base ≤ w.heap.size)
    (hK : ∀ v' w', w'.ownsRow base tSeg 4 v' (n + 1) (xs ++ news) → w.grownBy w' v.ownBlock → (∀ b, v'.ownBlock = some b → v.ownBlock = some b ∨ w.heap.size ≤ b) → K (a.put o.dst v') w') : if Region.wanted o (yielded ops a.tmps) = true then Oper.wp Tryz.prog o a w K Q else E := by
  have hw : Region.wanted o (yielded ops a.tmps) = true := by simp [Region.wanted, hgd]
  rw [if_pos hw]
  obtain ⟨i0, hi, hz0, hz1, hz2⟩ := info_parts sInfo
  obtain ⟨v', w', hrun, h2, h3, h4⟩ := run_appG Tryz.underlying47 hi hz0 hz1 hz2 rfl (by decide) w o.type base v n xs hown (some ad) 1 1 news (by omega) (fun _ => ⟨ad, rfl, hnews⟩) h1 (by omega) (by omega) hbase
  exact wp_app_run s x _ hop hs hx hrun (hK v' w' h2 h3 h4)
/-- A row cut. -/
theorem ownsRow_take {w : World} {base : Nat} {e : TypeId} {sz n m cap : Nat} {g : Nat} {xs : List Value} (h : w.ownsRow base e sz (.slice (some ⟨g, 0, none⟩) n cap) n xs) (hm : m ≤ n) : w.ownsRow base e sz (.slice (some ⟨g, 0, none⟩) m cap) m (xs.take (m * sz)) := by
  have hms : m * sz ≤ n * sz := Nat.mul_le_mul_right _ hm
  refine ⟨by rw [List.length_take, h.1]; omega, ?_⟩
  rcases h.2 with ⟨h1, h2⟩ | ⟨q, cap', cur, hv, hb, hg, hn, hc, hs, ht⟩
  · cases h1
  · injection hv with e1 e2 e3
    subst e3
    refine .inr ⟨q, cap, cur, by rw [e1], hb, hg, by omega, hc, hs, ?_⟩
    rw [← ht, List.take_take]
    congr 1
    omega
theorem sRow_take : ∀ {l : List Seg} {ac : List AC} (m : Nat), ac.length = l.length → m ≤ l.length → (sRow l ac).take (m * 4) = sRow (l.take m) (ac.take m)
  | _, _, 0, _, _ => by simp [sRow]
  | [], _, m + 1, _, hm => by simp at hm
  | _ :: _, [], m + 1, h, _ => by simp at h
  | x :: l, a :: ac, m + 1, h, hm => by
    show ((segC x a.1 a.2).toList ++ sRow l ac).take ((m + 1) * 4) = (segC x a.1 a.2).toList ++ sRow (l.take m) (ac.take m)
    rw [List.take_append, show (m + 1) * 4 - (segC x a.1 a.2).toList.length = m * 4 by simp; omega, sRow_take m (by simpa using h) (by simpa using hm), List.take_of_length_le (by simp; omega)]
theorem sRow_snoc (x : Seg) (a : AC) : ∀ {l : List Seg} {ac : List AC}, ac.length = l.length → sRow (l ++ [x]) (ac ++ [a]) = sRow l ac ++ (segC x a.1 a.2).toList
  | [], [], _ => by simp [sRow]
  | [], _ :: _, h => by simp at h
  | _ :: _, [], h => by simp at h
  | y :: l, b :: ac, h => by
    show (segC y b.1 b.2).toList ++ sRow (l ++ [x]) (ac ++ [a]) = ((segC y b.1 b.2).toList ++ sRow l ac) ++ (segC x a.1 a.2).toList
    rw [sRow_snoc x a (by simpa using h), List.append_assoc]
end Go.Proofs.YtnjifhbooikdbaaGreatDoor.Wa

/-! Package wal: Append to a log that has segments, as a contract of a call. -/
namespace Go.Proofs.YtnjifhbooikdbaaGreatDoor.Wa
open Go.RowKit Go.Maps By Mp Dk

/-- A log behind an Append, and its disk. -/
def appL (l : List Seg) (ls : List Bs) : List Seg := l.take (lastS l).1 ++ [⟨(lastS l).2.era, (lastS l).2.first, (lastS l).2.base, (lastS l).2.ends ++ endsOf (lastS l).2.size ls⟩]
def appD (l : List Seg) (s : DS) (ls : List Bs) : DS := chgS s 1 (lastS l).2.name ((lastS l).2.size : Int) (framesB ls)
theorem lab_len {sg : Seg} (hok : SegOk sg) : sg.name.length ≤ 140737488355328 := by
  have h1 := b36_le hok.era
  have h2 : (b36 sg.first).length ≤ 13 := b36_le (by have := hok.next; unfold Seg.next at this; omega)
  unfold Seg.name
  simp only [List.length_append]
  have h3 : (if sg.base = true then ([46, 98] : Bs) else []).length ≤ 2 := by cases sg.base <;> decide
  have h4 : ([119, 46] : Bs).length = 2 := rfl
  have h5 : ([46] : Bs).length = 1 := rfl
  omega
theorem ints_app (a b : List Nat) : ints (a ++ b) = ints a ++ ints b := by unfold ints; rw [List.map_append]
set_option maxHeartbeats 2000000 in
/-- The log behind an Append. -/
theorem appended2 {w w8 w9 w10 w11 : World} {g d x k en ub cap era first : Nat} {base : Bool} {ends : List Nat} {s8 : DS} {S T S8 : Nat → Prop} {l : List Seg} {ac : List AC} {ls : List Bs} {sz : Nat} {A0 A9 A11 : Option Addr} {c0 c9 c11 : Nat}
    (hw : LogW w g d l false T (.slice (some ⟨ub, 0, none⟩) l.length cap) ac) (hsep : ∀ b, T b → S b → False) (hk : k ≤ l.length) (hk2 : k + 1 ≤ 1099511627776) (hen : en = ends.length) (hok : SegOk ⟨era, first, base, ends ++ endsOf sz ls⟩)
    (h0 : ∀ q, (Value.slice A0 en c0).ownBlock = some q → T q ∧ w.heap[q]? ≠ none ∧ ∀ (i : Nat) (a : AC) (n : Nat), i < k → ac[i]? = some a → (Value.slice a.1 n a.2).ownBlock = some q → False) (ht0 : ∀ q, (Value.slice A0 en c0).ownBlock = some q → ∃ cur, w.heap[q]? = some (.cells cur 3 (0, 0)))
    (hx8 : x < w8.heap.size) (hxw : w.heap.size ≤ x)
    (hd8 : DiskAt w8 d s8 S8) (hS8 : ∀ b, S8 b → b ≠ x ∧ ¬ T b ∧ (S b ∨ w.heap.size ≤ b)) (hk8 : Kept S w w8)
    (hg9 : w8.grownBy w9 (Value.slice A0 en c0).ownBlock) (hv9 : ∀ b, (Value.slice A9 (en + ls.length) c9).ownBlock = some b → (Value.slice A0 en c0).ownBlock = some b ∨ w8.heap.size ≤ b)
    (hw10 : w10 = w9.setCell ⟨x, 3, none⟩ (.slice A9 (en + ls.length) c9))
    (ho10 : w10.ownsRow 0 3 1 (.slice A9 (en + ls.length) c9) (en + ls.length) (ints ends ++ ints (endsOf sz ls))) (hg11 : (w10.alloc (.cells #[.int .u64 (era : Nat), .int .u64 (first : Nat), .bool base, .slice A9 (en + ls.length) c9] 59)).drew.grownBy w11 (some ub))
    (hv11 : ∀ b, (Value.slice A11 (k + 1) c11).ownBlock = some b → b = ub ∨ w10.heap.size < b)
    (ho11 : w11.ownsRow 0 tSeg 4 (.slice A11 (k + 1) c11) (k + 1) (sRow (l.take k) (ac.take k) ++ [Value.int .u64 (era : Nat), .int .u64 (first : Nat), .bool base, .slice A9 (en + ls.length) c9])) :
    AppPost g d (l.take k ++ [⟨era, first, base, ends ++ endsOf sz ls⟩]) s8 S T w (.returned (.int .i64 0)) (w11.setCell ⟨g, 1, none⟩ (.slice A11 (k + 1) c11)) := by
  have hz8 := hk8.size
  have hz9 := hg9.size
  have hz10 : w10.heap.size = w9.heap.size := by rw [hw10]; exact size_setCell' _ _ _
  have hza : (w10.alloc (.cells #[.int .u64 (era : Nat), .int .u64 (first : Nat), .bool base, .slice A9 (en + ls.length) c9] 59)).drew.heap.size = w10.heap.size + 1 := World.size_alloc w10 _
  have hz11 := hg11.size
  rw [hza] at hz11
  have hTub : T ub := hw.tv ub rfl
  have hTg : T g := hw.tg
  have hlub := hw.lt ub hTub
  have hlg := hw.lt g hTg
  have hT8 : ∀ b, T b → w8.heap[b]? = w.heap[b]? := fun b hb => hk8.block b (hw.lt b hb) (fun e => hsep b hb e)
  have h89 : ∀ b, b < w8.heap.size → (Value.slice A0 en c0).ownBlock ≠ some b → w9.heap[b]? = w8.heap[b]? := fun b hb hne => hg9.block b hb (fun e => hne e.symm)
  have h910 : ∀ b, b ≠ x → w10.heap[b]? = w9.heap[b]? := fun b hb => by rw [hw10]; exact heap_setCell_other w9 ⟨x, 3, none⟩ b _ hb
  have h1011 : ∀ b, b < w10.heap.size → b ≠ ub → w11.heap[b]? = w10.heap[b]? := fun b hb hne => (hg11.block b (by rw [hza]; omega) (fun e => hne (Option.some.inj e))).trans (heap_alloc_old w10 _ hb)
  have h12 : ∀ b, b ≠ g → (w11.setCell ⟨g, 1, none⟩ (.slice A11 (k + 1) c11)).heap[b]? = w11.heap[b]? := fun b hb => heap_setCell_other w11 ⟨g, 1, none⟩ b _ hb
  have hz12 : (w11.setCell ⟨g, 1, none⟩ (.slice A11 (k + 1) c11)).heap.size = w11.heap.size := size_setCell' _ _ _
  obtain ⟨cu, hcu⟩ := ownsRow_type hw.segs (b := ub) rfl
  have tyne : ∀ (b b' : Nat) (e e' : TypeId) (c c' : Array Value), w.heap[b]? = some (.cells c e (0, 0)) → w.heap[b']? = some (.cells c' e' (0, 0)) → e ≠ e' → b ≠ b' := fun b b' e e' c c' h1 h2 he hbb => by
    rw [hbb, h2] at h1
    injection h1 with h1
    injection h1 with _ h1
    exact he h1.symm
  have hgu : g ≠ ub := tyne g ub _ _ _ _ hw.row hcu (by decide)
  have hA0 : ∀ q, (Value.slice A0 en c0).ownBlock = some q → T q ∧ q ≠ ub ∧ q ≠ g := fun q hq => by
    obtain ⟨cur, hc⟩ := ht0 q hq
    exact ⟨(h0 q hq).1, tyne q ub _ _ _ _ hc hcu (by decide), tyne q g _ _ _ _ hc hw.row (by decide)⟩
  have hall : ∀ b, b < w8.heap.size → (Value.slice A0 en c0).ownBlock ≠ some b → b ≠ x → b ≠ ub → b ≠ g → (w11.setCell ⟨g, 1, none⟩ (.slice A11 (k + 1) c11)).heap[b]? = w8.heap[b]? := fun b hb h1 h2 h3 h4 => (h12 b h4).trans ((h1011 b (by omega) h3).trans ((h910 b h2).trans (h89 b hb h1)))
  have hr11 : w11.heap[g]? = some (.cells #[.pointer (some ⟨d, 0, none⟩), .slice (some ⟨ub, 0, none⟩) l.length cap, .bool false] tLog (0, 0)) := (h1011 g (by omega) hgu).trans ((h910 g (by omega)).trans ((h89 g (by omega) (fun e => (hA0 g e).2.2 rfl)).trans ((hT8 g hTg).trans hw.row)))
  have hb9 : ∀ b, (Value.slice A9 (en + ls.length) c9).ownBlock = some b → b ≠ ub ∧ b ≠ g ∧ (T b ∨ w8.heap.size ≤ b) := fun b hb => by
    rcases hv9 b hb with e | e
    · exact ⟨(hA0 b e).2.1, (hA0 b e).2.2, .inl (hA0 b e).1⟩
    · exact ⟨by omega, by omega, .inr e⟩
  have hb11 : ∀ b, (Value.slice A11 (k + 1) c11).ownBlock = some b → b ≠ g ∧ (T b ∨ w8.heap.size ≤ b) := fun b hb => by
    rcases hv11 b hb with e | e
    · exact ⟨e ▸ hgu.symm, .inl (e ▸ hTub)⟩
    · exact ⟨by omega, .inr (by omega)⟩
  have hl8 := dlt hd8
  have obn : ∀ (A : Option Addr) (n m c : Nat), (Value.slice A n c).ownBlock = (Value.slice A m c).ownBlock := fun A n m c => by cases A <;> rfl
  have hacl : (ac.take k).length = k := by rw [List.length_take, hw.hac]; omega
  have hltl : (l.take k).length = k := by rw [List.length_take]; omega
  have hacg : ∀ (i : Nat) (a : AC), (ac.take k ++ [(A9, c9)])[i]? = some a → (i < k ∧ ac[i]? = some a) ∨ (i = k ∧ a = (A9, c9)) := fun i a h => by
    by_cases hi : i < k
    · rw [List.getElem?_append_left (by omega), List.getElem?_take_of_lt hi] at h
      exact .inl ⟨hi, h⟩
    · rw [List.getElem?_append_right (by omega), hacl] at h
      have hik : i - k = 0 := by
        have := (List.getElem?_eq_some_iff.1 h).1
        simp at this
        omega
      rw [hik] at h
      simp at h
      exact .inr ⟨by omega, h.symm⟩
  have hlg2 : ∀ (i : Nat) (s : Seg), (l.take k ++ [⟨era, first, base, ends ++ endsOf sz ls⟩])[i]? = some s → (i < k ∧ l[i]? = some s) ∨ (i = k ∧ s = ⟨era, first, base, ends ++ endsOf sz ls⟩) := fun i s h => by
    by_cases hi : i < k
    · rw [List.getElem?_append_left (by omega), List.getElem?_take_of_lt hi] at h
      exact .inl ⟨hi, h⟩
    · rw [List.getElem?_append_right (by omega), hltl] at h
      have hik : i - k = 0 := by
        have := (List.getElem?_eq_some_iff.1 h).1
        simp at this
        omega
      rw [hik] at h
      simp at h
      exact .inr ⟨by omega, h.symm⟩
  have hend : (ends ++ endsOf sz ls).length = en + ls.length := by rw [List.length_append, endsOf_length, hen]
  refine ⟨rfl, S8, fun b => T b ∨ (Value.slice A11 (k + 1) c11).ownBlock = some b ∨ (Value.slice A9 (en + ls.length) c9).ownBlock = some b, hd8.keep (fun b hb => hall b (hl8.1 b hb) (fun e => (hS8 b hb).2.1 (hA0 b e).1) (hS8 b hb).1 (fun e => (hS8 b hb).2.1 (e ▸ hTub)) (fun e => (hS8 b hb).2.1 (e ▸ hTg))) (by omega), ⟨.slice A11 (k + 1) c11, ac.take k ++ [(A9, c9)], ?_⟩, fun b ht hs => ?_, fun b hb => (hS8 b hb).2.2, fun b hb => ?_, ?_⟩
  · refine ⟨Go.heap_setCell_same w11 g 1 _ _ (.slice A11 (k + 1) c11) hr11, by rw [List.length_append, List.length_append, hacl, hltl]; rfl, ?_, fun i s a hi ha => ?_, fun i j a b q n m hi hj h1 h2 => ?_, .inl hTg, fun b hb => .inr (.inl hb), fun i a n q ha hq => ?_, fun b hb => ?_, fun s hs => ?_, by rw [List.length_append, hltl]; exact hk2⟩
    · have h := ownsRow_keep (w' := w11.setCell ⟨g, 1, none⟩ (.slice A11 (k + 1) c11)) ho11 (fun b hb => h12 b (hb11 b hb).1)
      have e : sRow (l.take k ++ [(⟨era, first, base, ends ++ endsOf sz ls⟩ : Seg)]) (ac.take k ++ [(A9, c9)]) = sRow (l.take k) (ac.take k) ++ [Value.int .u64 (era : Nat), .int .u64 (first : Nat), .bool base, .slice A9 (en + ls.length) c9] := by
        rw [sRow_snoc _ _ (by rw [hacl, hltl])]
        show _ ++ [Value.int .u64 (era : Nat), .int .u64 (first : Nat), .bool base, .slice A9 (ends ++ endsOf sz ls).length c9] = _
        rw [hend]
      rw [e, List.length_append, hltl]
      exact h
    · rcases hacg i a ha with ⟨hik, ha'⟩ | ⟨hik, ha'⟩
      · rcases hlg2 i s hi with ⟨_, hs'⟩ | ⟨hik', _⟩
        · have ho := hw.ends i s a hs' ha'
          refine ownsRow_keep ho (fun b hb => ?_)
          obtain ⟨cur, hc⟩ := ownsRow_type ho hb
          have hTb := hw.te i a _ b ha' hb
          have hbl := hw.lt b hTb
          exact (hall b (by omega) (fun e => (h0 b e).2.2 i a _ hik ha' hb) (by omega) (tyne b ub _ _ _ _ hc hcu (by decide)) (tyne b g _ _ _ _ hc hw.row (by decide))).trans (hT8 b hTb)
        · omega
      · rcases hlg2 i s hi with ⟨hik', _⟩ | ⟨_, hs'⟩
        · omega
        · subst ha'
          subst hs'
          show World.ownsRow _ 0 3 1 (.slice A9 (ends ++ endsOf sz ls).length c9) (ends ++ endsOf sz ls).length (ints (ends ++ endsOf sz ls))
          rw [hend, ints_app]
          refine ownsRow_keep ho10 (fun b hb => ?_)
          have h1 := hb9 b hb
          have h2 := (ownsRow_lt ho10 hb).2
          exact (h12 b h1.2.1).trans (h1011 b h2 h1.1)
    · rcases hacg i a hi with ⟨hik, ha'⟩ | ⟨hik, ha'⟩
      · rcases hacg j b hj with ⟨hjk, hb'⟩ | ⟨hjk, hb'⟩
        · exact hw.apart i j a b q n m ha' hb' h1 h2
        · subst hb'
          exfalso
          have hTq := hw.te i a n q ha' h1
          rw [obn _ _ (en + ls.length)] at h2
          rcases hv9 q h2 with e | e
          · exact (h0 q e).2.2 i a n hik ha' h1
          · have := hw.lt q hTq; omega
      · subst ha'
        rcases hacg j b hj with ⟨hjk, hb'⟩ | ⟨hjk, hb'⟩
        · exfalso
          have hTq := hw.te j b m q hb' h2
          rw [obn _ _ (en + ls.length)] at h1
          rcases hv9 q h1 with e | e
          · exact (h0 q e).2.2 j b m hjk hb' h2
          · have := hw.lt q hTq; omega
        · omega
    · rcases hacg i a ha with ⟨hik, ha'⟩ | ⟨hik, ha'⟩
      · exact .inl (hw.te i a n q ha' hq)
      · subst ha'
        rw [obn _ _ (en + ls.length)] at hq
        exact .inr (.inr hq)
    · rcases hb with hb | hb | hb
      · have := hw.lt b hb; omega
      · have := (ownsRow_lt ho11 hb).2; omega
      · have := (ownsRow_lt ho10 hb).2; omega
    · rcases List.mem_append.1 hs with hs | hs
      · exact hw.ok s (List.mem_of_mem_take hs)
      · simp only [List.mem_cons, List.not_mem_nil, or_false] at hs
        subst hs
        exact hok
  · have h1 := hS8 b hs
    have h2 := hl8.1 b hs
    rcases ht with ht | ht | ht
    · exact h1.2.1 ht
    · rcases (hb11 b ht).2 with e | e
      · exact h1.2.1 e
      · omega
    · rcases (hb9 b ht).2.2 with e | e
      · exact h1.2.1 e
      · omega
  · rcases hb with hb | hb | hb
    · exact .inl hb
    · exact (hb11 b hb).2.imp id (fun e => by omega)
    · exact (hb9 b hb).2.2.imp id (fun e => by omega)
  · have k9 : Kept (fun b => T b ∨ w.heap.size ≤ b) w8 w9 := Kept.of_grown hg9 (fun q e _ => .inl (hA0 q e.symm.symm).1)
    have k10 : Kept (fun b => T b ∨ w.heap.size ≤ b) w8 w10 := by rw [hw10]; exact k9.setCell (p := ⟨x, 3, none⟩) (fun _ => .inr hxw) _
    have k11 : Kept (fun b => T b ∨ w.heap.size ≤ b) w8 w11 := ((k10.alloc _).drew).step (M1 := fun b => b = ub) (Kept.of_grown hg11 (fun q e _ => (Option.some.inj e).symm)) (fun b _ e => .inl (e ▸ hTub))
    have k12 : Kept (fun b => T b ∨ w.heap.size ≤ b) w8 (w11.setCell ⟨g, 1, none⟩ (.slice A11 (k + 1) c11)) := k11.setCell (p := ⟨g, 1, none⟩) (fun _ => .inl hTg) _
    exact (hk8.mono (M' := fun b => S b ∨ T b) (fun b _ e => .inl e)).step k12 (fun b hb e => by
      rcases e with e | e
      · exact .inr e
      · omega)
end Go.Proofs.YtnjifhbooikdbaaGreatDoor.Wa

/-! Package wal: Append to a log that has segments: the walk. -/
namespace Go.Proofs.YtnjifhbooikdbaaGreatDoor.Wa
open Go.RowKit Go.Maps By Mp Dk

set_option maxRecDepth 100000 in
set_option maxHeartbeats 8000000 in
theorem append_any (g d : Nat) (s : DS) (S T : Nat → Prop) (l : List Seg) (v : Value) (ac : List AC) (A : Option Addr) (c : Nat) (ls : List Bs) (w : World) (hw : LogW w g d l false T v ac) (hne : 0 < l.length) (hd : DiskAt w d s S) (hsep : ∀ b, T b → S b → False) (hcnt : s.cnt ≤ 68719476736)
    (hr : LiesL w w.heap.size A ls) (h6 : ∀ l ∈ ls, l.length ≤ 65520) (hn : ls.length ≤ 1099511627776) (hls : 0 < ls.length)
    (hin : (lastS l).2.size + (framesB ls).length ≤ 70368744177664 ∧ (lastS l).2.next + ls.length < 18446744073709551616 ∧ (lastS l).2.ends.length + ls.length ≤ 1099511627776 ∧ chgE s 1 (lastS l).2.name ((lastS l).2.size : Int) (framesB ls) = 0) (hfew2 : l.length < 1099511627776) :
    Calls Tryz.prog 7 #[.pointer (some ⟨g, 0, none⟩), .slice A ls.length c] w (AppPost g d (appL l ls) (appD l s ls) S T w) := by
  have hlog : LogAt w g d l false T := ⟨_, _, hw⟩
  have HLW := Lib.hid hw
  have HLOG := Lib.hid hlog
  have HD := Lib.hid hd
  have HSEP := Lib.hid hsep
  have HR := Lib.hid hr
  have H6 := Lib.hid h6
  have HWK := Lib.hid (works_any g d l false T w hlog)
  have HLA := Lib.hid (last_any g d l false T v ac w hw hne)
  obtain ⟨ub, cap, A', c', hv, -⟩ := hw.at_ hne
  subst hv
  have HNE := Lib.hid hne
  have HIN := Lib.hid hin
  have HFW := Lib.hid hfew2
  clear hlog hd hsep hr h6 hw hne hin hfew2
  go_enter Tryz.func7, Tryz.ntmps7
  go_wp2_with fail
  refine HWK.out.mono ?_
  rintro e w' ⟨rfl, rfl⟩
  go_wp2_with fail
  refine HLA.out.mono ?_
  rintro e w1 ⟨k, sg, A0, c0, rfl, hlst, hok, hcase, hb1⟩
  have HB1 := Lib.hid hb1
  have hin : sg.size + (framesB ls).length ≤ 70368744177664 ∧ sg.next + ls.length < 18446744073709551616 ∧ sg.ends.length + ls.length ≤ 1099511627776 ∧ chgE s 1 sg.name (sg.size : Int) (framesB ls) = 0 := by
    have h := HIN.out
    rw [hlst] at h
    exact h
  have HKL := Lib.hid (show k ≤ l.length ∧ k + 1 ≤ 1099511627776 by have := HFW.out; rcases hcase with ⟨h, -⟩ | ⟨h, -⟩ <;> exact ⟨by omega, by omega⟩)
  have he0 : w.ownsRow 0 3 1 (.slice A0 sg.ends.length c0) sg.ends.length (ints sg.ends) := by
    rcases hcase with ⟨-, h1, h2⟩ | ⟨-, h1, h2, h3⟩
    · exact HLW.out.ends k sg (A0, c0) h1 h2
    · rw [h1, h2, h3]
      exact World.ownsRow_nil w 0 _ 1
  have ht0 : ∀ q, (Value.slice A0 sg.ends.length c0).ownBlock = some q → T q ∧ w.heap[q]? ≠ none ∧ ∀ (i : Nat) (a : AC) (n : Nat), i < k → ac[i]? = some a → (Value.slice a.1 n a.2).ownBlock = some q → False := fun q hq => by
    rcases hcase with ⟨-, h1, h2⟩ | ⟨-, h1, h2, h3⟩
    · have hT := HLW.out.te k (A0, c0) _ q h2 hq
      refine ⟨hT, ?_, fun i a n hik ha hb => ?_⟩
      · rw [Array.getElem?_eq_getElem (HLW.out.lt q hT)]
        intro e
        cases e
      · have := HLW.out.apart i k a (A0, c0) q n _ ha h2 hb hq
        omega
    · rw [h2] at hq
      cases hq
  have HE0 := Lib.hid he0
  have HT0 := Lib.hid ht0
  have hli : LiesI w w.heap.size A0 sg.ends := rowI_lies rfl he0
  have HLI := Lib.hid hli
  have HOK := Lib.hid hok
  have HSZ := Lib.hid (fun w' (hb : Below w.heap.size w w') => seg_size_any sg A0 c0 w' hok.next (Nat.le_trans hok.len (by decide)) ((hli.below hb).more hb.size))
  have HNX := Lib.hid (fun w' => seg_next_any sg A0 c0 w' hok.next (Nat.le_trans hok.len (by decide)))
  have HNM := Lib.hid (fun w' => lab_name_any sg w' hok.era (by have := hok.next; unfold Seg.next at this; omega))
  have HNL := Lib.hid (lab_len hok)
  have HAL2 := Lib.hid (show appL l ls = l.take k ++ [⟨sg.era, sg.first, sg.base, sg.ends ++ endsOf sg.size ls⟩] by unfold appL; rw [hlst])
  have HAD2 := Lib.hid (show appD l s ls = chgS s 1 sg.name (sg.size : Int) (framesB ls) by unfold appD; rw [hlst])
  have HOK2 := Lib.hid (show SegOk ⟨sg.era, sg.first, sg.base, sg.ends ++ endsOf sg.size ls⟩ from ⟨by
    have h1 := hin.2.1
    unfold Seg.next at h1 ⊢
    show sg.first + (sg.ends ++ endsOf sg.size ls).length < _
    rw [List.length_append, endsOf_length]
    omega, hok.era, by
    show (sg.ends ++ endsOf sg.size ls).length ≤ _
    rw [List.length_append, endsOf_length]
    exact hin.2.2.1⟩)
  obtain ⟨sz, hsz⟩ : ∃ sz, sz = sg.size := ⟨_, rfl⟩
  obtain ⟨nx, hnx⟩ : ∃ nx, nx = sg.next := ⟨_, rfl⟩
  obtain ⟨nm, hnm⟩ : ∃ nm, nm = sg.name := ⟨_, rfl⟩
  rw [← hsz] at HSZ HAL2 HAD2 HOK2 hin
  rw [← hnx] at HNX hin
  rw [← hnm] at HNM HNL HAD2 hin
  have HA := Lib.hid hin.1
  have HNB := Lib.hid hin.2.1
  have HEB := Lib.hid hin.2.2.1
  have HER := Lib.hid hin.2.2.2
  clear hb1 HWK HLA hcase hlst hin he0 ht0 hli hok hsz hnx hnm HIN
  obtain ⟨era, first, base, ends⟩ := sg
  obtain ⟨en, hen⟩ : ∃ en, en = ends.length := ⟨_, rfl⟩
  dsimp only [segV, segC, labV, labC] at HE0 HT0 HLI HOK HSZ HNX HNM HOK2 HEB HAL2 ⊢
  rw [← hen] at HE0 HT0 HSZ HNX HEB ⊢
  have HEN := Lib.hid hen
  clear hen
  go_upto_region 5 with fail
  have HX2 := Lib.hid (heap_alloc_new w1 (.cells #[.int .u64 (era : Nat), .int .u64 (first : Nat), .bool base, .slice A0 en c0] 59))
  have HB2 := Lib.hid (bAlloc HB1.out (.cells #[.int .u64 (era : Nat), .int .u64 (first : Nat), .bool base, .slice A0 en c0] 59))
  obtain ⟨x, hx⟩ : ∃ x, x = w1.heap.size := ⟨_, rfl⟩
  generalize w1.alloc (.cells #[.int .u64 (era : Nat), .int .u64 (first : Nat), .bool base, .slice A0 en c0] 59) = w2 at *
  rw [← hx] at HX2 ⊢
  have HXW := Lib.hid (show w.heap.size ≤ x by rw [hx]; exact HB1.out.size)
  clear hx
  have HBX := Lib.hid (fun (w' : World) (hb : Below w2.heap.size w2 w') => (show w'.cell? ⟨x, 0, none⟩ = some (.int .u64 (era : Nat)) ∧ w'.cell? ⟨x, 1, none⟩ = some (.int .u64 (first : Nat)) ∧ w'.cell? ⟨x, 2, none⟩ = some (.bool base) ∧ w'.cell? ⟨x, 3, none⟩ = some (.slice A0 en c0) from by
    have h' := (hb.block x (row_lt HX2.out)).trans HX2.out
    exact ⟨(cell_of_row w' x 0 _ _ _ h').trans rfl, (cell_of_row w' x 1 _ _ _ h').trans rfl, (cell_of_row w' x 2 _ _ _ h').trans rfl, (cell_of_row w' x 3 _ _ _ h').trans rfl⟩))
  obtain ⟨b0, b1, b2, b3⟩ := HBX.out w2 (Below.refl _ _)
  go_wp2_with fail
  refine (HSZ.out _ HB2.out).mono ?_
  rintro e w3 ⟨rfl, hb3⟩
  have HB23 := Lib.hid hb3
  have HB3 := Lib.hid (By.ext HB2.out hb3)
  clear b0 b1 b2 b3 hb3
  have HFR := Lib.hid (frames_any A c sz ls w3 ((HR.out.below HB3.out).more HB3.out.size) H6.out hn HA.out)
  go_wp2_with fail
  refine HFR.out.mono ?_
  rintro e w4 ⟨vd, vu, rfl, hod, hou, hb4⟩
  obtain ⟨Ad, cd, hvd, hcd, -, -, hld, -⟩ := hod.form
  obtain ⟨Au, cu, hvu⟩ := ownsRow_form hou
  rw [endsOf_length] at hvu
  subst hvd
  subst hvu
  have HOD := Lib.hid hod
  have HOU := Lib.hid hou
  have HLD := Lib.hid hld
  have HCD := Lib.hid hcd
  have HB34 := Lib.hid hb4
  have HB4 := Lib.hid (By.ext HB3.out hb4)
  have HB24 := Lib.hid (By.ext HB23.out hb4)
  clear hod hou hld hb4 hcd HFR
  obtain ⟨b0, b1, b2, b3⟩ := HBX.out w4 HB24.out
  have e8 : ¬ ((ls.length : Int) > 18446744073709551615 - (nx : Int)) := by have := HNB.out; omega
  have e9 : (nx : Int) ≤ 18446744073709551615 := by have := HNB.out; omega
  go_wp2_with fail
  refine (HNX.out _).mono ?_
  rintro e w5 ⟨rfl, hb5⟩
  have HB45 := Lib.hid hb5
  have HB5 := Lib.hid (By.ext HB4.out hb5)
  have HB25 := Lib.hid (By.ext HB24.out hb5)
  clear b0 b1 b2 b3 hb5
  have hnei : ¬ ((ls.length : Int) = 0) := by omega
  have hneb : ((ls.length : Int) == 0) = false := by simpa using hnei
  go_upto_region 12 with fail
  clear hnei hneb e8 e9
  have HGL := Lib.hid (show g < w.heap.size from row_lt HLW.out.row)
  have hg5 : ∀ w', Below w5.heap.size w5 w' → w'.cell? ⟨g, 0, none⟩ = some (.pointer (some ⟨d, 0, none⟩)) := fun w' hb => by
    obtain ⟨v, ac, h⟩ := LogAt.below HLOG.out (By.ext HB5.out hb)
    rw [cell_of_row w' g 0 _ _ _ h.row]
    rfl
  have HDW := Lib.hid (show d < w3.heap.size from Nat.lt_of_lt_of_le ((dlt HD.out).1 d (dlt HD.out).2.1) HB3.out.size)
  have HAL := Lib.hid (show (framesB ls).length ≤ 140737488355328 by have := HA.out; omega)
  have HTG := Lib.hid HLW.out.tg
  have HALL := Lib.hid (fun (w' : World) (hb : Below w5.heap.size w5 w') => And.intro (hg5 w' hb) (HBX.out w' (By.ext HB25.out hb)))
  clear hg5
  go_region_held3 (fun w' => w'.cell? ⟨g, 0, none⟩ = some (.pointer (some ⟨d, 0, none⟩)) ∧ w'.cell? ⟨x, 0, none⟩ = some (.int .u64 (era : Nat)) ∧ w'.cell? ⟨x, 1, none⟩ = some (.int .u64 (first : Nat)) ∧ w'.cell? ⟨x, 2, none⟩ = some (.bool base) ∧ w'.cell? ⟨x, 3, none⟩ = some (.slice A0 en c0))
    (first
      | with_reducible assumption
      | exact HALL.out _ (Below.refl _ _)
      | exact HALL.out _ (Below.refl _ _).drew
      | exact HALL.out _ HB6.out
      | exact HALL.out _ HB7.out
      | exact HC8.out)
    (first
      | (go_at_call 24; refine (HNM.out _).mono ?_; rintro e w6 ⟨rfl, hb6⟩
         have HB6 := Lib.hid (show Below w5.heap.size w5 w6 from By.ext (Below.refl _ _).drew hb6)
         clear hb6)
      | (go_at_call 21; refine (HSZ.out _ (By.ext HB5.out HB6.out)).mono ?_; rintro e w7 ⟨rfl, hb7⟩
         have HB7 := Lib.hid (show Below w5.heap.size w5 w7 from By.ext HB6.out hb7)
         have hput := put_frames (nm := nm) (off := (sz : Int)) (HD.out.below (By.ext HB5.out HB7.out)) hcnt HDW.out HOD.out (By.ext HB45.out HB7.out) HCD.out HAL.out HNL.out HER.out
         have HPUT := Lib.hid hput
         clear hb7 hput)
      | (go_at_call 23; refine HPUT.out.mono ?_; rintro e w8 ⟨rfl, S8, hd8, hS8, hk8⟩
         have HC8 := Lib.hid (show w8.cell? ⟨g, 0, none⟩ = some (.pointer (some ⟨d, 0, none⟩)) ∧ w8.cell? ⟨x, 0, none⟩ = some (.int .u64 (era : Nat)) ∧ w8.cell? ⟨x, 1, none⟩ = some (.int .u64 (first : Nat)) ∧ w8.cell? ⟨x, 2, none⟩ = some (.bool base) ∧ w8.cell? ⟨x, 3, none⟩ = some (.slice A0 en c0) from by
           have hc7 := HALL.out _ HB7.out
           have hSg : ¬ S g := fun e => HSEP.out g HTG.out e
           have hSx : ¬ S x := fun e => by have := (dlt HD.out).1 x e; have := HXW.out; omega
           have hz7 := (By.ext HB5.out HB7.out).size
           have hxl := row_lt HX2.out
           have hz27 := (By.ext HB25.out HB7.out).size
           have hgb := hk8.block g (by have := HGL.out; omega) hSg
           have hxb := hk8.block x (by omega) hSx
           exact ⟨(World.cell?_of_block (w := w7) hgb).trans hc7.1, (World.cell?_of_block (w := w7) hxb).trans hc7.2.1, (World.cell?_of_block (w := w7) hxb).trans hc7.2.2.1, (World.cell?_of_block (w := w7) hxb).trans hc7.2.2.2.1, (World.cell?_of_block (w := w7) hxb).trans hc7.2.2.2.2⟩)
         have HX8 := Lib.hid (show w8.heap[x]? = some (.cells #[.int .u64 (era : Nat), .int .u64 (first : Nat), .bool base, .slice A0 en c0] tSeg (0, 0)) from by
           have hSx : ¬ S x := fun e => by have := (dlt HD.out).1 x e; have := HXW.out; omega
           have hxl := row_lt HX2.out
           have hz27 := (By.ext HB25.out HB7.out).size
           exact (hk8.block x (by omega) hSx).trans (((By.ext HB25.out HB7.out).block x hxl).trans HX2.out))
         have HK08 := Lib.hid (show Kept S w w8 from (Kept.of_below (M := S) (By.ext HB5.out HB7.out)).step hk8 (fun b _ e => e))
         have HOU8 := Lib.hid (show OwnI w3.heap.size w8 (.slice Au ls.length cu) (endsOf sz ls) from ownsRow_keep HOU.out (fun b hb => by
           have h1 := ownsRow_lt HOU.out hb
           have hz3 := HB3.out.size
           have hz47 := (By.ext HB45.out HB7.out).size
           exact (hk8.block b (by omega) (fun e => by have := (dlt HD.out).1 b e; omega)).trans ((By.ext HB45.out HB7.out).block b h1.2)))
         have HS8W := Lib.hid (show ∀ b, S8 b → b ≠ x ∧ ¬ T b ∧ (S b ∨ w.heap.size ≤ b) from fun b hb => by
           have hz7 := (By.ext HB5.out HB7.out).size
           have hz27 := (By.ext HB25.out HB7.out).size
           have hxl := row_lt HX2.out
           rcases hS8 b hb with e | e
           · exact ⟨fun e' => by have := (dlt HD.out).1 b e; have := HXW.out; omega, fun e' => HSEP.out b e' e, .inl e⟩
           · exact ⟨by omega, fun e' => by have := HLW.out.lt b e'; omega, .inr (by omega)⟩)
         have HD8 := Lib.hid hd8
         clear hd8 hS8 hk8))
  clear HALL HNM HSZ HNX HPUT
  have hE8 : ∀ q, (Value.slice A0 en c0).ownBlock = some q → w8.heap[q]? = w.heap[q]? := fun q hq => HK08.out.block q (HLW.out.lt q (HT0.out q hq).1) (fun e => HSEP.out q (HT0.out q hq).1 e)
  have HE8 := Lib.hid (ownsRow_keep HE0.out hE8)
  clear hE8
  obtain ⟨b0, b1, b2, b3, b4⟩ := HC8.out
  go_upto_region 15 with fail
  have hul : (endsOf sz ls).length = ls.length := endsOf_length sz ls
  have hou8 : w8.ownsRow w3.heap.size 3 1 (.slice Au ls.length cu) ls.length (ints (endsOf sz ls)) := by
    have h := HOU8.out
    unfold OwnI at h
    rw [hul] at h
    exact h
  obtain ⟨au, hau, hcu⟩ := rowCells hou8 hls
  subst hau
  have HCU := Lib.hid hcu
  have HIL := Lib.hid (show (ints (endsOf sz ls)).length = ls.length * 1 by simp [ints, hul])
  have HI1 := Lib.hid (ints_one (l := endsOf sz ls))
  have HXE := Lib.hid (show (Value.slice A0 en c0).ownBlock ≠ some x from fun e => by have := HLW.out.lt x (HT0.out x e).1; have := HXW.out; omega)
  clear hou8 hcu hul
  go_wp2_with (at_builtin; refine wpList_appI rfl (.tmp 68) (.tmp 69) rfl 0 (.slice A0 en c0) en (ints ends) rfl HE8.out (some au) ls.length cu rfl (ints (endsOf sz ls)) HIL.out (fun _ => ⟨au, rfl, HCU.out⟩) HI1.out (by have := HEB.out; omega) (Nat.zero_le _) ?_; intro v9 w9 ho9 hg9 hv9; obtain ⟨A9, c9, hq9⟩ := ownsRow_form ho9; subst hq9; have hx9 := (hg9.block x (row_lt HX8.out) (fun e => HXE.out e.symm)).trans HX8.out; have hf9 : w9.frozen? ⟨x, 3, none⟩ = false := frozen_of_row w9 x 3 _ _ hx9; have hc9 : w9.cell? ⟨x, 3, none⟩ = some (.slice A0 en c0) := (cell_of_row w9 x 3 _ _ _ hx9).trans rfl)
  have hx10 : (w9.setCell ⟨x, 3, none⟩ (.slice A9 (en + ls.length) c9)).heap[x]? = some (.cells #[.int .u64 (era : Nat), .int .u64 (first : Nat), .bool base, .slice A9 (en + ls.length) c9] tSeg (0, 0)) := Go.heap_setCell_same w9 x 3 _ _ (.slice A9 (en + ls.length) c9) hx9
  have HX10 := Lib.hid hx10
  have HXL := Lib.hid (row_lt HX8.out)
  have HG9 := Lib.hid hg9
  have HV9 := Lib.hid hv9
  have hxb9 : ∀ b, (Value.slice A9 (en + ls.length) c9).ownBlock = some b → b ≠ x := fun b hb e => by
    rcases hv9 b hb with h | h
    · exact HXE.out (e ▸ h)
    · have := HXL.out; omega
  have HO10 := Lib.hid (show (w9.setCell ⟨x, 3, none⟩ (.slice A9 (en + ls.length) c9)).ownsRow 0 3 1 (.slice A9 (en + ls.length) c9) (en + ls.length) (ints ends ++ ints (endsOf sz ls)) from ownsRow_keep ho9 (fun b hb => heap_setCell_other w9 ⟨x, 3, none⟩ b _ (hxb9 b hb)))
  clear hf9 hc9 ho9 hg9 hv9 hx10 b0 b1 b2 b3 b4 HI1 HCU HIL hxb9
  obtain ⟨w10, hw10⟩ : ∃ w10, w10 = w9.setCell ⟨x, 3, none⟩ (.slice A9 (en + ls.length) c9) := ⟨_, rfl⟩
  rw [← hw10] at HX10 HO10 ⊢
  have HW10 := Lib.hid hw10
  have hz910 : w10.heap.size = w9.heap.size := by rw [hw10]; exact size_setCell' _ _ _
  have HZ := Lib.hid (show w8.heap.size ≤ w10.heap.size by rw [hz910]; exact HG9.out.size)
  clear hx9 hw10 hz910
  have hT10 : ∀ b c e, w.heap[b]? = some (.cells c e (0, 0)) → T b → e ≠ 3 → w10.heap[b]? = w.heap[b]? := fun b c e hb hTb he => by
    have hbl := HLW.out.lt b hTb
    have hne : (Value.slice A0 en c0).ownBlock ≠ some b := fun h => by
      obtain ⟨cur, hc⟩ := ownsRow_type HE0.out h
      rw [hb] at hc
      injection hc with hc
      injection hc with _ hc
      exact he hc
    have hbx : b ≠ x := by have := HXW.out; omega
    rw [HW10.out]
    exact (heap_setCell_other w9 ⟨x, 3, none⟩ b _ hbx).trans ((HG9.out.block b (Nat.lt_of_lt_of_le hbl HK08.out.size) (fun e => hne e.symm)).trans (HK08.out.block b hbl (fun e => HSEP.out b hTb e)))
  have HR10 := Lib.hid ((hT10 g _ _ HLW.out.row HTG.out (by decide)).trans HLW.out.row)
  obtain ⟨cub, hcub⟩ := ownsRow_type HLW.out.segs (b := ub) rfl
  have HSG := Lib.hid (show w10.ownsRow 0 tSeg 4 (.slice (some ⟨ub, 0, none⟩) k cap) k (sRow (l.take k) (ac.take k)) from by
    have h := ownsRow_keep (w' := w10) HLW.out.segs (fun b hb => by
      have hb : ub = b := by simpa [Value.ownBlock] using hb
      subst hb
      exact hT10 ub _ _ hcub (HLW.out.tv ub rfl) (by decide))
    have h2 := ownsRow_take h HKL.out.1
    rw [sRow_take k HLW.out.hac HKL.out.1] at h2
    exact h2)
  have HCAP := Lib.hid (show l.length ≤ cap by
    rcases HLW.out.segs.2 with ⟨h1, h2⟩ | ⟨q, cap', cur, hv, hb, hg, hnc, -⟩
    · cases h1
    · injection hv with e1 e2 e3
      omega)
  clear hT10 hcub
  have b0 : w10.cell? ⟨x, 0, none⟩ = some (.int .u64 (era : Nat)) := (cell_of_row w10 x 0 _ _ _ HX10.out).trans rfl
  have b1 : w10.cell? ⟨x, 1, none⟩ = some (.int .u64 (first : Nat)) := (cell_of_row w10 x 1 _ _ _ HX10.out).trans rfl
  have b2 : w10.cell? ⟨x, 2, none⟩ = some (.bool base) := (cell_of_row w10 x 2 _ _ _ HX10.out).trans rfl
  have b3 : w10.cell? ⟨x, 3, none⟩ = some (.slice A9 (en + ls.length) c9) := (cell_of_row w10 x 3 _ _ _ HX10.out).trans rfl
  have b4 : w10.cell? ⟨g, 1, none⟩ = some (.slice (some ⟨ub, 0, none⟩) l.length cap) := (cell_of_row w10 g 1 _ _ _ HR10.out).trans rfl
  have b5 : (w10.alloc (.cells #[.int .u64 (era : Nat), .int .u64 (first : Nat), .bool base, .slice A9 (en + ls.length) c9] 59)).cell? ⟨g, 1, none⟩ = some (.slice (some ⟨ub, 0, none⟩) l.length cap) := (World.cell?_alloc_lt w10 _ ⟨g, 1, none⟩ (row_lt HR10.out)).trans b4
  have k1 : (k : Int) ≤ (cap : Int) := by have := HCAP.out; have := HKL.out.1; omega
  have k2 : (0 : Int) ≤ (k : Int) := by omega
  have HNC := Lib.hid (show ∀ (j : Nat) (u : Value), [Value.int .u64 (era : Nat), .int .u64 (first : Nat), .bool base, .slice A9 (en + ls.length) c9][j]? = some u → (w10.alloc (.cells #[.int .u64 (era : Nat), .int .u64 (first : Nat), .bool base, .slice A9 (en + ls.length) c9] 59)).drew.cell? ((⟨w10.heap.size, 0, none⟩ : Addr).add j) = some u from by
    intro j u hu
    rw [plainAdd, Nat.zero_add]
    refine Eq.trans (cell_of_row (w10.alloc (.cells #[.int .u64 (era : Nat), .int .u64 (first : Nat), .bool base, .slice A9 (en + ls.length) c9] 59)) _ j _ _ _ (heap_alloc_new w10 _)) ?_
    simpa using hu)
  have HN1 := Lib.hid (show ∀ u ∈ [Value.int .u64 (era : Nat), .int .u64 (first : Nat), .bool base, .slice A9 (en + ls.length) c9], u.oneCell' = true from by
    intro u hu
    simp only [List.mem_cons, List.not_mem_nil, or_false] at hu
    rcases hu with rfl | rfl | rfl | rfl <;> rfl)
  have HRA := Lib.hid (show (w10.alloc (.cells #[.int .u64 (era : Nat), .int .u64 (first : Nat), .bool base, .slice A9 (en + ls.length) c9] 59)).drew.heap[g]? = _ from (heap_alloc_old w10 _ (row_lt HR10.out)).trans HR10.out)
  have HSA := Lib.hid (show (w10.alloc (.cells #[.int .u64 (era : Nat), .int .u64 (first : Nat), .bool base, .slice A9 (en + ls.length) c9] 59)).drew.ownsRow 0 tSeg 4 (.slice (some ⟨ub, 0, none⟩) k cap) k (sRow (l.take k) (ac.take k)) from HSG.out.alloc _)
  have HGU := Lib.hid (show g ≠ ub from fun e => by
    obtain ⟨cub, hcub⟩ := ownsRow_type HLW.out.segs (b := ub) rfl
    rw [← e, HLW.out.row] at hcub
    injection hcub with h
    injection h with _ h
    exact absurd h (by decide))
  have HZA := Lib.hid (show (w10.alloc (.cells #[.int .u64 (era : Nat), .int .u64 (first : Nat), .bool base, .slice A9 (en + ls.length) c9] 59)).drew.heap.size = w10.heap.size + 1 from World.size_alloc w10 _)
  go_region_law (refine step_appS2 rfl (.tmp 78) (.tmp 80) rfl 0 (.slice (some ⟨ub, 0, none⟩) k cap) k (sRow (l.take k) (ac.take k)) rfl HSA.out ⟨w10.heap.size, 0, none⟩ rfl [Value.int .u64 (era : Nat), .int .u64 (first : Nat), .bool base, .slice A9 (en + ls.length) c9] rfl HNC.out HN1.out (by have := HKL.out.2; omega) (Nat.zero_le _) ?_; intro v11 w11 ho11 hg11 hv11
                 obtain ⟨A11, c11, rfl⟩ := ownsRow_form ho11
                 have hr11 := (hg11.block g (row_lt HRA.out) (fun e => HGU.out (by simpa [Value.ownBlock] using e))).trans HRA.out
                 have hc11 : w11.cell? ⟨g, 1, none⟩ = some (.slice (some ⟨ub, 0, none⟩) l.length cap) := (cell_of_row w11 g 1 _ _ _ hr11).trans rfl
                 have hf11 : w11.frozen? ⟨g, 1, none⟩ = false := frozen_of_row w11 g 1 _ _ hr11
                 have HO11 := Lib.hid ho11
                 have HV11 := Lib.hid (show ∀ b, (Value.slice A11 (k + 1) c11).ownBlock = some b → b = ub ∨ w10.heap.size < b from fun b hb => by
                   rcases hv11 b hb with h | h
                   · exact .inl (by simpa [Value.ownBlock] using h.symm)
                   · rw [HZA.out] at h
                     exact .inr (by omega))
                 have HG11 := Lib.hid (show (w10.alloc (.cells #[.int .u64 (era : Nat), .int .u64 (first : Nat), .bool base, .slice A9 (en + ls.length) c9] 59)).drew.grownBy w11 (some ub) from hg11)
                 clear ho11 hr11 hg11 hv11)
  all_goals
    go_wp2
    go_ret
    rw [HAL2.out, HAD2.out]
    exact appended2 HLW.out HSEP.out HKL.out.1 HKL.out.2 HEN.out HOK2.out HT0.out (fun q hq => ownsRow_type HE0.out hq) HXL.out HXW.out HD8.out HS8W.out HK08.out HG9.out HV9.out HW10.out HO10.out HG11.out HV11.out HO11.out
end Go.Proofs.YtnjifhbooikdbaaGreatDoor.Wa

/-! Package wal: label.read, as a contract of a call. -/
namespace Go.Proofs.YtnjifhbooikdbaaGreatDoor.Wa
open Go.RowKit Go.Maps By Mp Dk

/-- Where record k begins, by the ends. -/
def atE (ends : List Nat) (k : Nat) : Nat := if k = 0 then 0 else ends[k - 1]?.getD 0
/-- The ends are those of the records that stand whole at the beginning of the bytes. -/
structure Scan (first : Nat) (B : Bs) (ends : List Nat) : Prop where
  few : first + ends.length ≤ 18446744073709551615
  at_ : ∀ k (h : k < ends.length), ∃ d used, CoP.unR (B.drop (atE ends k)) = (d, used, 0) ∧ ends[k] = atE ends k + used
  in_ : ∀ k, k ≤ ends.length → atE ends k ≤ B.length
  stop : first + ends.length = 18446744073709551615 ∨ (CoP.unR (B.drop (atE ends ends.length))).2.2 ≠ 0
theorem size_take (era first : Nat) (base : Bool) (ends : List Nat) {k : Nat} (hk : k ≤ ends.length) : (⟨era, first, base, ends.take k⟩ : Seg).size = atE ends k := by
  unfold Seg.size Seg.start Seg.next atE
  have hl : (ends.take k).length = k := by rw [List.length_take]; omega
  dsimp only
  rw [hl]
  by_cases h0 : k = 0
  · rw [if_pos (by omega), if_pos h0]
  · rw [if_neg (by omega), if_neg h0, show first + k - first - 1 = k - 1 by omega, List.getElem?_take_of_lt (by omega)]
theorem next_take (era first : Nat) (base : Bool) (ends : List Nat) {k : Nat} (hk : k ≤ ends.length) : (⟨era, first, base, ends.take k⟩ : Seg).next = first + k := by
  unfold Seg.next
  have hl : (ends.take k).length = k := by rw [List.length_take]; omega
  dsimp only
  rw [hl]
theorem atE_endsOf (rs : List Bs) : ∀ (n k : Nat), k ≤ rs.length → n + (framesB (rs.take k)).length = if k = 0 then n else (endsOf n rs)[k - 1]?.getD 0 := by
  induction rs with
  | nil =>
    intro n k hk
    have hk0 : k = 0 := Nat.le_zero.1 hk
    subst hk0
    rfl
  | cons r l ih =>
    intro n k hk
    cases k with
    | zero => rfl
    | succ k =>
      have h := ih (n + (r.length + 8)) k (by simpa using hk)
      have e : (framesB ((r :: l).take (k + 1))).length = r.length + 8 + (framesB (l.take k)).length := by
        show (CoP.frame r ++ framesB (l.take k)).length = _
        rw [List.length_append, CoP.frame_length]
      rw [e, if_neg (by omega), Nat.add_sub_cancel, ← Nat.add_assoc, h]
      have e2 : endsOf n (r :: l) = (n + (r.length + 8)) :: endsOf (n + (r.length + 8)) l := rfl
      rw [e2]
      cases k with
      | zero => rfl
      | succ k => rw [if_neg (by omega), List.getElem?_cons_succ, Nat.add_sub_cancel]
/-- The frames of records are read whole. -/
theorem scan_frames {first : Nat} {rs : List Bs} (h1 : first + rs.length ≤ 18446744073709551615) (h2 : ∀ r ∈ rs, r.length ≤ 65536) : Scan first (framesB rs) (endsOf 0 rs) := by
  have hat : ∀ k, k ≤ rs.length → atE (endsOf 0 rs) k = (framesB (rs.take k)).length := fun k hk => by
    have h := atE_endsOf rs 0 k hk
    rw [Nat.zero_add] at h
    rw [h]
    rfl
  have hlen := endsOf_length 0 rs
  have hdrop : ∀ k, (framesB rs).drop (framesB (rs.take k)).length = framesB (rs.drop k) := fun k => by
    conv => lhs; rw [← List.take_append_drop k rs, framesB_app]
    rw [List.take_append_drop, List.drop_left]
  refine ⟨by rw [hlen]; exact h1, fun k hk => ?_, fun k hk => ?_, .inr ?_⟩
  · have hk' : k < rs.length := by rw [← hlen]; exact hk
    rw [hat k (by omega), hdrop k, List.drop_eq_getElem_cons hk']
    refine ⟨rs[k], (CoP.frame rs[k]).length, CoP.unR_frame _ (h2 _ (List.getElem_mem hk')) _, ?_⟩
    have h := hat (k + 1) (by omega)
    rw [framesB_take hk', List.length_append] at h
    rw [← h]
    unfold atE
    rw [if_neg (by omega), Nat.add_sub_cancel, List.getElem?_eq_getElem hk, Option.getD_some]
  · rw [hat k (by omega)]
    exact framesB_le k
  · rw [hlen, hat _ (Nat.le_refl _), hdrop, List.drop_length]
    decide
def LabPost (era first : Nat) (base : Bool) (ends : List Nat) (w : World) (e : Ending) (w' : World) : Prop := ∃ A c, e = .returned (segV ⟨era, first, base, ends⟩ A c) ∧ OwnI w.heap.size w' (.slice A ends.length c) ends ∧ Below w.heap.size w w'
theorem ret_lab {w4 : World} {r : Nat} {a0 a1 a2 a3 : Value} {tm : Array Value} (h3 : tm[4]?.getD undef = .pointer (some ⟨r, 0, none⟩)) (hrow : w4.heap[r]? = some (.cells #[a0, a1, a2, a3] tSeg (0, 0))) :
    (results Tryz.f37 tm).run Tryz.prog w4 = .ok (.agg #[a0, a1, a2, a3]) w4 := by
  have hres : Tryz.f37.results = #[.cell 4 59] := by kernel_rfl
  have hlv : (loadVar 59 ⟨r, 0, none⟩).run Tryz.prog w4 = .ok (.agg #[a0, a1, a2, a3]) w4 := run_loadVar_row w4 _ _ _ _ _ _ hrow Tryz.underlying59 rfl (by kernel_rfl)
  unfold results
  rw [hres]
  simp [asAddr, hlv, h3]
/-- Where the loop stands behind k records. -/
structure LabAt (era first : Nat) (base : Bool) (ends : List Nat) (w : World) (k : Nat) (Av : Option Addr) (cv : Nat) (wr : World) : Prop where
  row5 : wr.heap[w.heap.size + 1 + 1]? = some (.cells #[.int .u64 (era : Nat), .int .u64 (first : Nat), .bool base, .slice Av k cv] tSeg (0, 0))
  row4 : wr.heap[w.heap.size + 1]? = some (.cells #[.int .u64 0, .int .u64 0, .bool false, .slice none 0 0] tSeg (0, 0))
  own : wr.ownsRow (w.heap.size + 3) 3 1 (.slice Av k cv) k (ints (ends.take k))
  below : Below w.heap.size w wr
  size : w.heap.size + 3 ≤ wr.heap.size
theorem LabAt.later {era first : Nat} {base : Bool} {ends : List Nat} {w : World} {k : Nat} {Av : Option Addr} {cv : Nat} {wr w' : World} (h : LabAt era first base ends w k Av cv wr) (hb : Below wr.heap.size wr w') : LabAt era first base ends w k Av cv w' := by
  have hz := hb.size
  have hz0 := h.size
  exact ⟨(hb.block _ (row_lt h.row5)).trans h.row5, (hb.block _ (row_lt h.row4)).trans h.row4, ownsRow_keep h.own (fun b hb' => hb.block b (ownsRow_lt h.own hb').2), h.below.trans (hb.mono (by omega)), by omega⟩
theorem LabAt.cells {era first : Nat} {base : Bool} {ends : List Nat} {w : World} {k : Nat} {Av : Option Addr} {cv : Nat} {wr : World} (h : LabAt era first base ends w k Av cv wr) :
    wr.cell? ⟨w.heap.size + 1 + 1, 0, none⟩ = some (.int .u64 (era : Nat)) ∧ wr.cell? ⟨w.heap.size + 1 + 1, 1, none⟩ = some (.int .u64 (first : Nat)) ∧ wr.cell? ⟨w.heap.size + 1 + 1, 2, none⟩ = some (.bool base) ∧ wr.cell? ⟨w.heap.size + 1 + 1, 3, none⟩ = some (.slice Av k cv) :=
  ⟨(cell_of_row wr _ 0 _ _ _ h.row5).trans rfl, (cell_of_row wr _ 1 _ _ _ h.row5).trans rfl, (cell_of_row wr _ 2 _ _ _ h.row5).trans rfl, (cell_of_row wr _ 3 _ _ _ h.row5).trans rfl⟩
theorem LabAt.cells4 {era first : Nat} {base : Bool} {ends : List Nat} {w : World} {k : Nat} {Av : Option Addr} {cv : Nat} {wr : World} (h : LabAt era first base ends w k Av cv wr) :
    (∀ i, wr.frozen? ⟨w.heap.size + 1, i, none⟩ = false) ∧ wr.cell? ⟨w.heap.size + 1, 0, none⟩ = some (.int .u64 0) ∧ wr.cell? ⟨w.heap.size + 1, 1, none⟩ = some (.int .u64 0) ∧ wr.cell? ⟨w.heap.size + 1, 2, none⟩ = some (.bool false) ∧ wr.cell? ⟨w.heap.size + 1, 3, none⟩ = some (.slice none 0 0) :=
  ⟨fun i => frozen_of_row wr _ i _ _ h.row4, (cell_of_row wr _ 0 _ _ _ h.row4).trans rfl, (cell_of_row wr _ 1 _ _ _ h.row4).trans rfl, (cell_of_row wr _ 2 _ _ _ h.row4).trans rfl, (cell_of_row wr _ 3 _ _ _ h.row4).trans rfl⟩
/-- The result's box, stored over. -/
abbrev set4 (w3 : World) (r : Nat) (q0 q1 q2 q3 : Value) : World := (((w3.setCell ⟨r, 0, none⟩ q0).setCell ⟨r, 1, none⟩ q1).setCell ⟨r, 2, none⟩ q2).setCell ⟨r, 3, none⟩ q3
theorem lab_fin {era first : Nat} {base : Bool} {ends : List Nat} {w : World} {k : Nat} {Av : Option Addr} {cv : Nat} {wr : World} (h : LabAt era first base ends w k Av cv wr) (hk : k = ends.length) :
    (set4 wr (w.heap.size + 1) (.int .u64 (era : Nat)) (.int .u64 (first : Nat)) (.bool base) (.slice Av k cv)).heap[w.heap.size + 1]? = some (.cells #[.int .u64 (era : Nat), .int .u64 (first : Nat), .bool base, .slice Av k cv] tSeg (0, 0)) ∧
    LabPost era first base ends w (.returned (.agg #[.int .u64 (era : Nat), .int .u64 (first : Nat), .bool base, .slice Av k cv])) (set4 wr (w.heap.size + 1) (.int .u64 (era : Nat)) (.int .u64 (first : Nat)) (.bool base) (.slice Av k cv)) := by
  refine ⟨Go.heap_setCell_same _ _ 3 _ _ _ (Go.heap_setCell_same _ _ 2 _ _ _ (Go.heap_setCell_same _ _ 1 _ _ _ (Go.heap_setCell_same wr _ 0 _ _ _ h.row4))), Av, cv, by rw [hk], ?_, bSet (bSet (bSet (bSet h.below _ (Nat.le_succ _) _) _ (Nat.le_succ _) _) _ (Nat.le_succ _) _) _ (Nat.le_succ _) _⟩
  have ho := h.own
  rw [hk, List.take_length] at ho
  have hk4 : ∀ b, b ≠ w.heap.size + 1 → (set4 wr (w.heap.size + 1) (.int .u64 (era : Nat)) (.int .u64 (first : Nat)) (.bool base) (.slice Av k cv)).heap[b]? = wr.heap[b]? := fun b hb =>
    (heap_setCell_other _ ⟨w.heap.size + 1, 3, none⟩ b _ hb).trans ((heap_setCell_other _ ⟨w.heap.size + 1, 2, none⟩ b _ hb).trans ((heap_setCell_other _ ⟨w.heap.size + 1, 1, none⟩ b _ hb).trans (heap_setCell_other _ ⟨w.heap.size + 1, 0, none⟩ b _ hb)))
  exact ownsRow_base (ownsRow_keep ho (fun b hb => hk4 b (by have := (ownsRow_lt ho hb).1; omega))) (by omega)
theorem lab_start (era first : Nat) (base : Bool) (ends : List Nat) (w : World) : LabAt era first base ends w 0 none 0 (((w.alloc (.cells #[.int .u64 (era : Nat), .int .u64 (first : Nat), .bool base] 56)).alloc (.cells #[.int .u64 0, .int .u64 0, .bool false, .slice none 0 0] 59)).alloc (.cells #[.int .u64 (era : Nat), .int .u64 (first : Nat), .bool base, .slice none 0 0] 59)) := by
  have hb := bAlloc (bAlloc (bAlloc (Below.refl w.heap.size w) (.cells #[.int .u64 (era : Nat), .int .u64 (first : Nat), .bool base] 56)) (.cells #[.int .u64 0, .int .u64 0, .bool false, .slice none 0 0] 59)) (.cells #[.int .u64 (era : Nat), .int .u64 (first : Nat), .bool base, .slice none 0 0] 59)
  refine ⟨?_, ?_, World.ownsRow_nil _ _ _ 1, hb, by simp⟩
  · have h := heap_alloc_new ((w.alloc (.cells #[.int .u64 (era : Nat), .int .u64 (first : Nat), .bool base] 56)).alloc (.cells #[.int .u64 0, .int .u64 0, .bool false, .slice none 0 0] 59)) (.cells #[.int .u64 (era : Nat), .int .u64 (first : Nat), .bool base, .slice none 0 0] 59)
    rw [World.size_alloc, World.size_alloc] at h
    exact h
  · have h := heap_alloc_new (w.alloc (.cells #[.int .u64 (era : Nat), .int .u64 (first : Nat), .bool base] 56)) (.cells #[.int .u64 0, .int .u64 0, .bool false, .slice none 0 0] 59)
    rw [World.size_alloc] at h
    exact (heap_alloc_old _ _ (by rw [World.size_alloc, World.size_alloc]; omega)).trans h
/-- The row behind one more record. -/
theorem lab_step {era first : Nat} {base : Bool} {ends : List Nat} {w : World} {k : Nat} {Av A4 : Option Addr} {cv c4 : Nat} {w3 w4 : World} {o : Obj} {x : Nat} (h : LabAt era first base ends w k Av cv w3) (hx : ends[k]? = some x) (hg : (w3.alloc o).grownBy w4 (Value.slice Av k cv).ownBlock)
    (ho : w4.ownsRow (w.heap.size + 3) 3 1 (.slice A4 (k + 1) c4) (k + 1) (ints (ends.take k) ++ [Value.int .i64 (x : Int)])) :
    LabAt era first base ends w (k + 1) A4 c4 (w4.setCell ⟨w.heap.size + 1 + 1, 3, none⟩ (.slice A4 (k + 1) c4)) := by
  have hz := hg.size
  rw [World.size_alloc] at hz
  have hz3 := h.size
  have hkeep : ∀ b, b < w.heap.size + 3 → w4.heap[b]? = w3.heap[b]? := fun b hb => (hg.block b (by rw [World.size_alloc]; omega) (fun e => by have := (ownsRow_lt h.own e.symm).1; omega)).trans (heap_alloc_old w3 _ (by omega))
  have hset : ∀ b, b ≠ w.heap.size + 1 + 1 → (w4.setCell ⟨w.heap.size + 1 + 1, 3, none⟩ (.slice A4 (k + 1) c4)).heap[b]? = w4.heap[b]? := fun b hb => heap_setCell_other w4 ⟨w.heap.size + 1 + 1, 3, none⟩ b _ hb
  have hi : ints (ends.take (k + 1)) = ints (ends.take k) ++ [Value.int .i64 (x : Int)] := by
    obtain ⟨hk, hxe⟩ := List.getElem?_eq_some_iff.1 hx
    rw [List.take_succ_eq_append_getElem hk, hxe]
    unfold ints
    rw [List.map_append]
    rfl
  refine ⟨Go.heap_setCell_same w4 _ 3 _ _ _ ((hkeep _ (by omega)).trans h.row5), (hset _ (by omega)).trans ((hkeep _ (by omega)).trans h.row4), ?_, ?_, by rw [size_setCell']; omega⟩
  · rw [hi]
    exact ownsRow_keep ho (fun b hb => hset b (by have := (ownsRow_lt ho hb).1; omega))
  · exact bSet ((bAlloc h.below _).grown hg (by rw [World.size_alloc]; omega) (fun q e => by have := (ownsRow_lt h.own e).1; omega)) _ (by show w.heap.size ≤ w.heap.size + 1 + 1; omega) _
/-- How many records are read. -/
def segN (r : Nat) (wr : World) : Nat := match wr.cell? ⟨r, 3, none⟩ with
  | some (.slice _ n _) => n
  | _ => 0
theorem LabAt.segN {era first : Nat} {base : Bool} {ends : List Nat} {w : World} {k : Nat} {Av : Option Addr} {cv : Nat} {wr : World} (h : LabAt era first base ends w k Av cv wr) : segN (w.heap.size + 1 + 1) wr = k := by
  unfold Wa.segN
  rw [h.cells.2.2.2]
set_option maxRecDepth 100000 in
set_option maxHeartbeats 4000000 in
theorem label_read_any (era first : Nat) (base : Bool) (A : Option Addr) (n c : Nat) (B : Bs) (ends : List Nat) (w : World) (hn : n = B.length) (hc : n ≤ c) (hm : n ≤ 140737488355328) (hr : Lies w w.heap.size A B) (hs : Scan first B ends) (hl : ends.length ≤ 1099511627776) :
    Calls Tryz.prog 37 #[.agg #[.int .u64 (era : Nat), .int .u64 (first : Nat), .bool base], .slice A n c] w (LabPost era first base ends w) := by
  have HS := Lib.hid hs
  have HL := Lib.hid hl
  have HUN := Lib.hid (fun (w' : World) (hb : Below w.heap.size w w') (st : Nat) (hst : st ≤ n) => Co.un_in A n c st w.heap.size B hn hc hst hm w' (hr.below hb) hb.size)
  have HN := Lib.hid hn
  clear hr hs hn hl hc hm
  go_enter Tryz.func37, Tryz.ntmps37
  go_wp2
  go_loopw [6] (fun _ wr => ∃ k Av cv, k ≤ ends.length ∧ LabAt era first base ends w k Av cv wr) (fun _ wr => ends.length - segN (w.heap.size + 1 + 1) wr)
  case atStart =>
    exact ⟨0, none, 0, Nat.zero_le _, lab_start era first base ends w⟩
  case round =>
    obtain ⟨k, Av, cv, hk, hat⟩ := hrel
    have HAT := Lib.hid hat
    have HK := Lib.hid hk
    have hlen : (ends.take k).length = k := by rw [List.length_take]; omega
    have hki : k ≤ 9223372036854775807 := by have := HL.out; omega
    have hfew := HS.out.few
    obtain ⟨c0, c1, c2, c3⟩ := hat.cells
    obtain ⟨nx, hnx⟩ : ∃ nx, nx = first + k := ⟨_, rfl⟩
    obtain ⟨st, hst⟩ : ∃ st, st = atE ends k := ⟨_, rfl⟩
    have hstn : st ≤ n := by have := HS.out.in_ k hk; rw [HN.out, hst]; exact this
    have HNX := Lib.hid (show ∀ w', Calls Tryz.prog 22 #[.agg #[.int .u64 (era : Nat), .int .u64 (first : Nat), .bool base, .slice Av k cv]] w' (RetB (.int .u64 (nx : Nat)) w') from fun w' => by
      have h := seg_next_any ⟨era, first, base, ends.take k⟩ Av cv w' (by rw [next_take _ _ _ _ hk]; omega) (by dsimp only; omega)
      rw [next_take _ _ _ _ hk, ← hnx] at h
      dsimp only [segV, segC] at h
      rw [hlen] at h
      exact h)
    have HSZ := Lib.hid (show ∀ w', Below wr.heap.size wr w' → Calls Tryz.prog 21 #[.agg #[.int .u64 (era : Nat), .int .u64 (first : Nat), .bool base, .slice Av k cv]] w' (RetB (.int .i64 (st : Nat)) w') from fun w' hb => by
      have h := seg_size_any ⟨era, first, base, ends.take k⟩ Av cv w' (by rw [next_take _ _ _ _ hk]; omega) (by dsimp only; omega) (rowI_lies hlen.symm (HAT.out.later hb).own)
      rw [size_take _ _ _ _ hk, ← hst] at h
      dsimp only [segV, segC] at h
      rw [hlen] at h
      exact h)
    have HST := Lib.hid hst
    have HNXT := Lib.hid hnx
    clear hst hnx hat hfew hlen
    go_wp2_with fail
    refine (HNX.out _).mono ?_
    rintro e w1 ⟨rfl, hb1⟩
    have HAT1 := Lib.hid (HAT.out.later hb1)
    have HB1 := Lib.hid hb1
    clear c0 c1 c2 c3 hb1
    by_cases hmx : nx < 18446744073709551615
    · have hmi : (nx : Int) < 18446744073709551615 := by omega
      obtain ⟨c0, c1, c2, c3⟩ := HAT1.out.cells
      go_wp2_with fail
      refine (HSZ.out _ HB1.out).mono ?_
      rintro e w2 ⟨rfl, hb2⟩
      have HAT2 := Lib.hid (HAT1.out.later hb2)
      have HB2 := Lib.hid (HB1.out.trans (hb2.mono HB1.out.size))
      clear c0 c1 c2 c3 hb2
      have hun := HUN.out w2 HAT2.out.below st hstn
      by_cases hlt : k < ends.length
      · obtain ⟨d, used, he1, he2⟩ := HS.out.at_ k hlt
        rw [← HST.out] at he1 he2
        rw [he1] at hun
        dsimp only at hun
        rw [show Co.nextI st used 0 = ((ends[k] : Nat) : Int) by rw [Co.nextI_ok, he2]; omega] at hun
        have HUN2 := Lib.hid hun
        clear hun
        go_wp2_with fail
        refine HUN2.out.mono ?_
        rintro e w3 ⟨vd, rfl, -, hb3⟩
        have HAT3 := Lib.hid (HAT2.out.later hb3)
        clear hb3
        obtain ⟨c0, c1, c2, c3⟩ := HAT3.out.cells
        obtain ⟨en, hen⟩ : ∃ en, en = ends[k] := ⟨_, rfl⟩
        rw [← hen]
        have HEN := Lib.hid hen
        clear hen he1 he2
        have HIA := Lib.hid (HAT3.out.own.alloc (.cells #[.int .i64 (en : Int)] 3))
        have HNC := Lib.hid (show ∀ (j : Nat) (u : Value), [Value.int .i64 (en : Int)][j]? = some u → (w3.alloc (.cells #[.int .i64 (en : Int)] 3)).cell? ((⟨w3.heap.size, 0, none⟩ : Addr).add j) = some u from by
          intro j u hu
          rw [plainAdd, Nat.zero_add, cell_of_row _ _ j _ _ _ (heap_alloc_new w3 _)]
          simpa using hu)
        have HN1 := Lib.hid (show ∀ u ∈ [Value.int .i64 (en : Int)], u.oneCell' = true from by
          intro u hu
          simp only [List.mem_cons, List.not_mem_nil, or_false] at hu
          subst hu
          rfl)
        have hlt2 : ends[k]? = some en := by rw [HEN.out]; exact List.getElem?_eq_getElem hlt
        have HLT := Lib.hid hlt2
        have HKS := Lib.hid (show k + 1 ≤ 4398046511104 by have := HL.out; omega)
        have HBZ := Lib.hid (show w.heap.size + 3 ≤ (w3.alloc (.cells #[.int .i64 (en : Int)] 3)).heap.size by rw [World.size_alloc]; have := HAT3.out.size; omega)
        have HR5 := Lib.hid HAT3.out.row5
        clear hlt2
        go_wp2_with (first
          | (at_builtin; refine wpList_appI rfl (.tmp 25) (.tmp 27) rfl (w.heap.size + 3) _ k (ints (ends.take k)) rfl HIA.out (some ⟨w3.heap.size, 0, none⟩) 1 1 rfl [Value.int .i64 (en : Int)] rfl (fun _ => ⟨_, rfl, HNC.out⟩) HN1.out HKS.out HBZ.out ?_; intro v4 w4 ho4 hg4 hv4
             obtain ⟨A4, c4, hv4'⟩ := ownsRow_form ho4
             subst hv4'
             have HLS := Lib.hid (lab_step HAT3.out HLT.out hg4 ho4)
             have hr4 : w4.heap[w.heap.size + 1 + 1]? = some (.cells #[.int .u64 (era : Nat), .int .u64 (first : Nat), .bool base, .slice Av k cv] tSeg (0, 0)) := (hg4.block _ (by rw [World.size_alloc]; have := HAT3.out.size; omega) (fun e => by have := (ownsRow_lt HAT3.out.own e.symm).1; omega)).trans ((heap_alloc_old w3 _ (by have := HAT3.out.size; omega)).trans HR5.out)
             have g3 : w4.cell? ⟨w.heap.size + 1 + 1, 3, none⟩ = some (.slice Av k cv) := (cell_of_row w4 _ 3 _ _ _ hr4).trans rfl
             have gf : w4.frozen? ⟨w.heap.size + 1 + 1, 3, none⟩ = false := frozen_of_row w4 _ 3 _ _ hr4
             clear ho4 hg4 hv4 hr4)
          | fail)
        go_roundw
        case rel => exact ⟨k + 1, A4, c4, by omega, HLS.out⟩
        case measure =>
          rw [HAT.out.segN, HLS.out.segN]
          omega
      · have hke : k = ends.length := by omega
        have HKE := Lib.hid hke
        obtain ⟨er, her⟩ : ∃ er, er = (CoP.unR (B.drop st)).2.2 := ⟨_, rfl⟩
        have her0 : er ≠ 0 := by
          rcases HS.out.stop with h | h
          · have := HNXT.out; omega
          · rw [← hke, ← HST.out] at h; rw [her]; exact h
        have HER := Lib.hid her
        rw [← her] at hun
        have HUN2 := Lib.hid hun
        clear hun her hke
        have heri : ¬ ((er : Int) = 0) := by omega
        go_wp2_with fail
        refine HUN2.out.mono ?_
        rintro e w3 ⟨vd, rfl, -, hb3⟩
        have HAT3 := Lib.hid (HAT2.out.later hb3)
        clear hb3
        obtain ⟨c0, c1, c2, c3⟩ := HAT3.out.cells
        obtain ⟨f4, d0, d1, d2, d3⟩ := HAT3.out.cells4
        clear hmx hmi
        have hfin := lab_fin HAT3.out HKE.out
        go_wp2
        exact bodyPost_ret (ret_lab rfl hfin.1) rfl hfin.2
    · have HKE := Lib.hid (show k = ends.length by have := HNXT.out; have := HS.out.few; have := HK.out; omega)
      obtain rfl : nx = 18446744073709551615 := by have := HNXT.out; have := HS.out.few; have := HK.out; omega
      obtain ⟨c0, c1, c2, c3⟩ := HAT1.out.cells
      obtain ⟨f4, d0, d1, d2, d3⟩ := HAT1.out.cells4
      clear hmx
      have hfin := lab_fin HAT1.out HKE.out
      go_wp2
      exact bodyPost_ret (ret_lab rfl hfin.1) rfl hfin.2
end Go.Proofs.YtnjifhbooikdbaaGreatDoor.Wa

/-! Package wal: sort and beginning of the one file that a log has, as contracts of calls. -/
namespace Go.Proofs.YtnjifhbooikdbaaGreatDoor.Wa
open Go.RowKit Go.Maps By Mp Dk

abbrev tFile : TypeId := 61
/-- A file, as Open finds it: its cells. -/
abbrev fileC (s : Seg) (A : Option Addr) (c : Nat) (nm : Bs) (len : Nat) : Array Value := #[.int .u64 (s.era : Nat), .int .u64 (s.first : Nat), .bool s.base, .slice A s.ends.length c, .string ⟨nm.toArray⟩, .int .i64 (len : Nat)]
structure FileIn (w : World) (fb : Nat) (s : Seg) (A : Option Addr) (c : Nat) (nm : Bs) (len : Nat) : Prop where
  c0 : w.cell? ⟨fb, 0, none⟩ = some (.int .u64 (s.era : Nat))
  c1 : w.cell? ⟨fb, 1, none⟩ = some (.int .u64 (s.first : Nat))
  c2 : w.cell? ⟨fb, 2, none⟩ = some (.bool s.base)
  c3 : w.cell? ⟨fb, 3, none⟩ = some (.slice A s.ends.length c)
  c4 : w.cell? ⟨fb, 4, none⟩ = some (.string ⟨nm.toArray⟩)
  c5 : w.cell? ⟨fb, 5, none⟩ = some (.int .i64 (len : Nat))
set_option maxHeartbeats 400000 in
theorem isort_one (A : Option Addr) (c : Nat) (w : World) : Calls Tryz.prog 83 #[.slice A 1 c, .int .i64 0, .int .i64 1, cmpV] w (Ret (.tuple #[]) w) := by
  go_enter Tryz.func83, Tryz.ntmps83
  go_wp2
  go_loopw [8] (fun i wr => i = .int .i64 1 ∧ wr = w) (fun _ _ => 0)
  case atStart => exact ⟨rfl, rfl⟩
  case round =>
    obtain ⟨rfl, rfl⟩ := hrel
    go_wp2
    go_end0
    exact ⟨rfl, rfl⟩
set_option maxRecDepth 100000 in
set_option maxHeartbeats 2000000 in
theorem pdq_one (A : Option Addr) (c : Nat) (w : World) : Calls Tryz.prog 65 #[.slice A 1 c, .int .i64 0, .int .i64 1, .int .i64 1, cmpV] w (Ret (.tuple #[]) w) := by
  have HI := Lib.hid (isort_one A c w)
  go_enter Tryz.func65, Tryz.ntmps65
  go_wp2
  go_loopw [1, 2] (fun a b wr => a = .int .i64 0 ∧ b = .int .i64 1 ∧ wr = w) (fun _ _ _ => 0)
  case atStart => exact ⟨rfl, rfl, rfl⟩
  case round =>
    obtain ⟨rfl, rfl, rfl⟩ := hrel
    go_wp2_with fail
    refine HI.out.mono ?_
    rintro e w' ⟨rfl, rfl⟩
    go_wp2
    go_end0
    exact ⟨rfl, rfl⟩
set_option maxHeartbeats 400000 in
theorem sort_one (A : Option Addr) (c : Nat) (w : World) : Calls Tryz.prog 38 #[.slice A 1 c, cmpV] w (Ret (.tuple #[]) w) := by
  have HP := Lib.hid (pdq_one A c w)
  have hlen : Calls Tryz.prog 66 #[.int .u64 1] w (Ret (.int .i64 1) w) := by
    have HL := Lib.hid (Co.len64_any 1 (by decide) w)
    go_enter Tryz.func66, Tryz.ntmps66
    go_wp2_with fail
    refine HL.out.mono ?_
    rintro e w' ⟨rfl, rfl⟩
    go_wp2
    go_ret
    exact ⟨rfl, rfl⟩
  have HLN := Lib.hid hlen
  clear hlen
  go_enter Tryz.func38, Tryz.ntmps38
  go_wp2_with fail
  refine HLN.out.mono ?_
  rintro e w' ⟨rfl, rfl⟩
  go_wp2_with fail
  refine HP.out.mono ?_
  rintro e w' ⟨rfl, rfl⟩
  go_wp2
  go_end0
  exact ⟨rfl, rfl⟩
set_option maxRecDepth 100000 in
set_option maxHeartbeats 2000000 in
theorem beginning_one (fb c0 : Nat) (s : Seg) (A : Option Addr) (c : Nat) (nm : Bs) (len : Nat) (w : World) (h : FileIn w fb s A c nm len) (hb : s.base = true) : Calls Tryz.prog 32 #[.slice (some ⟨fb, 0, none⟩) 1 c0] w (RetB (.int .i64 0) w) := by
  have h2 := h.c2
  rw [hb] at h2
  clear h hb
  go_enter Tryz.func32, Tryz.ntmps32
  go_wp2
  go_loopw [3] (fun i wr => i = .int .i64 0 ∧ wr = w) (fun _ _ => 0)
  case atStart => exact ⟨rfl, rfl⟩
  case round =>
    obtain ⟨rfl, rfl⟩ := hrel
    go_upto_region 4 with fail
    go_region
    all_goals
      go_wp2
      go_ret
      exact ⟨rfl, (Below.refl _ _).drew⟩
end Go.Proofs.YtnjifhbooikdbaaGreatDoor.Wa

/-! Package wal: Append of no record, as a contract of a call. -/
namespace Go.Proofs.YtnjifhbooikdbaaGreatDoor.Wa
open Go.RowKit Go.Maps By Mp Dk

/-- The last segment, whatever the log. -/
def LastIn (w : World) (e : Ending) (w' : World) : Prop := ∃ (k : Nat) (sg : Seg) (A : Option Addr) (c : Nat), e = .returned (.tuple #[.int .i64 (k : Int), segV sg A c]) ∧ SegOk sg ∧ sg.size ≤ 70368744177664 ∧ LiesI w w.heap.size A sg.ends ∧ Below w.heap.size w w'
set_option maxRecDepth 100000 in
set_option maxHeartbeats 2000000 in
theorem append_none (g d : Nat) (s : DS) (S T : Nat → Prop) (l : List Seg) (A : Option Addr) (c : Nat) (w : World) (h : LogAt w g d l false T) (hd : DiskAt w d s S) (hdn : s.down = false) (hla : Calls Tryz.prog 19 #[.pointer (some ⟨g, 0, none⟩)] w (LastIn w)) :
    Calls Tryz.prog 7 #[.pointer (some ⟨g, 0, none⟩), .slice A 0 c] w (RetB (.int .i64 0) w) := by
  have HLOG := Lib.hid h
  have HD := Lib.hid hd
  have HDN := Lib.hid hdn
  have HWK := Lib.hid (works_any g d l false T w h)
  have HLA := Lib.hid hla
  clear h hd hdn hla
  go_enter Tryz.func7, Tryz.ntmps7
  go_wp2_with fail
  refine HWK.out.mono ?_
  rintro e w' ⟨rfl, rfl⟩
  go_wp2_with fail
  refine HLA.out.mono ?_
  rintro e w1 ⟨k, sg, A0, c0, rfl, hok, hsz, hli, hb1⟩
  have HB1 := Lib.hid hb1
  have HSZ := Lib.hid (fun w2 (hb : Below w.heap.size w w2) => seg_size_any sg A0 c0 w2 hok.next (Nat.le_trans hok.len (by decide)) ((hli.below hb).more hb.size))
  have HNX := Lib.hid (fun w2 => seg_next_any sg A0 c0 w2 hok.next (Nat.le_trans hok.len (by decide)))
  obtain ⟨sz, hsz'⟩ : ∃ sz, sz = sg.size := ⟨_, rfl⟩
  obtain ⟨nx, hnx⟩ : ∃ nx, nx = sg.next := ⟨_, rfl⟩
  rw [← hsz'] at HSZ hsz
  rw [← hnx] at HNX
  have hnx2 : nx < 18446744073709551616 := by rw [hnx]; exact hok.next
  have HNB := Lib.hid hnx2
  have HZ := Lib.hid hsz
  clear hb1 hok hli hsz hsz' hnx hnx2
  obtain ⟨era, first, base, ends⟩ := sg
  obtain ⟨en, hen⟩ : ∃ en, en = ends.length := ⟨_, rfl⟩
  dsimp only [segV, segC] at HSZ HNX ⊢
  rw [← hen] at HSZ HNX ⊢
  clear hen
  go_upto_region 5 with fail
  have HX2 := Lib.hid (heap_alloc_new w1 (.cells #[.int .u64 (era : Nat), .int .u64 (first : Nat), .bool base, .slice A0 en c0] 59))
  have HB2 := Lib.hid (bAlloc HB1.out (.cells #[.int .u64 (era : Nat), .int .u64 (first : Nat), .bool base, .slice A0 en c0] 59))
  obtain ⟨x, hx⟩ : ∃ x, x = w1.heap.size := ⟨_, rfl⟩
  generalize w1.alloc (.cells #[.int .u64 (era : Nat), .int .u64 (first : Nat), .bool base, .slice A0 en c0] 59) = w2 at *
  rw [← hx] at HX2 ⊢
  clear hx
  have HBX := Lib.hid (fun (w' : World) (hb : Below w2.heap.size w2 w') => (show w'.cell? ⟨x, 0, none⟩ = some (.int .u64 (era : Nat)) ∧ w'.cell? ⟨x, 1, none⟩ = some (.int .u64 (first : Nat)) ∧ w'.cell? ⟨x, 2, none⟩ = some (.bool base) ∧ w'.cell? ⟨x, 3, none⟩ = some (.slice A0 en c0) from by
    have h' := (hb.block x (row_lt HX2.out)).trans HX2.out
    exact ⟨(cell_of_row w' x 0 _ _ _ h').trans rfl, (cell_of_row w' x 1 _ _ _ h').trans rfl, (cell_of_row w' x 2 _ _ _ h').trans rfl, (cell_of_row w' x 3 _ _ _ h').trans rfl⟩))
  obtain ⟨b0, b1, b2, b3⟩ := HBX.out w2 (Below.refl _ _)
  go_wp2_with fail
  refine (HSZ.out _ HB2.out).mono ?_
  rintro e w3 ⟨rfl, hb3⟩
  have HB23 := Lib.hid hb3
  have HB3 := Lib.hid (By.ext HB2.out hb3)
  clear b0 b1 b2 b3 hb3
  have HFR := Lib.hid (frames_any A c sz [] w3 (fun hp => absurd hp (by decide)) (fun l hl => by cases hl) (Nat.zero_le _) (by show sz + 0 ≤ _; exact HZ.out))
  go_wp2_with fail
  refine HFR.out.mono ?_
  rintro e w4 ⟨vd, vu, rfl, hod, hou, hb4⟩
  obtain ⟨Ad, cd, hvd, -, -, -, -, -⟩ := hod.form
  obtain ⟨Au, cu, hvu⟩ := ownsRow_form hou
  subst hvd
  subst hvu
  have HB4 := Lib.hid (By.ext HB3.out hb4)
  have HB24 := Lib.hid (By.ext HB23.out hb4)
  clear hod hou hb4 HFR
  obtain ⟨b0, b1, b2, b3⟩ := HBX.out w4 HB24.out
  have e8 : ¬ ((0 : Int) > 18446744073709551615 - (nx : Int)) := by have := HNB.out; omega
  have e9 : (nx : Int) ≤ 18446744073709551615 := by have := HNB.out; omega
  go_wp2_with fail
  refine (HNX.out _).mono ?_
  rintro e w5 ⟨rfl, hb5⟩
  have HB5 := Lib.hid (By.ext HB4.out hb5)
  clear b0 b1 b2 b3 hb5
  have hg5 : w5.cell? ⟨g, 0, none⟩ = some (.pointer (some ⟨d, 0, none⟩)) := by
    obtain ⟨v, ac, h⟩ := LogAt.below HLOG.out HB5.out
    rw [cell_of_row w5 g 0 _ _ _ h.row]
    rfl
  have hdw := down_any d s S w5 (HD.out.below HB5.out)
  rw [HDN.out] at hdw
  have HDW := Lib.hid hdw
  clear hdw
  go_wp2_with fail
  refine HDW.out.mono ?_
  rintro e w6 ⟨rfl, rfl⟩
  go_wp2
  go_ret
  exact ⟨rfl, HB5.out⟩
end Go.Proofs.YtnjifhbooikdbaaGreatDoor.Wa
