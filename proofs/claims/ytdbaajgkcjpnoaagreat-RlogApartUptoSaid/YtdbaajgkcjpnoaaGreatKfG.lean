/- A kind's read, over any instance. Written by genw.py. -/
import Derived.Test.YtdbaajgkcjpnoaaGreatGJ
import Derived.Laws.Tables
import Derived.BigQuiet
import Derived.Deep.QuietTactic
namespace Go.Proofs.YtdbaajgkcjpnoaaGreat.Kd
open Go.RowKit By CoP Co Mo

/-- What comes of reading: the sound value whose bytes these are, all of them, or that there is none. -/
def ReadsK (k : Kd) (b : List UInt8) (w : World) (e : Ending) (w' : World) : Prop :=
  Below w.heap.size w w' ∧ ((∃ d vs, k.get b = some (d, b.length) ∧ k.sound d = true ∧ e = .returned (.tuple #[.agg vs, .int .i64 0]) ∧ k.rep w' (New w w') vs.toList d) ∨
    ((∀ d, ¬ (k.get b = some (d, b.length) ∧ k.sound d = true)) ∧ e = .returned (.tuple #[.agg k.zero.toArray, .int .i64 4])))
/-- Likewise, into free blocks: the sound value whose bytes these are, all of them, or that there is none. -/
def ReadsKF (k : Kd) (b : List UInt8) (w : World) (e : Ending) (w' : World) : Prop :=
  Below w.heap.size w w' ∧ ((∃ d vs, k.get b = some (d, b.length) ∧ k.sound d = true ∧ e = .returned (.tuple #[.agg vs, .int .i64 0]) ∧ k.rep w' (NewF w w') vs.toList d) ∨
    ((∀ d, ¬ (k.get b = some (d, b.length) ∧ k.sound d = true)) ∧ e = .returned (.tuple #[.agg k.zero.toArray, .int .i64 4])))
theorem ReadsKF.weak {k : Kd} (hok : k.Ok) {b : List UInt8} {w w' : World} {e : Ending} (h : ReadsKF k b w e w') : ReadsK k b w e w' := by
  obtain ⟨h0, ⟨d, vs, h1, h2, h3, h4⟩ | h1⟩ := h
  · exact ⟨h0, .inl ⟨d, vs, h1, h2, h3, hok.keep h4 (fun _ _ => rfl) (fun _ hb => hb.1)⟩⟩
  · exact ⟨h0, .inr h1⟩
/-- What is asked of a struct's type. -/
theorem results_cell_tmp {fn : Func} {p q : Tmp} {ty : TypeId} (h : fn.results = #[.cell p ty, .tmp q]) (tmps : Array Value) (w : World) (g : Nat) (t : TypeId) (cs : Array Value) (fr : Nat × Nat) (XS : Array Field)
    (hp : tmps.getD p undef = .pointer (some ⟨g, 0, none⟩)) (hg : w.heap[g]? = some (.cells cs t fr)) (hu : Tryz.prog.underlying ty = some (.struct XS)) (hi : (Tryz.prog.info? ty).map (·.size) = some cs.size) :
    (results fn tmps).run Tryz.prog w = .ok (.tuple #[.agg cs, tmps.getD q undef]) w := by
  have hp' : tmps[p]?.getD undef = .pointer (some ⟨g, 0, none⟩) := by simpa using hp
  simp [results, h, hp', asAddr, run_loadVar_row w g t ty cs fr _ hg hu rfl hi]
theorem splice_all {zs vs : List Value} (h : vs.length = zs.length) : splice zs (0 + 0) vs = vs := by
  unfold splice
  rw [List.take_zero, List.nil_append, List.drop_eq_nil_of_le (by omega), List.append_nil]
theorem below_setRow {B : Nat} {w w' : World} (h : Below B w w') {g : Nat} (hg : B ≤ g) (cs : Array Value) : Below B w (w'.setRow g cs) :=
  ⟨h.os, h.tape, h.output, by rw [size_setRow]; exact h.size, fun k hk => by rw [setRow_other w' g k cs (by omega)]; exact h.block k hk⟩
structure XT (tX : Nat) (zero : List Value) : Prop where
  a : ∀ w, (isAgg tX).run Tryz.prog w = .ok true w
  z : ∀ w, (zeroValue tX).run Tryz.prog w = .ok (.agg zero.toArray) w
  ud : ∃ fs, Tryz.prog.underlying tX = some (.struct fs)
  i : (Tryz.prog.info? tX).map (·.size) = some zero.length
def readCode (tK tX tP tV tZ : Nat) (p0 p1 p2 p3 p4 p5 : String) : Code :=
  ((Code.region 0
            #[{ dst := some 2, op := Op.box tK (Operand.tmp 0), type := 0, pos := p0, after := #[],
                guard := none },
              { dst := some 4, op := Op.alloc tX, type := 0, pos := p0, after := #[], guard := none },
              { dst := some 5, op := Op.assign (Operand.const (Value.int IntKind.i64 0)), type := 40,
                pos := p0, after := #[], guard := none }]
            false).seq
        ((Code.region 1
              #[{ dst := some 6, op := Op.alloc tX, type := 0, pos := p1, after := #[], guard := none },
                { dst := some 7, op := Op.alloc tX, type := 0, pos := p1, after := #[], guard := none }]
              false).seq
          ((Code.region 2
                #[{ dst := some 11, op := Op.fieldAddr tK (Operand.tmp 2) 2, type := 0, pos := p2,
                    after := #[], guard := none },
                  { dst := some 12, op := Op.load tZ (Operand.tmp 11), type := tZ, pos := p2,
                    after := #[{ on := 0, ground := Ground.data }], guard := none },
                  { dst := some 13, op := Op.move (Operand.tmp 1), type := 37, pos := p2, after := #[],
                    guard := none },
                  { dst := some 14,
                    op :=
                      Op.call
                        { callee := Callee.value (Operand.tmp 12),
                          args := #[Operand.tmp 6, Operand.tmp 13, Operand.const (Value.int IntKind.i64 0)],
                          argTypes := #[tP, 37, 3] },
                    type := 143, pos := p2,
                    after := #[{ on := 1, ground := Ground.data }, { on := 2, ground := Ground.data }], guard := none },
                  { dst := some 10, op := Op.move (Operand.tmp 14), type := 143, pos := p2,
                    after := #[{ on := 3, ground := Ground.data }], guard := none },
                  { dst := some 15, op := Op.extract (Operand.tmp 10) 0, type := 3, pos := p2,
                    after := #[{ on := 4, ground := Ground.data }], guard := none },
                  { dst := some 16, op := Op.extract (Operand.tmp 10) 1, type := 4, pos := p2,
                    after :=
                      #[{ on := 4, ground := Ground.data }, { on := 7, ground := Ground.gcOnly Departure.lateStores }],
                    guard := none },
                  { dst := some 8, op := Op.assign (Operand.tmp 15), type := 3, pos := p2,
                    after :=
                      #[{ on := 5, ground := Ground.data }, { on := 3, ground := Ground.chain },
                        { on := 0, ground := Ground.phase }, { on := 1, ground := Ground.phase },
                        { on := 2, ground := Ground.phase }, { on := 3, ground := Ground.phase },
                        { on := 4, ground := Ground.phase }, { on := 5, ground := Ground.phase },
                        { on := 6, ground := Ground.textOnly Departure.lateStores }],
                    guard := none },
                  { dst := some 9, op := Op.assign (Operand.tmp 16), type := 4, pos := p2,
                    after :=
                      #[{ on := 6, ground := Ground.data }, { on := 7, ground := Ground.chain },
                        { on := 0, ground := Ground.phase }, { on := 1, ground := Ground.phase },
                        { on := 2, ground := Ground.phase }, { on := 3, ground := Ground.phase },
                        { on := 4, ground := Ground.phase }, { on := 5, ground := Ground.phase },
                        { on := 6, ground := Ground.phase }, { on := 7, ground := Ground.phase }],
                    guard := none }]
                false).seq
            (((Code.region 3
                      #[{ dst := some 17, op := Op.move (Operand.tmp 9), type := 4, pos := p3, after := #[],
                          guard := none },
                        { dst := some 18, op := Op.unOp UnOp.not 4 (Operand.tmp 17), type := 4, pos := p3,
                          after := #[{ on := 0, ground := Ground.data }], guard := none },
                        { dst := some 19, op := Op.move (Operand.tmp 18), type := 4, pos := p3,
                          after := #[{ on := 1, ground := Ground.data }], guard := none },
                        { dst := some 20, op := Op.move (Operand.tmp 8), type := 3, pos := p3,
                          after := #[{ on := 2, ground := Ground.guard }], guard := some (2, false) },
                        { dst := some 21, op := Op.move (Operand.tmp 1), type := 37, pos := p3,
                          after := #[{ on := 2, ground := Ground.guard }], guard := some (2, false) },
                        { dst := some 22,
                          op :=
                            Op.call
                              { callee := Callee.builtin Builtin.len, args := #[Operand.tmp 21], argTypes := #[37] },
                          type := 3, pos := p3,
                          after := #[{ on := 4, ground := Ground.data }, { on := 2, ground := Ground.guard }],
                          guard := some (2, false) },
                        { dst := some 23, op := Op.binOp BinOp.neq 3 (Operand.tmp 20) (Operand.tmp 22) 3, type := 4,
                          pos := p3,
                          after :=
                            #[{ on := 3, ground := Ground.data }, { on := 5, ground := Ground.data },
                              { on := 2, ground := Ground.guard }],
                          guard := some (2, false) },
                        { dst := some 24,
                          op := Op.pick (Operand.tmp 19) (Operand.const (Value.bool true)) (Operand.tmp 23), type := 4,
                          pos := p3,
                          after := #[{ on := 2, ground := Ground.data }, { on := 6, ground := Ground.data }],
                          guard := none },
                        { dst := some 25, op := Op.move (Operand.tmp 24), type := 4, pos := p3,
                          after := #[{ on := 7, ground := Ground.data }, { on := 2, ground := Ground.chain }],
                          guard := none },
                        { dst := some 26, op := Op.fieldAddr tK (Operand.tmp 2) 0, type := 0, pos := p3,
                          after := #[{ on := 8, ground := Ground.guard }], guard := some (8, false) },
                        { dst := some 27, op := Op.load tV (Operand.tmp 26), type := tV, pos := p3,
                          after := #[{ on := 9, ground := Ground.data }, { on := 8, ground := Ground.guard }],
                          guard := some (8, false) },
                        { dst := some 28,
                          op :=
                            Op.call
                              { callee := Callee.value (Operand.tmp 27), args := #[Operand.tmp 6], argTypes := #[tP] },
                          type := 4, pos := p3,
                          after :=
                            #[{ on := 10, ground := Ground.data }, { on := 8, ground := Ground.chain },
                              { on := 8, ground := Ground.guard }],
                          guard := some (8, false) },
                        { dst := some 29, op := Op.unOp UnOp.not 4 (Operand.tmp 28), type := 4, pos := p3,
                          after := #[{ on := 11, ground := Ground.data }, { on := 8, ground := Ground.guard }],
                          guard := some (8, false) },
                        { dst := some 30,
                          op := Op.pick (Operand.tmp 25) (Operand.const (Value.bool true)) (Operand.tmp 29), type := 4,
                          pos := p3,
                          after := #[{ on := 8, ground := Ground.data }, { on := 12, ground := Ground.data }],
                          guard := none }]
                      false).seq
                  (Code.cond (Operand.tmp 30)
                    ((Code.region 4
                          #[{ dst := some 31, op := Op.load tX (Operand.tmp 7), type := tX, pos := p4,
                              after := #[], guard := none },
                            { dst := none, op := Op.store tX (Operand.tmp 4) (Operand.tmp 31), type := 0,
                              pos := p4,
                              after := #[{ on := 0, ground := Ground.data }, { on := 0, ground := Ground.phase }],
                              guard := none },
                            { dst := some 5, op := Op.assign (Operand.const (Value.int IntKind.i64 4)), type := 40,
                              pos := p4,
                              after :=
                                #[{ on := 1, ground := Ground.chain }, { on := 0, ground := Ground.phase },
                                  { on := 1, ground := Ground.phase }],
                              guard := none }]
                          false).seq
                      Code.ret)
                    Code.skip)).seq
              ((Code.region 5
                    #[{ dst := some 32, op := Op.load tX (Operand.tmp 6), type := tX, pos := p5, after := #[],
                        guard := none },
                      { dst := none, op := Op.store tX (Operand.tmp 4) (Operand.tmp 32), type := 0, pos := p5,
                        after := #[{ on := 0, ground := Ground.data }, { on := 0, ground := Ground.phase }],
                        guard := none },
                      { dst := some 5, op := Op.assign (Operand.const (Value.int IntKind.i64 0)), type := 40,
                        pos := p5,
                        after :=
                          #[{ on := 1, ground := Ground.chain }, { on := 0, ground := Ground.phase },
                            { on := 1, ground := Ground.phase }],
                        guard := none }]
                    false).seq
                Code.ret)))))
set_option maxRecDepth 100000 in
set_option maxHeartbeats 1600000 in
theorem read_free {f : FuncId} {fn : Func} {tK tX tP tV tZ : Nat} {p0 p1 p2 p3 p4 p5 : String} (hf : Tryz.prog.funcs[f]? = some fn) (hb : fn.body = some (readCode tK tX tP tV tZ p0 p1 p2 p3 p4 p5)) (hn : fn.ntmps = 33) (hr : fn.results = #[.cell 4 tX, .tmp 5])
    (kt : KT tK) (hV : ∀ w, (isAgg tV).run Tryz.prog w = .ok false w) (hZ : ∀ w, (isAgg tZ).run Tryz.prog w = .ok false w)
    {k : Kd} (xt : XT tX k.zero) {f1 f2 f3 : Value} {A : Option Addr} {n c : Nat} {b : List UInt8} {L : Nat} (w : World) (hk : KindAt L w f1 f2 f3 0 k) (hln : n = b.length) (hnc : n ≤ c) (hm : n ≤ 140737488355328) (hrd : Lies w w.heap.size A b) :
    Calls Tryz.prog f #[.agg #[f1, f2, f3], .slice A n c] w (ReadsKF k b w) := by
  obtain ⟨F1, F2, F3, o1, o2, o3, z1, z2, z3, hu⟩ := kt.u
  have ha0 := kt.a
  have hs0 := kt.s
  have hz0 := kt.z
  have xa := xt.a
  have xz := xt.z
  obtain ⟨XS, xud⟩ := xt.ud
  have xi := xt.i
  obtain ⟨hok, ⟨fs, cs, rfl, es, HS0⟩, ⟨fp, cp, rfl, _, _⟩, ⟨fg, cg, rfl, eg, HG0⟩⟩ := hk
  have es' : ∀ (args : Array Value) (w : World), (callFunc fs args).run Tryz.prog w = .ok (.enter fs args) w := es
  have eg' : ∀ (args : Array Value) (w : World), (callFunc fg args).run Tryz.prog w = .ok (.enter fg args) w := eg
  have XUD := Lib.hid xud
  have XI := Lib.hid xi
  have HLN := Lib.hid hln
  have HOK := Lib.hid hok
  obtain ⟨W4, hW4⟩ : ∃ x, x = (((w.alloc (.cells #[.func (.func fs) #[] cs, .func (.func fp) #[] cp, .func (.func fg) #[] cg] tK)).alloc (.cells k.zero.toArray tX)).alloc (.cells k.zero.toArray tX)).alloc (.cells k.zero.toArray tX) := ⟨_, rfl⟩
  have hb4 : Below w.heap.size w W4 := by rw [hW4]; exact (below3 w _ _ _).alloc (below3 w _ _ _).size _
  have hz4 : W4.heap.size = w.heap.size + 1 + 1 + 1 + 1 := by rw [hW4]; simp
  have hk4 : W4.heap[w.heap.size]? = some (.cells #[.func (.func fs) #[] cs, .func (.func fp) #[] cp, .func (.func fg) #[] cg] tK (0, 0)) := by rw [hW4, heap_alloc_old _ _ (by simp; omega)]; exact heap3_0 w _ _ _
  have hR4 : W4.heap[w.heap.size + 1]? = some (.cells k.zero.toArray tX (0, 0)) := by rw [hW4, heap_alloc_old _ _ (by simp)]; exact heap3_1 w _ _ _
  have hx4 : W4.heap[w.heap.size + 1 + 1]? = some (.cells k.zero.toArray tX (0, 0)) := by rw [hW4]; exact (heap_alloc_old _ _ (by simp)).trans (heap3_2 w _ _ _)
  have hN4 : W4.heap[w.heap.size + 1 + 1 + 1]? = some (.cells k.zero.toArray tX (0, 0)) := by
    rw [hW4]
    have h := heap_alloc_new (((w.alloc (.cells #[.func (.func fs) #[] cs, .func (.func fp) #[] cp, .func (.func fg) #[] cg] tK)).alloc (.cells k.zero.toArray tX)).alloc (.cells k.zero.toArray tX)) (.cells k.zero.toArray tX)
    simpa using h
  have hz1 : k.zero.toArray.all (·.oneCell') = true := by
    rw [Array.all_eq_true_iff_forall_mem]
    intro v hv
    exact hok.zone v (by simpa using hv)
  have HZ1 := Lib.hid hz1
  have hcall : Calls Tryz.prog fg (#[.pointer (some ⟨w.heap.size + 1 + 1, 0, none⟩), .slice A n c, .int .i64 0] ++ cg) W4 (Got k b 0 (w.heap.size + 1 + 1) (0 + 0) k.zero tX W4) :=
    HG0 W4 (keeps_of hb4) (w.heap.size + 1 + 1) 0 k.zero tX w.heap.size A n c 0 b (by omega) hx4 (by simp [Kd.size]) (by simp [Kd.size]) hln hnc hm (hrd.below hb4) (by omega) (Nat.zero_le _)
  have HB4 := Lib.hid hb4
  have HZ4 := Lib.hid hz4
  have HK4 := Lib.hid hk4
  have HR4 := Lib.hid hR4
  have HN4 := Lib.hid hN4
  have HS := Lib.hid HS0
  have hd0 : b.drop 0 = b := rfl
  clear kt xt es eg xud xi HG0 HS0 hb4 hz4 hk4 hR4 hx4 hN4 hz1 hrd hok
  rcases hget : k.get b with _ | ⟨d, used⟩
  · have HC := Lib.hid (hcall.mono fun e w' h => Got.fails h (by rw [hd0]; exact hget))
    have HGET := Lib.hid hget
    clear hcall hget hd0 hln
    refine calls_of_wp hf hb ?_
    simp only [hn, List.size_toArray, List.length_cons, List.length_nil, Nat.reduceAdd, Nat.reduceSub, Array.replicate_succ, Array.replicate_zero, List.push_toArray, List.append_toArray, List.nil_append, List.cons_append]
    simp only [readCode]
    go_wp2_with fail
    rw [← hW4]
    clear hW4
    refine HC.out.mono ?_
    rintro e w5 ⟨N, rfl, hg5⟩
    have hR1 := (hg5.block (w.heap.size + 1) (row_lt HR4.out) (fun e => by have := Option.some.inj e; omega)).trans HR4.out
    have hN := (hg5.block (w.heap.size + 1 + 1 + 1) (row_lt HN4.out) (fun e => by have := Option.some.inj e; omega)).trans HN4.out
    have HBX := Lib.hid (HB4.out.grown hg5 HB4.out.size (fun q e => by have := Option.some.inj e; omega))
    clear hg5
    have HN := Lib.hid hN
    have HR1 := Lib.hid hR1
    clear hN hR1
    go_wp2_with (first
      | (with_reducible refine wpList_load_row rfl tX (.tmp 7) rfl (w.heap.size + 1 + 1 + 1) rfl tX k.zero.toArray (0, 0) _ HN.out XUD.out rfl (by rw [XI.out, List.size_toArray]) ?_)
      | (with_reducible refine wpList_store_row rfl tX (.tmp 4) (.tmp 31) rfl (w.heap.size + 1) k.zero.toArray rfl rfl tX k.zero.toArray HR1.out (by rw [XI.out, List.size_toArray]) rfl HZ1.out ?_))
    refine bodyPost_ret (v := .tuple #[.agg k.zero.toArray, .int .i64 4]) (results_cell_tmp hr _ _ (w.heap.size + 1) tX k.zero.toArray (0, 0) _ rfl (setRow_heap _ _ _ _ _ _ HR1.out) XUD.out (by rw [XI.out, List.size_toArray])) rfl ?_
    exact ⟨below_setRow HBX.out (Nat.le_succ _) _, .inr ⟨(fun d h => by have h1 := h.1; rw [HGET.out] at h1; cases h1), rfl⟩⟩
  · have HC := Lib.hid (hcall.mono fun e w' h => Got.gives h (by rw [hd0]; exact hget))
    have hus := HOK.out.used hget
    have HGET := Lib.hid hget
    clear hcall hget hd0
    by_cases hun : used = n
    · subst hun
      clear hln hus
      have hb2 : (((0 + used : Nat) : Int) != (used : Int)) = false := by simp
      cases hsd : k.sound d with
      | false =>
        refine calls_of_wp hf hb ?_
        simp only [hn, List.size_toArray, List.length_cons, List.length_nil, Nat.reduceAdd, Nat.reduceSub, Array.replicate_succ, Array.replicate_zero, List.push_toArray, List.append_toArray, List.nil_append, List.cons_append]
        simp only [readCode]
        go_wp2_with fail
        rw [← hW4]
        clear hW4
        refine HC.out.mono ?_
        rintro e w5 ⟨rfl, hg5, vs, hx5, hrep5⟩
        have hR5 := (hg5.block (w.heap.size + 1) (row_lt HR4.out) (fun e => by have := Option.some.inj e; omega)).trans HR4.out
        have hN5 := (hg5.block (w.heap.size + 1 + 1 + 1) (row_lt HN4.out) (fun e => by have := Option.some.inj e; omega)).trans HN4.out
        have hk5 := (hg5.block w.heap.size (row_lt HK4.out) (fun e => by have := Option.some.inj e; omega)).trans HK4.out
        have a0 : w5.cell? ⟨w.heap.size, 0, none⟩ = some (.func (.func fs) #[] cs) := by rw [cell_of_row w5 w.heap.size 0 _ _ _ hk5]; rfl
        have hbx := HB4.out.grown hg5 HB4.out.size (fun q e => by have := Option.some.inj e; omega)
        have hvl := HOK.out.len hrep5
        rw [splice_all hvl] at hx5
        have hcs := HS.out w5 (keeps_of hbx) (w.heap.size + 1 + 1) 0 vs d (by simpa using Rd.row hx5) (HOK.out.keep hrep5 (fun _ _ => rfl) (fun q hq => hq.1.2))
        rw [hsd] at hcs
        have HCS := Lib.hid hcs
        have HSD := Lib.hid hsd
        have HX5 := Lib.hid hx5
        have HR5 := Lib.hid hR5
        have HN5 := Lib.hid hN5
        have HREP5 := Lib.hid hrep5
        have HB5 := Lib.hid hbx
        have HVL := Lib.hid hvl
        clear hg5 hR5 hN5 hk5 hbx hcs hx5 hrep5 hsd hvl
        go_wp2_with fail
        refine HCS.out.mono ?_
        rintro e w6 ⟨rfl, hb6⟩
        have HBX := Lib.hid (ext HB5.out hb6)
        have hR1 := (hb6.block _ (row_lt HR5.out)).trans HR5.out
        have hN := (hb6.block _ (row_lt HN5.out)).trans HN5.out
        have HN := Lib.hid hN
        have HR1 := Lib.hid hR1
        clear hN hR1 hb6
        go_wp2_with (first
          | (with_reducible refine wpList_load_row rfl tX (.tmp 7) rfl (w.heap.size + 1 + 1 + 1) rfl tX k.zero.toArray (0, 0) _ HN.out XUD.out rfl (by rw [XI.out, List.size_toArray]) ?_)
          | (with_reducible refine wpList_store_row rfl tX (.tmp 4) (.tmp 31) rfl (w.heap.size + 1) k.zero.toArray rfl rfl tX k.zero.toArray HR1.out (by rw [XI.out, List.size_toArray]) rfl HZ1.out ?_))
        refine bodyPost_ret (v := .tuple #[.agg k.zero.toArray, .int .i64 4]) (results_cell_tmp hr _ _ (w.heap.size + 1) tX k.zero.toArray (0, 0) _ rfl (setRow_heap _ _ _ _ _ _ HR1.out) XUD.out (by rw [XI.out, List.size_toArray])) rfl ?_
        exact ⟨below_setRow HBX.out (Nat.le_succ _) _, .inr ⟨(fun d2 h => by
          have h1 := h.1
          rw [HGET.out] at h1
          injection h1 with h1
          injection h1 with h1 _
          have h2 := h.2
          rw [← h1, HSD.out] at h2
          cases h2), rfl⟩⟩
      | true =>
        refine calls_of_wp hf hb ?_
        simp only [hn, List.size_toArray, List.length_cons, List.length_nil, Nat.reduceAdd, Nat.reduceSub, Array.replicate_succ, Array.replicate_zero, List.push_toArray, List.append_toArray, List.nil_append, List.cons_append]
        simp only [readCode]
        go_wp2_with fail
        rw [← hW4]
        clear hW4
        refine HC.out.mono ?_
        rintro e w5 ⟨rfl, hg5, vs, hx5, hrep5⟩
        have hR5 := (hg5.block (w.heap.size + 1) (row_lt HR4.out) (fun e => by have := Option.some.inj e; omega)).trans HR4.out
        have hN5 := (hg5.block (w.heap.size + 1 + 1 + 1) (row_lt HN4.out) (fun e => by have := Option.some.inj e; omega)).trans HN4.out
        have hk5 := (hg5.block w.heap.size (row_lt HK4.out) (fun e => by have := Option.some.inj e; omega)).trans HK4.out
        have a0 : w5.cell? ⟨w.heap.size, 0, none⟩ = some (.func (.func fs) #[] cs) := by rw [cell_of_row w5 w.heap.size 0 _ _ _ hk5]; rfl
        have hbx := HB4.out.grown hg5 HB4.out.size (fun q e => by have := Option.some.inj e; omega)
        have hvl := HOK.out.len hrep5
        rw [splice_all hvl] at hx5
        have hcs := HS.out w5 (keeps_of hbx) (w.heap.size + 1 + 1) 0 vs d (by simpa using Rd.row hx5) (HOK.out.keep hrep5 (fun _ _ => rfl) (fun q hq => hq.1.2))
        rw [hsd] at hcs
        have HCS := Lib.hid hcs
        have HSD := Lib.hid hsd
        have HX5 := Lib.hid hx5
        have HR5 := Lib.hid hR5
        have HN5 := Lib.hid hN5
        have HREP5 := Lib.hid hrep5
        have HB5 := Lib.hid hbx
        have HVL := Lib.hid hvl
        clear hg5 hR5 hN5 hk5 hbx hcs hx5 hrep5 hsd hvl
        go_wp2_with fail
        refine HCS.out.mono ?_
        rintro e w6 ⟨rfl, hb6⟩
        have HBX := Lib.hid (ext HB5.out hb6)
        have hR1 := (hb6.block _ (row_lt HR5.out)).trans HR5.out
        have hx6 := (hb6.block _ (row_lt HX5.out)).trans HX5.out
        have hrep6 := HOK.out.keep HREP5.out (fun q hq => hb6.block q hq.1.2) (fun q hq => NewF.mono HB4.out.size hb6.size q hq (hb6.block q hq.1.2))
        have hvz : vs.toArray.size = k.zero.length := by rw [List.size_toArray]; exact HVL.out
        have HVZ := Lib.hid hvz
        have hone : vs.toArray.all (·.oneCell') = true := by
          rw [Array.all_eq_true_iff_forall_mem]
          intro v hv
          exact HOK.out.one HREP5.out v (by simpa using hv)
        have HONE := Lib.hid hone
        have HX6 := Lib.hid hx6
        have HR1 := Lib.hid hR1
        have hq6 : ∀ q, NewF W4 w5 q → q ≠ w.heap.size + 1 := fun q hq e => by have h1 := hq.1.1; have h2 := HZ4.out; omega
        have HQ6 := Lib.hid hq6
        have HB6 := Lib.hid hb6
        clear hx6 hR1 hb6 hrep6 hvz hone hq6
        go_wp2_with (first
          | (with_reducible refine wpList_load_row rfl tX (.tmp 6) rfl (w.heap.size + 1 + 1) rfl tX vs.toArray (0, 0) _ HX6.out XUD.out rfl (by rw [XI.out, HVZ.out]) ?_)
          | (with_reducible refine wpList_store_row rfl tX (.tmp 4) (.tmp 32) rfl (w.heap.size + 1) vs.toArray rfl rfl tX k.zero.toArray HR1.out (by rw [XI.out, HVZ.out]) (by rw [HVZ.out, List.size_toArray]) HONE.out ?_))
        refine bodyPost_ret (v := .tuple #[.agg vs.toArray, .int .i64 0]) (results_cell_tmp hr _ _ (w.heap.size + 1) tX vs.toArray (0, 0) _ rfl (setRow_heap _ _ _ _ _ _ HR1.out) XUD.out (by rw [XI.out, HVZ.out])) rfl ?_
        refine ⟨below_setRow HBX.out (Nat.le_succ _) _, .inl ⟨d, vs.toArray, by rw [HGET.out, HLN.out], HSD.out, rfl, ?_⟩⟩
        have hsame : ∀ q, NewF W4 w5 q → (w6.setRow (w.heap.size + 1) vs.toArray).heap[q]? = w5.heap[q]? := fun q hq => by
          rw [setRow_other _ _ _ _ (HQ6.out q hq)]
          exact HB6.out.block q hq.1.2
        exact HOK.out.keep HREP5.out hsame (fun q hq => NewF.mono HB4.out.size (by rw [size_setRow]; exact HB6.out.size) q hq (hsame q hq))
    · have hb2 : (((0 + used : Nat) : Int) != (n : Int)) = true := by rw [bne_iff_ne]; omega
      have hb3 : ((used : Int) != (n : Int)) = true := by rw [bne_iff_ne]; omega
      have hlt : used ≤ 140737488355328 := by omega
      have HUN := Lib.hid hun
      clear hln hus hun
      refine calls_of_wp hf hb ?_
      simp only [hn, List.size_toArray, List.length_cons, List.length_nil, Nat.reduceAdd, Nat.reduceSub, Array.replicate_succ, Array.replicate_zero, List.push_toArray, List.append_toArray, List.nil_append, List.cons_append]
      simp only [readCode]
      go_wp2_with fail
      rw [← hW4]
      clear hW4
      refine HC.out.mono ?_
      rintro e w5 ⟨rfl, hg5, vs, hx5, hrep5⟩
      have hR1 := (hg5.block (w.heap.size + 1) (row_lt HR4.out) (fun e => by have := Option.some.inj e; omega)).trans HR4.out
      have hN := (hg5.block (w.heap.size + 1 + 1 + 1) (row_lt HN4.out) (fun e => by have := Option.some.inj e; omega)).trans HN4.out
      have HBX := Lib.hid (HB4.out.grown hg5 HB4.out.size (fun q e => by have := Option.some.inj e; omega))
      clear hg5 hx5 hrep5
      have HN := Lib.hid hN
      have HR1 := Lib.hid hR1
      clear hN hR1
      go_wp2_with (first
      | (with_reducible refine wpList_load_row rfl tX (.tmp 7) rfl (w.heap.size + 1 + 1 + 1) rfl tX k.zero.toArray (0, 0) _ HN.out XUD.out rfl (by rw [XI.out, List.size_toArray]) ?_)
      | (with_reducible refine wpList_store_row rfl tX (.tmp 4) (.tmp 31) rfl (w.heap.size + 1) k.zero.toArray rfl rfl tX k.zero.toArray HR1.out (by rw [XI.out, List.size_toArray]) rfl HZ1.out ?_))
      refine bodyPost_ret (v := .tuple #[.agg k.zero.toArray, .int .i64 4]) (results_cell_tmp hr _ _ (w.heap.size + 1) tX k.zero.toArray (0, 0) _ rfl (setRow_heap _ _ _ _ _ _ HR1.out) XUD.out (by rw [XI.out, List.size_toArray])) rfl ?_
      exact ⟨below_setRow HBX.out (Nat.le_succ _) _, .inr ⟨(fun d2 h => by have h1 := h.1; rw [HGET.out] at h1; injection h1 with h1; injection h1 with _ h1; exact HUN.out (h1.trans HLN.out.symm)), rfl⟩⟩
theorem read_any {f : FuncId} {fn : Func} {tK tX tP tV tZ : Nat} {p0 p1 p2 p3 p4 p5 : String} (hf : Tryz.prog.funcs[f]? = some fn) (hb : fn.body = some (readCode tK tX tP tV tZ p0 p1 p2 p3 p4 p5)) (hn : fn.ntmps = 33) (hr : fn.results = #[.cell 4 tX, .tmp 5])
    (kt : KT tK) (hV : ∀ w, (isAgg tV).run Tryz.prog w = .ok false w) (hZ : ∀ w, (isAgg tZ).run Tryz.prog w = .ok false w)
    {k : Kd} (xt : XT tX k.zero) {f1 f2 f3 : Value} {A : Option Addr} {n c : Nat} {b : List UInt8} {L : Nat} (w : World) (hk : KindAt L w f1 f2 f3 0 k) (hln : n = b.length) (hnc : n ≤ c) (hm : n ≤ 140737488355328) (hrd : Lies w w.heap.size A b) :
    Calls Tryz.prog f #[.agg #[f1, f2, f3], .slice A n c] w (ReadsK k b w) :=
  (read_free hf hb hn hr kt hV hZ xt w hk hln hnc hm hrd).mono fun _ _ h => h.weak hk.ok
end Go.Proofs.YtdbaajgkcjpnoaaGreat.Kd
