/- A kind's write, over any instance. Written by genw.py. | Package msg's functions that give a value's bytes, over any kind. Written by geni.py. -/
import Derived.Test.YtdbaajgkcjpnoaaGreatGJ
import Derived.Laws.Tables
import Derived.BigQuiet
import Derived.Deep.QuietTactic
import Derived.Deep.RegionLaw
/-! A kind's write, over any instance. Written by genw.py. -/
namespace Go.Proofs.YtdbaajgkcjpnoaaGreat.Kd
open Go.RowKit By CoP Co Mo

/-- Writes: the bytes, or that it is not sound. -/
def Writes (k : Kd) (d : Data) (w : World) (e : Ending) (w' : World) : Prop :=
  Below w.heap.size w w' ∧ ((k.sound d = true ∧ ∃ v, e = .returned (.tuple #[v, .int .i64 0]) ∧ Own w.heap.size w' v (k.put d)) ∨ (k.sound d = false ∧ e = .returned (.tuple #[.slice none 0 0, .int .i64 2])))
def writeCode (tK tX tP tV tY : Nat) (p0 p1 p2 p3 : String) : Code :=
  ((Code.region 0
            #[{ dst := some 2, op := Op.box tK (Operand.tmp 0), type := 0, pos := p0, after := #[],
                guard := none },
              { dst := some 3, op := Op.box tX (Operand.tmp 1), type := 0, pos := p0, after := #[],
                guard := none },
              { dst := some 4, op := Op.assign (Operand.const (Value.slice none 0 0)), type := 37, pos := p0,
                after := #[], guard := none },
              { dst := some 5, op := Op.assign (Operand.const (Value.int IntKind.i64 0)), type := 40,
                pos := p0, after := #[{ on := 2, ground := Ground.chain }], guard := none }]
            false).seq
        (((Code.region 1
                  #[{ dst := some 6, op := Op.fieldAddr tK (Operand.tmp 2) 0, type := 0, pos := p1,
                      after := #[], guard := none },
                    { dst := some 7, op := Op.load tV (Operand.tmp 6), type := tV, pos := p1,
                      after := #[{ on := 0, ground := Ground.data }], guard := none },
                    { dst := some 8,
                      op :=
                        Op.call
                          { callee := Callee.value (Operand.tmp 7), args := #[Operand.tmp 3], argTypes := #[tP] },
                      type := 4, pos := p1, after := #[{ on := 1, ground := Ground.data }], guard := none },
                    { dst := some 9, op := Op.unOp UnOp.not 4 (Operand.tmp 8), type := 4, pos := p1,
                      after := #[{ on := 2, ground := Ground.data }], guard := none }]
                  false).seq
              (Code.cond (Operand.tmp 9)
                ((Code.region 2
                      #[{ dst := some 4, op := Op.assign (Operand.const (Value.slice none 0 0)), type := 37,
                          pos := p2, after := #[], guard := none },
                        { dst := some 5, op := Op.assign (Operand.const (Value.int IntKind.i64 2)), type := 40,
                          pos := p2,
                          after := #[{ on := 0, ground := Ground.chain }, { on := 0, ground := Ground.phase }],
                          guard := none }]
                      false).seq
                  Code.ret)
                Code.skip)).seq
          ((Code.region 3
                #[{ dst := some 10, op := Op.fieldAddr tK (Operand.tmp 2) 1, type := 0, pos := p3,
                    after := #[], guard := none },
                  { dst := some 11, op := Op.load tY (Operand.tmp 10), type := tY, pos := p3,
                    after := #[{ on := 0, ground := Ground.data }], guard := none },
                  { dst := some 12,
                    op :=
                      Op.call { callee := Callee.value (Operand.tmp 11), args := #[Operand.tmp 3], argTypes := #[tP] },
                    type := 37, pos := p3, after := #[{ on := 1, ground := Ground.data }], guard := none },
                  { dst := some 4, op := Op.assign (Operand.tmp 12), type := 37, pos := p3,
                    after :=
                      #[{ on := 2, ground := Ground.data }, { on := 2, ground := Ground.chain },
                        { on := 0, ground := Ground.phase }, { on := 1, ground := Ground.phase },
                        { on := 2, ground := Ground.phase }],
                    guard := none },
                  { dst := some 5, op := Op.assign (Operand.const (Value.int IntKind.i64 0)), type := 40,
                    pos := p3,
                    after :=
                      #[{ on := 3, ground := Ground.chain }, { on := 0, ground := Ground.phase },
                        { on := 1, ground := Ground.phase }, { on := 2, ground := Ground.phase },
                        { on := 3, ground := Ground.phase }],
                    guard := none }]
                false).seq
            Code.ret)))
set_option maxRecDepth 100000 in
set_option maxHeartbeats 1200000 in
theorem write_any {f : FuncId} {fn : Func} {tK tX tP tV tY : Nat} {p0 p1 p2 p3 : String} (hf : Tryz.prog.funcs[f]? = some fn) (hb : fn.body = some (writeCode tK tX tP tV tY p0 p1 p2 p3)) (hn : fn.ntmps = 13) (hr : fn.results = #[.tmp 4, .tmp 5])
    (kt : KT tK) (hV : ∀ w, (isAgg tV).run Tryz.prog w = .ok false w) (hY : ∀ w, (isAgg tY).run Tryz.prog w = .ok false w)
    {k : Kd} {f1 f2 f3 : Value} {xs : List Value} {d : Data} {L : Nat} (w : World) (hk : KindAt L w f1 f2 f3 0 k) (hrep : k.rep w (Old w) xs d) (hlen : k.sound d = true → (k.put d).length + 9 ≤ 140737488355328) :
    Calls Tryz.prog f #[.agg #[f1, f2, f3], .agg xs.toArray] w (Writes k d w) := by
  obtain ⟨F1, F2, F3, o1, o2, o3, z1, z2, z3, hu⟩ := kt.u
  have ha0 := kt.a
  have hs0 := kt.s
  have hz0 := kt.z
  obtain ⟨hok, ⟨fs, cs, rfl, es, HS0⟩, ⟨fp, cp, rfl, ep, HP0⟩, ⟨fg, cg, rfl, _, _⟩⟩ := hk
  have es' : ∀ (args : Array Value) (w : World), (callFunc fs args).run Tryz.prog w = .ok (.enter fs args) w := es
  have ep' : ∀ (args : Array Value) (w : World), (callFunc fp args).run Tryz.prog w = .ok (.enter fp args) w := ep
  have hb1 : Below w.heap.size w ((w.alloc (.cells #[.func (.func fs) #[] cs, .func (.func fp) #[] cp, .func (.func fg) #[] cg] tK)).alloc (.cells xs.toArray tX)) := ((Below.refl _ _).alloc (Nat.le_refl _) _).alloc (by simp) _
  have hr1 : Rd ((w.alloc (.cells #[.func (.func fs) #[] cs, .func (.func fp) #[] cp, .func (.func fg) #[] cg] tK)).alloc (.cells xs.toArray tX)) (w.heap.size + 1) (0 + 0) xs := by
    have h := Rd.row (heap_alloc2_new w (.cells #[.func (.func fs) #[] cs, .func (.func fp) #[] cp, .func (.func fg) #[] cg] tK) (.cells xs.toArray tX))
    simpa using h
  have hrep1 := hok.below hrep hb1
  have hcall := HS0 _ (keeps_of hb1) (w.heap.size + 1) 0 xs d hr1 hrep1
  have hkrow := heap_alloc2_old w (.cells #[.func (.func fs) #[] cs, .func (.func fp) #[] cp, .func (.func fg) #[] cg] tK) (.cells xs.toArray tX)
  have HKROW := Lib.hid hkrow
  have HP := Lib.hid HP0
  have HB1 := Lib.hid hb1
  have HR1 := Lib.hid hr1
  have HREP1 := Lib.hid hrep1
  have HOK := Lib.hid hok
  clear HS0 HP0 hb1 hr1 hrep1 hrep hkrow kt es ep hok
  cases hsd : k.sound d with
  | false =>
    rw [hsd] at hcall
    have HC := Lib.hid hcall
    have HSD := Lib.hid hsd
    clear hcall hsd hlen
    refine calls_of_wp hf hb ?_
    simp only [hn, List.size_toArray, List.length_cons, List.length_nil, Nat.reduceAdd, Nat.reduceSub, Array.replicate_succ, Array.replicate_zero, List.push_toArray, List.append_toArray, List.nil_append, List.cons_append]
    simp only [writeCode]
    go_wp2_with fail
    refine HC.out.mono ?_
    rintro e w2 ⟨rfl, hb2⟩
    have HB2 := Lib.hid (ext HB1.out hb2)
    clear hb2
    go_wp2
    refine bodyPost_ret (results_tmp2 hr _ _ _) rfl ?_
    exact ⟨HB2.out, .inr ⟨HSD.out, rfl⟩⟩
  | true =>
    rw [hsd] at hcall
    have HC := Lib.hid hcall
    have HSD := Lib.hid hsd
    have HL := Lib.hid (hlen hsd)
    clear hcall hsd hlen
    refine calls_of_wp hf hb ?_
    simp only [hn, List.size_toArray, List.length_cons, List.length_nil, Nat.reduceAdd, Nat.reduceSub, Array.replicate_succ, Array.replicate_zero, List.push_toArray, List.append_toArray, List.nil_append, List.cons_append]
    simp only [writeCode]
    go_wp2_with fail
    refine HC.out.mono ?_
    rintro e w2 ⟨rfl, hb2⟩
    have hkr := (hb2.block w.heap.size (row_lt HKROW.out)).trans HKROW.out
    have a2 : w2.cell? ⟨w.heap.size, 1, none⟩ = some (.func (.func fp) #[] cp) := by rw [cell_of_row w2 w.heap.size 1 _ _ _ hkr]; rfl
    have hcall := HP.out w2 (keeps_of (ext HB1.out hb2)) (w.heap.size + 1) 0 xs d (HR1.out.below hb2) (HOK.out.below HREP1.out hb2) HL.out
    have HC2 := Lib.hid hcall
    have HB2 := Lib.hid (ext HB1.out hb2)
    clear hb2 hkr hcall
    go_wp2_with fail
    refine HC2.out.mono ?_
    rintro e w3 ⟨v, rfl, ho, hb3⟩
    have HO := Lib.hid (ho.more HB2.out.size)
    have HB3 := Lib.hid (ext HB2.out hb3)
    clear ho hb3
    go_wp2
    refine bodyPost_ret (results_tmp2 hr _ _ _) rfl ?_
    exact ⟨HB3.out, .inl ⟨HSD.out, _, rfl, HO.out⟩⟩
end Go.Proofs.YtdbaajgkcjpnoaaGreat.Kd

/-! Package msg's functions that give a value's bytes, over any kind. Written by geni.py. -/
namespace Go.Proofs.YtdbaajgkcjpnoaaGreat.Kd
open Go.RowKit By CoP Co Mo

theorem run_cells_row {w : World} {g : Nat} {xs : List Value} {t : TypeId} {fr : Nat × Nat} (hg : w.heap[g]? = some (.cells xs.toArray t fr)) {n : Nat} (hn : n = xs.length) : (loadCellsFrom ⟨g, 0, none⟩ 0 n #[]).run Tryz.prog w = .ok xs.toArray w := by
  subst hn
  exact run_loadCells_list (P := Tryz.prog) w ⟨g, 0, none⟩ xs (fun j v hv => by
    rw [plainAdd, cell_of_row w g (0 + j) _ _ _ hg, Nat.zero_add]
    simpa using hv)
theorem Writes.tell {k : Kd} {d : Data} {w w' : World} {e : Ending} (h : Writes k d w e w') : ∃ (v : Value) (er : Int), e = .returned (.tuple #[v, .int .i64 er]) ∧ Writes k d w (.returned (.tuple #[v, .int .i64 er])) w' := by
  have h' := h
  rcases h with ⟨_, ⟨_, v, rfl, _⟩ | ⟨_, rfl⟩⟩
  · exact ⟨_, _, rfl, h'⟩
  · exact ⟨_, _, rfl, h'⟩
theorem Writes.ext {k : Kd} {d : Data} {w w0 w' : World} {e : Ending} (hb : Below w.heap.size w w0) (h : Writes k d w0 e w') : Writes k d w e w' := by
  rcases h with ⟨h0, ⟨h1, v, h2, h3⟩ | h1⟩
  · exact ⟨By.ext hb h0, .inl ⟨h1, v, h2, h3.more hb.size⟩⟩
  · exact ⟨By.ext hb h0, .inr h1⟩
def topWCode (tX tK q1 q2 : Nat) (p0 : String) : Code :=
  ((Code.region 0
            #[{ dst := some 1, op := Op.box tX (Operand.tmp 0), type := 0, pos := p0, after := #[],
                guard := none },
              { dst := some 2, op := Op.assign (Operand.const (Value.slice none 0 0)), type := 37, pos := p0,
                after := #[], guard := none },
              { dst := some 3, op := Op.assign (Operand.const (Value.int IntKind.i64 0)), type := 40,
                pos := p0, after := #[{ on := 1, ground := Ground.chain }], guard := none }]
            false).seq
        ((Code.region 1
              #[{ dst := some 4,
                  op := Op.call { callee := Callee.value (Operand.func q1), args := #[], argTypes := #[] }, type := tK,
                  pos := p0, after := #[], guard := none },
                { dst := some 5, op := Op.load tX (Operand.tmp 1), type := tX, pos := p0, after := #[],
                  guard := none },
                { dst := some 6,
                  op :=
                    Op.call
                      { callee := Callee.value (Operand.func q2), args := #[Operand.tmp 4, Operand.tmp 5],
                        argTypes := #[tK, tX] },
                  type := 82, pos := p0,
                  after :=
                    #[{ on := 0, ground := Ground.data }, { on := 1, ground := Ground.data },
                      { on := 0, ground := Ground.chain }],
                  guard := none },
                { dst := some 7, op := Op.extract (Operand.tmp 6) 0, type := 37, pos := p0,
                  after := #[{ on := 2, ground := Ground.data }], guard := none },
                { dst := some 8, op := Op.extract (Operand.tmp 6) 1, type := 40, pos := p0,
                  after := #[{ on := 2, ground := Ground.data }], guard := none },
                { dst := some 2, op := Op.assign (Operand.tmp 7), type := 37, pos := p0,
                  after :=
                    #[{ on := 3, ground := Ground.data }, { on := 2, ground := Ground.chain },
                      { on := 0, ground := Ground.phase }, { on := 1, ground := Ground.phase },
                      { on := 2, ground := Ground.phase }, { on := 3, ground := Ground.phase },
                      { on := 4, ground := Ground.phase }],
                  guard := none },
                { dst := some 3, op := Op.assign (Operand.tmp 8), type := 40, pos := p0,
                  after :=
                    #[{ on := 4, ground := Ground.data }, { on := 5, ground := Ground.chain },
                      { on := 0, ground := Ground.phase }, { on := 1, ground := Ground.phase },
                      { on := 2, ground := Ground.phase }, { on := 3, ground := Ground.phase },
                      { on := 4, ground := Ground.phase }, { on := 5, ground := Ground.phase }],
                  guard := none }]
              true).seq
          Code.ret))
set_option maxRecDepth 100000 in
set_option maxHeartbeats 4000000 in
theorem topW_any {f : FuncId} {fn : Func} {tX tK q1 q2 n : Nat} {p0 : String} (hf : Tryz.prog.funcs[f]? = some fn) (hb : fn.body = some (topWCode tX tK q1 q2 p0)) (hn : fn.ntmps = 9) (hr : fn.results = #[.tmp 2, .tmp 3])
    (xa : ∀ w, (isAgg tX).run Tryz.prog w = .ok true w) (xs0 : ∀ w, (sizeOf tX).run Tryz.prog w = .ok n w)
    (e1 : ∀ (args : Array Value) (w : World), (callFunc q1 args).run Tryz.prog w = .ok (.enter q1 args) w) (e2 : ∀ (args : Array Value) (w : World), (callFunc q2 args).run Tryz.prog w = .ok (.enter q2 args) w)
    {k : Kd} (hk : ∀ w : World, Calls Tryz.prog q1 #[] w (Makes w.heap.size k 0 w))
    (hw : ∀ (L : Nat) (w : World) (f1 f2 f3 : Value) (xs : List Value) (d : Data), KindAt L w f1 f2 f3 0 k → k.rep w (Old w) xs d → (k.sound d = true → (k.put d).length + 9 ≤ 140737488355328) → Calls Tryz.prog q2 #[.agg #[f1, f2, f3], .agg xs.toArray] w (Writes k d w))
    (hok : k.Ok) {xs : List Value} {d : Data} (w : World) (hxs : xs.length = n) (hrep : k.rep w (Old w) xs d) (hlen : k.sound d = true → (k.put d).length + 9 ≤ 140737488355328) :
    Calls Tryz.prog f #[.agg xs.toArray] w (Writes k d w) := by
  have hb0 : Below w.heap.size w (w.alloc (.cells xs.toArray tX)).drew := ((Below.refl _ _).alloc (Nat.le_refl _) _).drew
  have HROW0 := Lib.hid (show (w.alloc (.cells xs.toArray tX)).drew.heap[w.heap.size]? = some (.cells xs.toArray tX (0, 0)) from heap_alloc_new w (.cells xs.toArray tX))
  have HB0 := Lib.hid hb0
  have HREP0 := Lib.hid (hok.below hrep hb0)
  have HXS := Lib.hid hxs.symm
  have hl0 := run_cells_row HROW0.out hxs.symm
  have HK := Lib.hid hk
  have HW := Lib.hid hw
  have HLEN := Lib.hid hlen
  have HOK := Lib.hid hok
  clear hb0 hrep hk hw hlen hok hxs
  refine calls_of_wp hf hb ?_
  simp only [hn, List.size_toArray, List.length_cons, List.length_nil, Nat.reduceAdd, Nat.reduceSub, Array.replicate_succ, Array.replicate_zero, List.push_toArray, List.append_toArray, List.nil_append, List.cons_append]
  simp only [topWCode]
  go_wp2
  go_region_law (first
    | (go_simp; go_at_fn q1; refine (HK.out _).mono ?_; rintro e w1 ⟨f1, f2, f3, rfl, hkk, hb1⟩
       have HKK := Lib.hid hkk
       have HROW1 := Lib.hid ((hb1.block w.heap.size (row_lt HROW0.out)).trans HROW0.out)
       have hl1 := run_cells_row HROW1.out HXS.out
       have HREP1 := Lib.hid (HOK.out.below HREP0.out hb1)
       have HB1 := Lib.hid (By.ext HB0.out hb1)
       clear hkk hb1)
    | (go_simp; go_at_fn q2; refine (HW.out _ _ _ _ _ xs d HKK.out HREP1.out HLEN.out).mono ?_; rintro e w2 hw2
       obtain ⟨v, er, rfl, hw3⟩ := Writes.tell hw2
       have HW3 := Lib.hid (Writes.ext HB1.out hw3)
       clear hw2 hw3))
  all_goals
    go_wp2
    refine bodyPost_ret (results_tmp2 hr _ _ _) rfl ?_
    change Writes _ _ _ (.returned (.tuple #[v, .int .i64 er])) _
    exact HW3.out
end Go.Proofs.YtdbaajgkcjpnoaaGreat.Kd
