/- Package msg's functions that give a value's bytes, over any kind. Written by geni.py. -/
import Derived.Test.YtloieecpgndbhaaGreatKfF
import Derived.Deep.RegionLaw
namespace Go.Proofs.YtloieecpgndbhaaGreat.Kd
open Go.RowKit By CoP Co Mo

theorem run_cells_row {w : World} {g : Nat} {xs : List Value} {t : TypeId} {fr : Nat × Nat} (hg : w.heap[g]? = some (.cells xs.toArray t fr)) {n : Nat} (hn : n = xs.length) : (loadCellsFrom ⟨g, 0, none⟩ 0 n #[]).run Tryz.prog w = .ok xs.toArray w := by
  subst hn
  exact run_loadCells_list (P := Tryz.prog) w ⟨g, 0, none⟩ xs (fun j v hv => by
    rw [plainAdd, cell_of_row w g (0 + j) _ _ _ hg, Nat.zero_add]
    simpa using hv)
theorem Writes.tell {k : Kd} {d : Data} {w w' : World} {e : Ending} (h : Writes k d w e w') : ∃ (v : Value) (er : Int), e = .returned (.tuple #[v, .int .i64 er]) ∧ Writes k d w (.returned (.tuple #[v, .int .i64 er])) w' := by
  have h' := h
  rcases h with ⟨_, ⟨_, v, rfl, _⟩ | ⟨_, rfl⟩⟩
  · exact ⟨_, _, rfl, h'⟩
  · exact ⟨_, _, rfl, h'⟩
theorem Writes.ext {k : Kd} {d : Data} {w w0 w' : World} {e : Ending} (hb : Below w.heap.size w w0) (h : Writes k d w0 e w') : Writes k d w e w' := by
  rcases h with ⟨h0, ⟨h1, v, h2, h3⟩ | h1⟩
  · exact ⟨By.ext hb h0, .inl ⟨h1, v, h2, h3.more hb.size⟩⟩
  · exact ⟨By.ext hb h0, .inr h1⟩
def topWCode (tX tK q1 q2 : Nat) (p0 : String) : Code :=
  ((Code.region 0
            #[{ dst := some 1, op := Op.box tX (Operand.tmp 0), type := 0, pos := p0, after := #[],
                guard := none },
              { dst := some 2, op := Op.assign (Operand.const (Value.slice none 0 0)), type := 23, pos := p0,
                after := #[], guard := none },
              { dst := some 3, op := Op.assign (Operand.const (Value.int IntKind.i64 0)), type := 33,
                pos := p0, after := #[{ on := 1, ground := Ground.chain }], guard := none }]
            false).seq
        ((Code.region 1
              #[{ dst := some 4,
                  op := Op.call { callee := Callee.value (Operand.func q1), args := #[], argTypes := #[] }, type := tK,
                  pos := p0, after := #[], guard := none },
                { dst := some 5, op := Op.load tX (Operand.tmp 1), type := tX, pos := p0, after := #[],
                  guard := none },
                { dst := some 6,
                  op :=
                    Op.call
                      { callee := Callee.value (Operand.func q2), args := #[Operand.tmp 4, Operand.tmp 5],
                        argTypes := #[tK, tX] },
                  type := 34, pos := p0,
                  after :=
                    #[{ on := 0, ground := Ground.data }, { on := 1, ground := Ground.data },
                      { on := 0, ground := Ground.chain }],
                  guard := none },
                { dst := some 7, op := Op.extract (Operand.tmp 6) 0, type := 23, pos := p0,
                  after := #[{ on := 2, ground := Ground.data }], guard := none },
                { dst := some 8, op := Op.extract (Operand.tmp 6) 1, type := 33, pos := p0,
                  after := #[{ on := 2, ground := Ground.data }], guard := none },
                { dst := some 2, op := Op.assign (Operand.tmp 7), type := 23, pos := p0,
                  after :=
                    #[{ on := 3, ground := Ground.data }, { on := 2, ground := Ground.chain },
                      { on := 0, ground := Ground.phase }, { on := 1, ground := Ground.phase },
                      { on := 2, ground := Ground.phase }, { on := 3, ground := Ground.phase },
                      { on := 4, ground := Ground.phase }],
                  guard := none },
                { dst := some 3, op := Op.assign (Operand.tmp 8), type := 33, pos := p0,
                  after :=
                    #[{ on := 4, ground := Ground.data }, { on := 5, ground := Ground.chain },
                      { on := 0, ground := Ground.phase }, { on := 1, ground := Ground.phase },
                      { on := 2, ground := Ground.phase }, { on := 3, ground := Ground.phase },
                      { on := 4, ground := Ground.phase }, { on := 5, ground := Ground.phase }],
                  guard := none }]
              true).seq
          Code.ret))
set_option maxRecDepth 100000 in
set_option maxHeartbeats 4000000 in
theorem topW_any {f : FuncId} {fn : Func} {tX tK q1 q2 n : Nat} {p0 : String} (hf : Tryz.prog.funcs[f]? = some fn) (hb : fn.body = some (topWCode tX tK q1 q2 p0)) (hn : fn.ntmps = 9) (hr : fn.results = #[.tmp 2, .tmp 3])
    (xa : ∀ w, (isAgg tX).run Tryz.prog w = .ok true w) (xs0 : ∀ w, (sizeOf tX).run Tryz.prog w = .ok n w)
    (e1 : ∀ (args : Array Value) (w : World), (callFunc q1 args).run Tryz.prog w = .ok (.enter q1 args) w) (e2 : ∀ (args : Array Value) (w : World), (callFunc q2 args).run Tryz.prog w = .ok (.enter q2 args) w)
    {k : Kd} (hk : ∀ w : World, Calls Tryz.prog q1 #[] w (Makes w.heap.size k 0 w))
    (hw : ∀ (L : Nat) (w : World) (f1 f2 f3 : Value) (xs : List Value) (d : Data), KindAt L w f1 f2 f3 0 k → k.rep w (Old w) xs d → (k.sound d = true → (k.put d).length + 9 ≤ 140737488355328) → Calls Tryz.prog q2 #[.agg #[f1, f2, f3], .agg xs.toArray] w (Writes k d w))
    (hok : k.Ok) {xs : List Value} {d : Data} (w : World) (hxs : xs.length = n) (hrep : k.rep w (Old w) xs d) (hlen : k.sound d = true → (k.put d).length + 9 ≤ 140737488355328) :
    Calls Tryz.prog f #[.agg xs.toArray] w (Writes k d w) := by
  have hb0 : Below w.heap.size w (w.alloc (.cells xs.toArray tX)).drew := ((Below.refl _ _).alloc (Nat.le_refl _) _).drew
  have HROW0 := Lib.hid (show (w.alloc (.cells xs.toArray tX)).drew.heap[w.heap.size]? = some (.cells xs.toArray tX (0, 0)) from heap_alloc_new w (.cells xs.toArray tX))
  have HB0 := Lib.hid hb0
  have HREP0 := Lib.hid (hok.below hrep hb0)
  have HXS := Lib.hid hxs.symm
  have hl0 := run_cells_row HROW0.out hxs.symm
  have HK := Lib.hid hk
  have HW := Lib.hid hw
  have HLEN := Lib.hid hlen
  have HOK := Lib.hid hok
  clear hb0 hrep hk hw hlen hok hxs
  refine calls_of_wp hf hb ?_
  simp only [hn, List.size_toArray, List.length_cons, List.length_nil, Nat.reduceAdd, Nat.reduceSub, Array.replicate_succ, Array.replicate_zero, List.push_toArray, List.append_toArray, List.nil_append, List.cons_append]
  simp only [topWCode]
  go_wp2
  go_region_law (first
    | (go_simp; go_at_fn q1; refine (HK.out _).mono ?_; rintro e w1 ⟨f1, f2, f3, rfl, hkk, hb1⟩
       have HKK := Lib.hid hkk
       have HROW1 := Lib.hid ((hb1.block w.heap.size (row_lt HROW0.out)).trans HROW0.out)
       have hl1 := run_cells_row HROW1.out HXS.out
       have HREP1 := Lib.hid (HOK.out.below HREP0.out hb1)
       have HB1 := Lib.hid (By.ext HB0.out hb1)
       clear hkk hb1)
    | (go_simp; go_at_fn q2; refine (HW.out _ _ _ _ _ xs d HKK.out HREP1.out HLEN.out).mono ?_; rintro e w2 hw2
       obtain ⟨v, er, rfl, hw3⟩ := Writes.tell hw2
       have HW3 := Lib.hid (Writes.ext HB1.out hw3)
       clear hw2 hw3))
  all_goals
    go_wp2
    refine bodyPost_ret (results_tmp2 hr _ _ _) rfl ?_
    change Writes _ _ _ (.returned (.tuple #[v, .int .i64 er])) _
    exact HW3.out
end Go.Proofs.YtloieecpgndbhaaGreat.Kd
