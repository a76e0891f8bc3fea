/- field's closures, over any instance of it: what each does, if what it captured does so. Written by genf.py. | record's closures, over any instance of it: what each does, if the fields' do so. Written by genr.py. -/
import Derived.Test.YtdbaajgkcjpnoaaGreatGC
import Derived.Deep.RegionLaw
import Derived.StillTailTactics
/-! field's closures, over any instance of it: what each does, if what it captured does so. Written by genf.py. -/
namespace Go.Proofs.YtdbaajgkcjpnoaaGreat.Kd
open Go.RowKit By CoP Co Mo

/-- What is asked of a kind's type: three fields, one cell each. -/
structure KT (tK : Nat) : Prop where
  u : ∃ F1 F2 F3 : Field, F1.offset = 0 ∧ F2.offset = 1 ∧ F3.offset = 2 ∧ (∀ w, (sizeOf F1.type).run Tryz.prog w = .ok 1 w) ∧ (∀ w, (sizeOf F2.type).run Tryz.prog w = .ok 1 w) ∧ (∀ w, (sizeOf F3.type).run Tryz.prog w = .ok 1 w) ∧ ∀ w, (underlying tK).run Tryz.prog w = .ok (.struct #[F1, F2, F3]) w
  a : ∀ w, (isAgg tK).run Tryz.prog w = .ok true w
  s : ∀ w, (sizeOf tK).run Tryz.prog w = .ok 3 w
  ud : ∃ fs, Tryz.prog.underlying tK = some (.struct fs)
  i : (Tryz.prog.info? tK).map (·.size) = some 3
  z : ∀ w, (zeroValue tK).run Tryz.prog w = .ok (.agg #[.nilFunc, .nilFunc, .nilFunc]) w
def fieldSCode (tK tV tO tT tF : Nat) (p0 : String) : Code :=
  ((Code.region 0
            #[{ dst := some 4, op := Op.assign (Operand.const (Value.bool false)), type := 4, pos := p0,
                after := #[], guard := none }]
            false).seq
        ((Code.region 1
              #[{ dst := some 5, op := Op.fieldAddr tK (Operand.tmp 1) 0, type := 0, pos := p0,
                  after := #[], guard := none },
                { dst := some 6, op := Op.load tV (Operand.tmp 5), type := tV, pos := p0,
                  after := #[{ on := 0, ground := Ground.data }], guard := none },
                { dst := some 7, op := Op.load tO (Operand.tmp 2), type := tO, pos := p0, after := #[],
                  guard := none },
                { dst := some 8, op := Op.move (Operand.tmp 0), type := tT, pos := p0, after := #[],
                  guard := none },
                { dst := some 9,
                  op :=
                    Op.call { callee := Callee.value (Operand.tmp 7), args := #[Operand.tmp 8], argTypes := #[tT] },
                  type := tF, pos := p0,
                  after := #[{ on := 2, ground := Ground.data }, { on := 3, ground := Ground.data }], guard := none },
                { dst := some 10,
                  op :=
                    Op.call { callee := Callee.value (Operand.tmp 6), args := #[Operand.tmp 9], argTypes := #[tF] },
                  type := 4, pos := p0,
                  after :=
                    #[{ on := 1, ground := Ground.data }, { on := 4, ground := Ground.data },
                      { on := 4, ground := Ground.chain }],
                  guard := none },
                { dst := some 4, op := Op.assign (Operand.tmp 10), type := 4, pos := p0,
                  after :=
                    #[{ on := 5, ground := Ground.data }, { on := 5, ground := Ground.chain },
                      { on := 0, ground := Ground.phase }, { on := 1, ground := Ground.phase },
                      { on := 2, ground := Ground.phase }, { on := 3, ground := Ground.phase },
                      { on := 4, ground := Ground.phase }, { on := 5, ground := Ground.phase }],
                  guard := none }]
              true).seq
          Code.ret))
def fieldPCode (tK tV tO tT tF : Nat) (p0 : String) : Code :=
  ((Code.region 0
            #[{ dst := some 4, op := Op.assign (Operand.const (Value.slice none 0 0)), type := 37, pos := p0,
                after := #[], guard := none }]
            false).seq
        ((Code.region 1
              #[{ dst := some 5, op := Op.fieldAddr tK (Operand.tmp 1) 1, type := 0, pos := p0,
                  after := #[], guard := none },
                { dst := some 6, op := Op.load tV (Operand.tmp 5), type := tV, pos := p0,
                  after := #[{ on := 0, ground := Ground.data }], guard := none },
                { dst := some 7, op := Op.load tO (Operand.tmp 2), type := tO, pos := p0, after := #[],
                  guard := none },
                { dst := some 8, op := Op.move (Operand.tmp 0), type := tT, pos := p0, after := #[],
                  guard := none },
                { dst := some 9,
                  op :=
                    Op.call { callee := Callee.value (Operand.tmp 7), args := #[Operand.tmp 8], argTypes := #[tT] },
                  type := tF, pos := p0,
                  after := #[{ on := 2, ground := Ground.data }, { on := 3, ground := Ground.data }], guard := none },
                { dst := some 10,
                  op :=
                    Op.call { callee := Callee.value (Operand.tmp 6), args := #[Operand.tmp 9], argTypes := #[tF] },
                  type := 37, pos := p0,
                  after :=
                    #[{ on := 1, ground := Ground.data }, { on := 4, ground := Ground.data },
                      { on := 4, ground := Ground.chain }],
                  guard := none },
                { dst := some 4, op := Op.assign (Operand.tmp 10), type := 37, pos := p0,
                  after :=
                    #[{ on := 5, ground := Ground.data }, { on := 5, ground := Ground.chain },
                      { on := 0, ground := Ground.phase }, { on := 1, ground := Ground.phase },
                      { on := 2, ground := Ground.phase }, { on := 3, ground := Ground.phase },
                      { on := 4, ground := Ground.phase }, { on := 5, ground := Ground.phase }],
                  guard := none }]
              true).seq
          Code.ret))
def fieldGCode (tK tV tO tT tF : Nat) (p0 : String) : Code :=
  ((Code.region 0
            #[{ dst := some 8, op := Op.assign (Operand.const (Value.int IntKind.i64 0)), type := 3,
                pos := p0, after := #[], guard := none },
              { dst := some 9, op := Op.assign (Operand.const (Value.bool false)), type := 4, pos := p0,
                after := #[{ on := 0, ground := Ground.chain }], guard := none }]
            false).seq
        ((Code.region 1
              #[{ dst := some 10, op := Op.fieldAddr tK (Operand.tmp 3) 2, type := 0, pos := p0,
                  after := #[], guard := none },
                { dst := some 11, op := Op.load tV (Operand.tmp 10), type := tV, pos := p0,
                  after := #[{ on := 0, ground := Ground.data }], guard := none },
                { dst := some 12, op := Op.load tO (Operand.tmp 4), type := tO, pos := p0, after := #[],
                  guard := none },
                { dst := some 13, op := Op.move (Operand.tmp 0), type := tT, pos := p0, after := #[],
                  guard := none },
                { dst := some 14,
                  op :=
                    Op.call { callee := Callee.value (Operand.tmp 12), args := #[Operand.tmp 13], argTypes := #[tT] },
                  type := tF, pos := p0,
                  after := #[{ on := 2, ground := Ground.data }, { on := 3, ground := Ground.data }], guard := none },
                { dst := some 15, op := Op.move (Operand.tmp 1), type := 37, pos := p0, after := #[],
                  guard := none },
                { dst := some 16, op := Op.move (Operand.tmp 2), type := 3, pos := p0, after := #[],
                  guard := none },
                { dst := some 17,
                  op :=
                    Op.call
                      { callee := Callee.value (Operand.tmp 11),
                        args := #[Operand.tmp 14, Operand.tmp 15, Operand.tmp 16], argTypes := #[tF, 37, 3] },
                  type := 143, pos := p0,
                  after :=
                    #[{ on := 1, ground := Ground.data }, { on := 4, ground := Ground.data },
                      { on := 5, ground := Ground.data }, { on := 6, ground := Ground.data },
                      { on := 4, ground := Ground.chain }],
                  guard := none },
                { dst := some 18, op := Op.extract (Operand.tmp 17) 0, type := 3, pos := p0,
                  after := #[{ on := 7, ground := Ground.data }], guard := none },
                { dst := some 19, op := Op.extract (Operand.tmp 17) 1, type := 4, pos := p0,
                  after := #[{ on := 7, ground := Ground.data }], guard := none },
                { dst := some 8, op := Op.assign (Operand.tmp 18), type := 3, pos := p0,
                  after :=
                    #[{ on := 8, ground := Ground.data }, { on := 7, ground := Ground.chain },
                      { on := 0, ground := Ground.phase }, { on := 1, ground := Ground.phase },
                      { on := 2, ground := Ground.phase }, { on := 3, ground := Ground.phase },
                      { on := 4, ground := Ground.phase }, { on := 5, ground := Ground.phase },
                      { on := 6, ground := Ground.phase }, { on := 7, ground := Ground.phase },
                      { on := 8, ground := Ground.phase }, { on := 9, ground := Ground.phase }],
                  guard := none },
                { dst := some 9, op := Op.assign (Operand.tmp 19), type := 4, pos := p0,
                  after :=
                    #[{ on := 9, ground := Ground.data }, { on := 10, ground := Ground.chain },
                      { on := 0, ground := Ground.phase }, { on := 1, ground := Ground.phase },
                      { on := 2, ground := Ground.phase }, { on := 3, ground := Ground.phase },
                      { on := 4, ground := Ground.phase }, { on := 5, ground := Ground.phase },
                      { on := 6, ground := Ground.phase }, { on := 7, ground := Ground.phase },
                      { on := 8, ground := Ground.phase }, { on := 9, ground := Ground.phase },
                      { on := 10, ground := Ground.phase }],
                  guard := none }]
              true).seq
          Code.ret))

set_option maxRecDepth 100000 in
set_option maxHeartbeats 800000 in
theorem fieldS_any {f : FuncId} {fn : Func} {tK tV tO tT tF : Nat} {p0 : String} (hf : Tryz.prog.funcs[f]? = some fn) (hname : (fn.name == "runtime.NumGoroutine") = false) (hb : fn.body = some (fieldSCode tK tV tO tT tF p0)) (hn : fn.ntmps = 11) (hr : fn.results = #[.tmp 4])
    (kt : KT tK) (hV : ∀ w, (isAgg tV).run Tryz.prog w = .ok false w) (hO : ∀ w, (isAgg tO).run Tryz.prog w = .ok false w)
    {L : Nat} {W : World} {bk bo off : Nat} {k : Kd} {kv1 kv2 kv3 ov : Value} {t1 t2 : TypeId} (hLk : L ≤ bk) (hLo : L ≤ bo) (hk : W.heap[bk]? = some (.cells #[kv1, kv2, kv3] t1 (0, 0))) (ho : W.heap[bo]? = some (.cells #[ov] t2 (0, 0))) (hok : k.Ok) (hof : OfAt ov off) (hs : SoundAt L W kv1 0 k) :
    SoundAt L W (.func (.func f) #[] #[.pointer (some ⟨bk, 0, none⟩), .pointer (some ⟨bo, 0, none⟩)]) off k := by
  obtain ⟨F1, F2, F3, o1, o2, o3, z1, z2, z3, hu⟩ := kt.u
  obtain ⟨fo, rfl, eo, HO0⟩ := hof
  obtain ⟨fs, cap, rfl, es, HS0⟩ := hs
  refine ⟨_, _, rfl, enters_of hf hname hb, ?_⟩
  intro w hbw g o vs d hrd hrep
  have c1 : w.cell? ⟨bk, 0, none⟩ = some (.func (.func fs) #[] cap) := by rw [cell_of_row w bk 0 _ _ _ ((hbw.block bk hLk (row_lt hk)).trans hk)]; rfl
  have c2 : w.cell? ⟨bo, 0, none⟩ = some (.func (.func fo) #[] #[]) := by rw [cell_of_row w bo 0 _ _ _ ((hbw.block bo hLo (row_lt ho)).trans ho)]; rfl
  have eo' : ∀ (args : Array Value) (w : World), (callFunc fo args).run Tryz.prog w = .ok (.enter fo args) w := eo
  have es' : ∀ (args : Array Value) (w : World), (callFunc fs args).run Tryz.prog w = .ok (.enter fs args) w := es
  have HO := Lib.hid HO0
  have HS := Lib.hid (HS0 w.drew hbw.drew g (o + off) vs d hrd (hok.keep hrep (fun _ _ => rfl) (fun _ h => h)))
  clear HO0 HS0 hbw hrd hrep hk ho eo es
  refine calls_of_wp hf hb ?_
  simp only [hn, List.size_toArray, List.length_cons, List.length_nil, Nat.reduceAdd, Nat.reduceSub, Array.replicate_succ, Array.replicate_zero, List.push_toArray, List.append_toArray, List.nil_append, List.cons_append]
  simp only [fieldSCode]
  go_wp2
  go_still_tail 5, (by kernel_rfl)
  still_call (HO.out w.drew g o)
  refine wpStill_nil ?_
  change wpList _ _ _ _ _ w.drew
  go_wp2_with fail
  refine HS.out.mono ?_
  rintro e w1 ⟨rfl, hb1⟩
  have HB1 := Lib.hid hb1
  clear hb1
  go_wp2
  refine bodyPost_ret (results_tmp hr _ _ _) rfl ?_
  exact ⟨rfl, below_undrew HB1.out⟩
set_option maxRecDepth 100000 in
set_option maxHeartbeats 800000 in
theorem fieldP_any {f : FuncId} {fn : Func} {tK tV tO tT tF : Nat} {p0 : String} (hf : Tryz.prog.funcs[f]? = some fn) (hname : (fn.name == "runtime.NumGoroutine") = false) (hb : fn.body = some (fieldPCode tK tV tO tT tF p0)) (hn : fn.ntmps = 11) (hr : fn.results = #[.tmp 4])
    (kt : KT tK) (hV : ∀ w, (isAgg tV).run Tryz.prog w = .ok false w) (hO : ∀ w, (isAgg tO).run Tryz.prog w = .ok false w)
    {L : Nat} {W : World} {bk bo off : Nat} {k : Kd} {kv1 kv2 kv3 ov : Value} {t1 t2 : TypeId} (hLk : L ≤ bk) (hLo : L ≤ bo) (hk : W.heap[bk]? = some (.cells #[kv1, kv2, kv3] t1 (0, 0))) (ho : W.heap[bo]? = some (.cells #[ov] t2 (0, 0))) (hok : k.Ok) (hof : OfAt ov off) (hs : PutAt L W kv2 0 k) :
    PutAt L W (.func (.func f) #[] #[.pointer (some ⟨bk, 0, none⟩), .pointer (some ⟨bo, 0, none⟩)]) off k := by
  obtain ⟨F1, F2, F3, o1, o2, o3, z1, z2, z3, hu⟩ := kt.u
  obtain ⟨fo, rfl, eo, HO0⟩ := hof
  obtain ⟨fs, cap, rfl, es, HS0⟩ := hs
  refine ⟨_, _, rfl, enters_of hf hname hb, ?_⟩
  intro w hbw g o vs d hrd hrep hlen
  have c1 : w.cell? ⟨bk, 1, none⟩ = some (.func (.func fs) #[] cap) := by rw [cell_of_row w bk 1 _ _ _ ((hbw.block bk hLk (row_lt hk)).trans hk)]; rfl
  have c2 : w.cell? ⟨bo, 0, none⟩ = some (.func (.func fo) #[] #[]) := by rw [cell_of_row w bo 0 _ _ _ ((hbw.block bo hLo (row_lt ho)).trans ho)]; rfl
  have eo' : ∀ (args : Array Value) (w : World), (callFunc fo args).run Tryz.prog w = .ok (.enter fo args) w := eo
  have es' : ∀ (args : Array Value) (w : World), (callFunc fs args).run Tryz.prog w = .ok (.enter fs args) w := es
  have HO := Lib.hid HO0
  have HS := Lib.hid (HS0 w.drew hbw.drew g (o + off) vs d hrd (hok.keep hrep (fun _ _ => rfl) (fun _ h => h)) hlen)
  clear HO0 HS0 hbw hrd hrep hk ho eo es hlen
  refine calls_of_wp hf hb ?_
  simp only [hn, List.size_toArray, List.length_cons, List.length_nil, Nat.reduceAdd, Nat.reduceSub, Array.replicate_succ, Array.replicate_zero, List.push_toArray, List.append_toArray, List.nil_append, List.cons_append]
  simp only [fieldPCode]
  go_wp2
  go_still_tail 5, (by kernel_rfl)
  still_call (HO.out w.drew g o)
  refine wpStill_nil ?_
  change wpList _ _ _ _ _ w.drew
  go_wp2_with fail
  refine HS.out.mono ?_
  rintro e w1 ⟨v1, rfl, ho1, hb1⟩
  have HO1 := Lib.hid ho1
  have HB1 := Lib.hid hb1
  clear hb1 ho1
  go_wp2
  refine bodyPost_ret (results_tmp hr _ _ _) rfl ?_
  exact ⟨_, rfl, HO1.out, below_undrew HB1.out⟩
set_option maxRecDepth 100000 in
set_option maxHeartbeats 3000000 in
theorem fieldG_any {f : FuncId} {fn : Func} {tK tV tO tT tF : Nat} {p0 : String} (hf : Tryz.prog.funcs[f]? = some fn) (hname : (fn.name == "runtime.NumGoroutine") = false) (hb : fn.body = some (fieldGCode tK tV tO tT tF p0)) (hn : fn.ntmps = 20) (hr : fn.results = #[.tmp 8, .tmp 9])
    (kt : KT tK) (hV : ∀ w, (isAgg tV).run Tryz.prog w = .ok false w) (hO : ∀ w, (isAgg tO).run Tryz.prog w = .ok false w)
    {L : Nat} {W : World} {bk bo off : Nat} {k : Kd} {kv1 kv2 kv3 ov : Value} {t1 t2 : TypeId} (hLk : L ≤ bk) (hLo : L ≤ bo) (hk : W.heap[bk]? = some (.cells #[kv1, kv2, kv3] t1 (0, 0))) (ho : W.heap[bo]? = some (.cells #[ov] t2 (0, 0))) (hof : OfAt ov off) (hs : GetAt L W kv3 0 k) :
    GetAt L W (.func (.func f) #[] #[.pointer (some ⟨bk, 0, none⟩), .pointer (some ⟨bo, 0, none⟩)]) off k := by
  obtain ⟨F1, F2, F3, o1, o2, o3, z1, z2, z3, hu⟩ := kt.u
  obtain ⟨fo, rfl, eo, HO0⟩ := hof
  obtain ⟨fs, cap, rfl, es, HS0⟩ := hs
  refine ⟨_, _, rfl, enters_of hf hname hb, ?_⟩
  intro w hbw g o cs ty B A n c at_ b hg hrow hsz hz hln hnc hm hrd hBg hat
  have c1 : w.cell? ⟨bk, 2, none⟩ = some (.func (.func fs) #[] cap) := by rw [cell_of_row w bk 2 _ _ _ ((hbw.block bk hLk (row_lt hk)).trans hk)]; rfl
  have c2 : w.cell? ⟨bo, 0, none⟩ = some (.func (.func fo) #[] #[]) := by rw [cell_of_row w bo 0 _ _ _ ((hbw.block bo hLo (row_lt ho)).trans ho)]; rfl
  have eo' : ∀ (args : Array Value) (w : World), (callFunc fo args).run Tryz.prog w = .ok (.enter fo args) w := eo
  have es' : ∀ (args : Array Value) (w : World), (callFunc fs args).run Tryz.prog w = .ok (.enter fs args) w := es
  have HO := Lib.hid HO0
  have hcall := HS0 w.drew hbw.drew g (o + off) cs ty B A n c at_ b hg hrow hsz hz hln hnc hm hrd.drew hBg hat
  have HS := Lib.hid (hcall.mono fun e w' h => Got.tell h)
  clear HO0 HS0 hbw hrd hk ho eo es hcall hrow hsz hz hln hnc hm hBg hat
  refine calls_of_wp hf hb ?_
  simp only [hn, List.size_toArray, List.length_cons, List.length_nil, Nat.reduceAdd, Nat.reduceSub, Array.replicate_succ, Array.replicate_zero, List.push_toArray, List.append_toArray, List.nil_append, List.cons_append]
  simp only [fieldGCode]
  go_wp2
  go_region_law (first
    | (go_simp; go_at_fn fo; refine (HO.out _ _ _).mono ?_; rintro e w1 ⟨rfl, rfl⟩)
    | (go_simp; go_at_fn fs; refine HS.out.mono ?_; rintro e w1 ⟨N, okk, rfl, hg1⟩; have HG1 := Lib.hid hg1; clear hg1))
  all_goals
    go_wp2
    refine bodyPost_ret (results_tmp2 hr _ _ _) rfl ?_
    change Got _ _ _ _ _ _ _ _ (.returned (.tuple #[.int .i64 N, .bool okk])) _
    exact Got.undrew HG1.out
end Go.Proofs.YtdbaajgkcjpnoaaGreat.Kd

/-! record's closures, over any instance of it: what each does, if the fields' do so. Written by genr.py. -/
namespace Go.Proofs.YtdbaajgkcjpnoaaGreat.Kd
open Go.RowKit By CoP Co Mo

/-- What is asked of the type of a slice of kinds. -/
structure SlT (tS tK : Nat) : Prop where
  u : ∀ w, (underlying tS).run Tryz.prog w = .ok (.slice tK) w
  a : ∀ w, (isAgg tS).run Tryz.prog w = .ok false w
theorem SlT.len {tS tK : Nat} (h : SlT tS tK) (ty : Nat) (A : Option Addr) (n c : Nat) (w : World) : (Builtin.len_ #[tS] ty #[.slice A n c]).run Tryz.prog w = .ok (.int .i64 (n : Int)) w := by
  have hu := h.u
  simp [Builtin.len_, Sem.run_bind, hu, goInt]
theorem SlT.at_ {tS tK : Nat} (h : SlT tS tK) (k : KT tK) (b n c j : Nat) (hj : j < n) (w : World) : (Instr.indexAt tS (.slice (some ⟨b, 0, none⟩) n c) (.int .i64 (j : Int))).run Tryz.prog w = .ok (.pointer (some ⟨b, j * 3, none⟩)) w := by
  have hu := h.u
  have hs := k.s
  simp [Instr.indexAt, asIntOf, Sem.run_bind, hu, hs, plainAdd]
  omega
def recSCode (tS tK tV tT : Nat) (p0 p1 p2 p3 p4 : String) : Code :=
  ((Code.region 0
            #[{ dst := some 4, op := Op.assign (Operand.const (Value.bool false)), type := 4, pos := p0,
                after := #[], guard := none }]
            false).seq
        (((Code.region 1
                  #[{ dst := some 7, op := Op.load tS (Operand.tmp 1), type := tS, pos := p1, after := #[],
                      guard := none },
                    { dst := some 8,
                      op :=
                        Op.call { callee := Callee.builtin Builtin.len, args := #[Operand.tmp 7], argTypes := #[tS] },
                      type := 3, pos := p1, after := #[{ on := 0, ground := Ground.data }], guard := none },
                    { dst := some 9, op := Op.move (Operand.const (Value.int IntKind.i64 0)), type := 3,
                      pos := p1, after := #[], guard := none }]
                  false).seq
              (Code.block 0
                ((Code.region 2
                        #[{ dst := some 10, op := Op.binOp BinOp.lss 3 (Operand.tmp 9) (Operand.tmp 8) 3, type := 0,
                            pos := p1, after := #[], guard := none }]
                        false).seq
                    ((Code.cond (Operand.tmp 10) Code.skip (Code.exit 0)).seq
                      ((Code.block 1
                            ((Code.region 3
                                  #[{ dst := some 11, op := Op.indexAddr tS (Operand.tmp 7) (Operand.tmp 9), type := 0,
                                      pos := p1, after := #[], guard := none },
                                    { dst := some 12, op := Op.load tK (Operand.tmp 11), type := tK,
                                      pos := p1, after := #[{ on := 0, ground := Ground.data }],
                                      guard := none },
                                    { dst := some 6, op := Op.alloc tK, type := 0, pos := p1, after := #[],
                                      guard := none },
                                    { dst := none, op := Op.store tK (Operand.tmp 6) (Operand.tmp 12), type := 0,
                                      pos := p1,
                                      after :=
                                        #[{ on := 2, ground := Ground.data }, { on := 1, ground := Ground.data },
                                          { on := 0, ground := Ground.phase }, { on := 1, ground := Ground.phase },
                                          { on := 2, ground := Ground.phase }],
                                      guard := none }]
                                  false).seq
                              ((Code.region 4
                                    #[{ dst := some 13, op := Op.fieldAddr tK (Operand.tmp 6) 0, type := 0,
                                        pos := p2, after := #[], guard := none },
                                      { dst := some 14, op := Op.load tV (Operand.tmp 13), type := tV,
                                        pos := p2, after := #[{ on := 0, ground := Ground.data }],
                                        guard := none },
                                      { dst := some 15, op := Op.move (Operand.tmp 0), type := tT,
                                        pos := p2, after := #[], guard := none },
                                      { dst := some 16,
                                        op :=
                                          Op.call
                                            { callee := Callee.value (Operand.tmp 14), args := #[Operand.tmp 15],
                                              argTypes := #[tT] },
                                        type := 4, pos := p2,
                                        after :=
                                          #[{ on := 1, ground := Ground.data }, { on := 2, ground := Ground.data }],
                                        guard := none },
                                      { dst := some 17, op := Op.unOp UnOp.not 4 (Operand.tmp 16), type := 4,
                                        pos := p2, after := #[{ on := 3, ground := Ground.data }],
                                        guard := none }]
                                    false).seq
                                (Code.cond (Operand.tmp 17)
                                  ((Code.region 5
                                        #[{ dst := some 4, op := Op.assign (Operand.const (Value.bool false)),
                                            type := 4, pos := p3, after := #[], guard := none }]
                                        false).seq
                                    Code.ret)
                                  Code.skip)))).seq
                        (Code.region 6
                          #[{ dst := some 18,
                              op := Op.binOp BinOp.add 3 (Operand.tmp 9) (Operand.const (Value.int IntKind.i64 1)) 3,
                              type := 3, pos := p1, after := #[], guard := none },
                            { dst := some 9, op := Op.move (Operand.tmp 18), type := 3, pos := p1,
                              after := #[{ on := 0, ground := Ground.data }], guard := none }]
                          false)))).loop)).seq
          ((Code.region 7
                #[{ dst := some 19, op := Op.load tV (Operand.tmp 2), type := tV, pos := p4, after := #[],
                    guard := none },
                  { dst := some 20, op := Op.move (Operand.tmp 0), type := tT, pos := p4, after := #[],
                    guard := none },
                  { dst := some 21,
                    op :=
                      Op.call
                        { callee := Callee.value (Operand.tmp 19), args := #[Operand.tmp 20], argTypes := #[tT] },
                    type := 4, pos := p4,
                    after := #[{ on := 0, ground := Ground.data }, { on := 1, ground := Ground.data }], guard := none },
                  { dst := some 4, op := Op.assign (Operand.tmp 21), type := 4, pos := p4,
                    after :=
                      #[{ on := 2, ground := Ground.data }, { on := 2, ground := Ground.chain },
                        { on := 0, ground := Ground.phase }, { on := 1, ground := Ground.phase },
                        { on := 2, ground := Ground.phase }],
                    guard := none }]
                false).seq
            Code.ret)))
set_option maxRecDepth 100000 in
set_option maxHeartbeats 1600000 in
theorem recS_any {f : FuncId} {fn : Func} {tS tK tV tT : Nat} {p0 p1 p2 p3 p4 : String} (hf : Tryz.prog.funcs[f]? = some fn) (hname : (fn.name == "runtime.NumGoroutine") = false) (hb : fn.body = some (recSCode tS tK tV tT p0 p1 p2 p3 p4)) (hn : fn.ntmps = 22) (hr : fn.results = #[.tmp 4])
    (kt : KT tK) (st : SlT tS tK) (hV : ∀ w, (isAgg tV).run Tryz.prog w = .ok false w)
    {L : Nat} {W : World} {bf ba cf : Nat} {ks : List Kd} {t : List Data → Bool} {fs : List Value} {t1 t2 : TypeId} (hLf : L ≤ bf) (hLa : L ≤ ba) (hcf : W.heap[bf]? = some (.cells #[.slice (some ⟨ba, 0, none⟩) ks.length cf] t1 (0, 0))) (ha : W.heap[ba]? = some (.cells fs.toArray t2 (0, 0))) (hF : FieldsAt L W ks 0 fs) (hok : ∀ k ∈ ks, k.Ok) (hm : ks.length ≤ 1000) {bt : Nat} {tv : Value} {t3 : TypeId} (hLt : L ≤ bt) (ht : W.heap[bt]? = some (.cells #[tv] t3 (0, 0))) (hT : TiedAt L W tv ks t) :
    SoundAt L W (.func (.func f) #[] #[.pointer (some ⟨bf, 0, none⟩), .pointer (some ⟨bt, 0, none⟩)]) 0 (recK ks t) := by
  obtain ⟨F1, F2, F3, o1, o2, o3, z1, z2, z3, hu⟩ := kt.u
  have ha0 := kt.a
  have hs0 := kt.s
  have hz0 := kt.z
  have hsu := st.u
  have hsa := st.a
  have hsl := st.len
  obtain ⟨ft, capt, rfl, et, HT0⟩ := hT
  refine ⟨_, _, rfl, enters_of hf hname hb, ?_⟩
  rintro w hbw g o vs d hrd ⟨ds, rfl, hrep⟩
  have c1 : w.cell? ⟨bf, 0, none⟩ = some (.slice (some ⟨ba, 0, none⟩) ks.length cf) := by rw [cell_of_row w bf 0 _ _ _ ((hbw.block bf hLf (row_lt hcf)).trans hcf)]; rfl
  have hfl := Nat.lt_of_lt_of_le (row_lt hcf) hbw.size
  have hal := Nat.lt_of_lt_of_le (row_lt ha) hbw.size
  have HAROW := Lib.hid ((hbw.block ba hLa (row_lt ha)).trans ha)
  have HB := Lib.hid hbw
  have HF := Lib.hid hF
  have HOK := Lib.hid hok
  have hml : (ks.length : Int) ≤ 1000 := by omega
  have c2 : w.cell? ⟨bt, 0, none⟩ = some (.func (.func ft) #[] capt) := by rw [cell_of_row w bt 0 _ _ _ ((hbw.block bt hLt (row_lt ht)).trans ht)]; rfl
  have et' : ∀ (args : Array Value) (w : World), (callFunc ft args).run Tryz.prog w = .ok (.enter ft args) w := et
  have htl := Nat.lt_of_lt_of_le (row_lt ht) hbw.size
  have HT := Lib.hid HT0
  have HR := Lib.hid hrd
  have HREP := Lib.hid hrep
  show Calls _ _ _ _ (Says (soundAll ks ds && t ds) w)
  have HIX := Lib.hid (fun j hj => st.at_ kt ba ks.length cf j hj)
  clear HT0 hF hok hrd hrep hbw hcf ht et ha kt st
  refine calls_of_wp hf hb ?_
  simp only [hn, List.size_toArray, List.length_cons, List.length_nil, Nat.reduceAdd, Nat.reduceSub, Array.replicate_succ, Array.replicate_zero, List.push_toArray, List.append_toArray, List.nil_append, List.cons_append]
  simp only [recSCode]
  go_wp2
  go_loopw [9] (fun i wr => ∃ j : Nat, j ≤ ks.length ∧ i = .int .i64 j ∧ Below w.heap.size w wr ∧ soundAll ks ds = soundAll (ks.drop j) (ds.drop j)) (fun i _ => ks.length - (intOf i).toNat)
  case atStart => exact ⟨0, Nat.zero_le _, rfl, Below.refl _ _, by simp⟩
  case round =>
    obtain ⟨j, hj, rfl, hbr, hsd⟩ := hrel
    have HBW := Lib.hid hbr
    have HSD := Lib.hid hsd
    have hzw := hbr.size
    by_cases hlt : j < ks.length
    · obtain ⟨f1, f2, f3, e1, e2, e3, hk⟩ := HF.out.at_ j hlt
      obtain ⟨_, ⟨fi, capi, rfl, ei, HI0⟩, ⟨fj, capj, rfl, _, _⟩, ⟨fq, capq, rfl, _, _⟩⟩ := hk
      obtain ⟨d, v, hd, hrd, hrp⟩ := HREP.out.rd HOK.out HR.out j hlt
      have hrowr := (hbr.block ba hal).trans HAROW.out
      have a1 : wr.cell? ⟨ba, j * 3, none⟩ = some (.func (.func fi) #[] capi) := cell_row hrowr e1
      have a2 : wr.cell? ⟨ba, j * 3 + 1, none⟩ = some (.func (.func fj) #[] capj) := cell_row hrowr e2
      have a3 : wr.cell? ⟨ba, j * 3 + 2, none⟩ = some (.func (.func fq) #[] capq) := cell_row hrowr e3
      have ei' : ∀ (args : Array Value) (w : World), (callFunc fi args).run Tryz.prog w = .ok (.enter fi args) w := ei
      have HI := Lib.hid HI0
      have hix := HIX.out j hlt
      clear hbr hsd HI0 ei hrowr e1 e2 e3
      have hbf : Below w.heap.size w (wr.alloc (.cells #[.func (.func fi) #[] capi, .func (.func fj) #[] capj, .func (.func fq) #[] capq] tK)) := HBW.out.alloc hzw _
      have hrf : Rd (wr.alloc (.cells #[.func (.func fi) #[] capi, .func (.func fj) #[] capj, .func (.func fq) #[] capq] tK)) g (o + (0 + offAt ks j)) v := by
        have h := hrd.below hbf
        rwa [show o + 0 + offAt ks j = o + (0 + offAt ks j) by omega] at h
      have hcall := HI.out _ (keeps_ext HB.out hbf) g o v d hrf ((HOK.out _ (List.getElem_mem hlt)).below hrp hbf)
      have HBF := Lib.hid hbf
      have HD := Lib.hid hd
      clear hbf hrf hrd hrp hd HI
      cases hsj : ks[j].sound d with
      | true =>
        rw [hsj] at hcall
        have HSJ := Lib.hid hsj
        have HC := Lib.hid hcall
        clear hsj hcall
        go_wp2_with fail
        refine HC.out.mono ?_
        rintro e w1 ⟨rfl, hb1⟩
        have HB1 := Lib.hid (ext HBF.out hb1)
        clear hb1
        go_wp2
        go_roundw
        case rel => exact ⟨j + 1, by omega, by go_num, HB1.out, HSD.out.trans (by rw [soundAll_drop hlt HD.out, HSJ.out, Bool.true_and])⟩
        case measure => simp [intOf]; omega
      | false =>
        rw [hsj] at hcall
        have HSJ := Lib.hid hsj
        have HC := Lib.hid hcall
        clear hsj hcall
        go_wp2_with fail
        refine HC.out.mono ?_
        rintro e w1 ⟨rfl, hb1⟩
        have HB1 := Lib.hid (ext HBF.out hb1)
        clear hb1
        go_wp2
        refine bodyPost_ret (results_tmp hr _ _ _) rfl ?_
        exact ⟨by rw [HSD.out, soundAll_drop hlt HD.out, HSJ.out]; rfl, HB1.out⟩
    · have hje : j = ks.length := by omega
      subst hje
      have hc2 : wr.cell? ⟨bt, 0, none⟩ = some (.func (.func ft) #[] capt) := (hbr.cell (p := ⟨bt, 0, none⟩) htl).trans c2
      have hsl2 := soundAll_end ks (ds.drop ks.length)
      have HS2 := Lib.hid (HSD.out.trans hsl2)
      have hcall := HT.out wr (keeps_ext HB.out hbr) g o vs ds (HR.out.below hbr) (HREP.out.keep HOK.out (fun b hB => hbr.block b hB) (fun b hB => Nat.lt_of_lt_of_le hB hbr.size))
      have HC := Lib.hid hcall
      clear hcall hsl2 hbr hsd
      go_wp2_with fail
      refine HC.out.mono ?_
      rintro e w1 ⟨rfl, hb1⟩
      have HB1 := Lib.hid (ext HBW.out hb1)
      clear hb1
      go_wp2
      refine bodyPost_ret (results_tmp hr _ _ _) rfl ?_
      exact ⟨by rw [HS2.out, Bool.true_and]; rfl, HB1.out⟩
end Go.Proofs.YtdbaajgkcjpnoaaGreat.Kd
