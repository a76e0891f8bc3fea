/- field's closures, over any instance of it: what each does, if what it captured does so. Written by genf.py. -/
import Derived.Test.YtloieecpgndbhaaGreatKdB
import Derived.Deep.RegionLaw
import Derived.StillTailTactics
namespace Go.Proofs.YtloieecpgndbhaaGreat.Kd
open Go.RowKit By CoP Co Mo

/-- What is asked of a kind's type: three fields, one cell each. -/
structure KT (tK : Nat) : Prop where
  u : ∃ F1 F2 F3 : Field, F1.offset = 0 ∧ F2.offset = 1 ∧ F3.offset = 2 ∧ (∀ w, (sizeOf F1.type).run Tryz.prog w = .ok 1 w) ∧ (∀ w, (sizeOf F2.type).run Tryz.prog w = .ok 1 w) ∧ (∀ w, (sizeOf F3.type).run Tryz.prog w = .ok 1 w) ∧ ∀ w, (underlying tK).run Tryz.prog w = .ok (.struct #[F1, F2, F3]) w
  a : ∀ w, (isAgg tK).run Tryz.prog w = .ok true w
  s : ∀ w, (sizeOf tK).run Tryz.prog w = .ok 3 w
  ud : ∃ fs, Tryz.prog.underlying tK = some (.struct fs)
  i : (Tryz.prog.info? tK).map (·.size) = some 3
  z : ∀ w, (zeroValue tK).run Tryz.prog w = .ok (.agg #[.nilFunc, .nilFunc, .nilFunc]) w
def fieldSCode (tK tV tO tT tF : Nat) (p0 : String) : Code :=
  ((Code.region 0
            #[{ dst := some 4, op := Op.assign (Operand.const (Value.bool false)), type := 4, pos := p0,
                after := #[], guard := none }]
            false).seq
        ((Code.region 1
              #[{ dst := some 5, op := Op.fieldAddr tK (Operand.tmp 1) 0, type := 0, pos := p0,
                  after := #[], guard := none },
                { dst := some 6, op := Op.load tV (Operand.tmp 5), type := tV, pos := p0,
                  after := #[{ on := 0, ground := Ground.data }], guard := none },
                { dst := some 7, op := Op.load tO (Operand.tmp 2), type := tO, pos := p0, after := #[],
                  guard := none },
                { dst := some 8, op := Op.move (Operand.tmp 0), type := tT, pos := p0, after := #[],
                  guard := none },
                { dst := some 9,
                  op :=
                    Op.call { callee := Callee.value (Operand.tmp 7), args := #[Operand.tmp 8], argTypes := #[tT] },
                  type := tF, pos := p0,
                  after := #[{ on := 2, ground := Ground.data }, { on := 3, ground := Ground.data }], guard := none },
                { dst := some 10,
                  op :=
                    Op.call { callee := Callee.value (Operand.tmp 6), args := #[Operand.tmp 9], argTypes := #[tF] },
                  type := 4, pos := p0,
                  after :=
                    #[{ on := 1, ground := Ground.data }, { on := 4, ground := Ground.data },
                      { on := 4, ground := Ground.chain }],
                  guard := none },
                { dst := some 4, op := Op.assign (Operand.tmp 10), type := 4, pos := p0,
                  after :=
                    #[{ on := 5, ground := Ground.data }, { on := 5, ground := Ground.chain },
                      { on := 0, ground := Ground.phase }, { on := 1, ground := Ground.phase },
                      { on := 2, ground := Ground.phase }, { on := 3, ground := Ground.phase },
                      { on := 4, ground := Ground.phase }, { on := 5, ground := Ground.phase }],
                  guard := none }]
              true).seq
          Code.ret))
def fieldPCode (tK tV tO tT tF : Nat) (p0 : String) : Code :=
  ((Code.region 0
            #[{ dst := some 4, op := Op.assign (Operand.const (Value.slice none 0 0)), type := 23, pos := p0,
                after := #[], guard := none }]
            false).seq
        ((Code.region 1
              #[{ dst := some 5, op := Op.fieldAddr tK (Operand.tmp 1) 1, type := 0, pos := p0,
                  after := #[], guard := none },
                { dst := some 6, op := Op.load tV (Operand.tmp 5), type := tV, pos := p0,
                  after := #[{ on := 0, ground := Ground.data }], guard := none },
                { dst := some 7, op := Op.load tO (Operand.tmp 2), type := tO, pos := p0, after := #[],
                  guard := none },
                { dst := some 8, op := Op.move (Operand.tmp 0), type := tT, pos := p0, after := #[],
                  guard := none },
                { dst := some 9,
                  op :=
                    Op.call { callee := Callee.value (Operand.tmp 7), args := #[Operand.tmp 8], argTypes := #[tT] },
                  type := tF, pos := p0,
                  after := #[{ on := 2, ground := Ground.data }, { on := 3, ground := Ground.data }], guard := none },
                { dst := some 10,
                  op :=
                    Op.call { callee := Callee.value (Operand.tmp 6), args := #[Operand.tmp 9], argTypes := #[tF] },
                  type := 23, pos := p0,
                  after :=
                    #[{ on := 1, ground := Ground.data }, { on := 4, ground := Ground.data },
                      { on := 4, ground := Ground.chain }],
                  guard := none },
                { dst := some 4, op := Op.assign (Operand.tmp 10), type := 23, pos := p0,
                  after :=
                    #[{ on := 5, ground := Ground.data }, { on := 5, ground := Ground.chain },
                      { on := 0, ground := Ground.phase }, { on := 1, ground := Ground.phase },
                      { on := 2, ground := Ground.phase }, { on := 3, ground := Ground.phase },
                      { on := 4, ground := Ground.phase }, { on := 5, ground := Ground.phase }],
                  guard := none }]
              true).seq
          Code.ret))
def fieldGCode (tK tV tO tT tF : Nat) (p0 : String) : Code :=
  ((Code.region 0
            #[{ dst := some 8, op := Op.assign (Operand.const (Value.int IntKind.i64 0)), type := 3,
                pos := p0, after := #[], guard := none },
              { dst := some 9, op := Op.assign (Operand.const (Value.bool false)), type := 4, pos := p0,
                after := #[{ on := 0, ground := Ground.chain }], guard := none }]
            false).seq
        ((Code.region 1
              #[{ dst := some 10, op := Op.fieldAddr tK (Operand.tmp 3) 2, type := 0, pos := p0,
                  after := #[], guard := none },
                { dst := some 11, op := Op.load tV (Operand.tmp 10), type := tV, pos := p0,
                  after := #[{ on := 0, ground := Ground.data }], guard := none },
                { dst := some 12, op := Op.load tO (Operand.tmp 4), type := tO, pos := p0, after := #[],
                  guard := none },
                { dst := some 13, op := Op.move (Operand.tmp 0), type := tT, pos := p0, after := #[],
                  guard := none },
                { dst := some 14,
                  op :=
                    Op.call { callee := Callee.value (Operand.tmp 12), args := #[Operand.tmp 13], argTypes := #[tT] },
                  type := tF, pos := p0,
                  after := #[{ on := 2, ground := Ground.data }, { on := 3, ground := Ground.data }], guard := none },
                { dst := some 15, op := Op.move (Operand.tmp 1), type := 23, pos := p0, after := #[],
                  guard := none },
                { dst := some 16, op := Op.move (Operand.tmp 2), type := 3, pos := p0, after := #[],
                  guard := none },
                { dst := some 17,
                  op :=
                    Op.call
                      { callee := Callee.value (Operand.tmp 11),
                        args := #[Operand.tmp 14, Operand.tmp 15, Operand.tmp 16], argTypes := #[tF, 23, 3] },
                  type := 356, pos := p0,
                  after :=
                    #[{ on := 1, ground := Ground.data }, { on := 4, ground := Ground.data },
                      { on := 5, ground := Ground.data }, { on := 6, ground := Ground.data },
                      { on := 4, ground := Ground.chain }],
                  guard := none },
                { dst := some 18, op := Op.extract (Operand.tmp 17) 0, type := 3, pos := p0,
                  after := #[{ on := 7, ground := Ground.data }], guard := none },
                { dst := some 19, op := Op.extract (Operand.tmp 17) 1, type := 4, pos := p0,
                  after := #[{ on := 7, ground := Ground.data }], guard := none },
                { dst := some 8, op := Op.assign (Operand.tmp 18), type := 3, pos := p0,
                  after :=
                    #[{ on := 8, ground := Ground.data }, { on := 7, ground := Ground.chain },
                      { on := 0, ground := Ground.phase }, { on := 1, ground := Ground.phase },
                      { on := 2, ground := Ground.phase }, { on := 3, ground := Ground.phase },
                      { on := 4, ground := Ground.phase }, { on := 5, ground := Ground.phase },
                      { on := 6, ground := Ground.phase }, { on := 7, ground := Ground.phase },
                      { on := 8, ground := Ground.phase }, { on := 9, ground := Ground.phase }],
                  guard := none },
                { dst := some 9, op := Op.assign (Operand.tmp 19), type := 4, pos := p0,
                  after :=
                    #[{ on := 9, ground := Ground.data }, { on := 10, ground := Ground.chain },
                      { on := 0, ground := Ground.phase }, { on := 1, ground := Ground.phase },
                      { on := 2, ground := Ground.phase }, { on := 3, ground := Ground.phase },
                      { on := 4, ground := Ground.phase }, { on := 5, ground := Ground.phase },
                      { on := 6, ground := Ground.phase }, { on := 7, ground := Ground.phase },
                      { on := 8, ground := Ground.phase }, { on := 9, ground := Ground.phase },
                      { on := 10, ground := Ground.phase }],
                  guard := none }]
              true).seq
          Code.ret))

set_option maxRecDepth 100000 in
set_option maxHeartbeats 800000 in
theorem fieldS_any {f : FuncId} {fn : Func} {tK tV tO tT tF : Nat} {p0 : String} (hf : Tryz.prog.funcs[f]? = some fn) (hname : (fn.name == "runtime.NumGoroutine") = false) (hb : fn.body = some (fieldSCode tK tV tO tT tF p0)) (hn : fn.ntmps = 11) (hr : fn.results = #[.tmp 4])
    (kt : KT tK) (hV : ∀ w, (isAgg tV).run Tryz.prog w = .ok false w) (hO : ∀ w, (isAgg tO).run Tryz.prog w = .ok false w)
    {L : Nat} {W : World} {bk bo off : Nat} {k : Kd} {kv1 kv2 kv3 ov : Value} {t1 t2 : TypeId} (hLk : L ≤ bk) (hLo : L ≤ bo) (hk : W.heap[bk]? = some (.cells #[kv1, kv2, kv3] t1 (0, 0))) (ho : W.heap[bo]? = some (.cells #[ov] t2 (0, 0))) (hok : k.Ok) (hof : OfAt ov off) (hs : SoundAt L W kv1 0 k) :
    SoundAt L W (.func (.func f) #[] #[.pointer (some ⟨bk, 0, none⟩), .pointer (some ⟨bo, 0, none⟩)]) off k := by
  obtain ⟨F1, F2, F3, o1, o2, o3, z1, z2, z3, hu⟩ := kt.u
  obtain ⟨fo, rfl, eo, HO0⟩ := hof
  obtain ⟨fs, cap, rfl, es, HS0⟩ := hs
  refine ⟨_, _, rfl, enters_of hf hname hb, ?_⟩
  intro w hbw g o vs d hrd hrep
  have c1 : w.cell? ⟨bk, 0, none⟩ = some (.func (.func fs) #[] cap) := by rw [cell_of_row w bk 0 _ _ _ ((hbw.block bk hLk (row_lt hk)).trans hk)]; rfl
  have c2 : w.cell? ⟨bo, 0, none⟩ = some (.func (.func fo) #[] #[]) := by rw [cell_of_row w bo 0 _ _ _ ((hbw.block bo hLo (row_lt ho)).trans ho)]; rfl
  have eo' : ∀ (args : Array Value) (w : World), (callFunc fo args).run Tryz.prog w = .ok (.enter fo args) w := eo
  have es' : ∀ (args : Array Value) (w : World), (callFunc fs args).run Tryz.prog w = .ok (.enter fs args) w := es
  have HO := Lib.hid HO0
  have HS := Lib.hid (HS0 w.drew hbw.drew g (o + off) vs d hrd (hok.keep hrep (fun _ _ => rfl) (fun _ h => h)))
  clear HO0 HS0 hbw hrd hrep hk ho eo es
  refine calls_of_wp hf hb ?_
  simp only [hn, List.size_toArray, List.length_cons, List.length_nil, Nat.reduceAdd, Nat.reduceSub, Array.replicate_succ, Array.replicate_zero, List.push_toArray, List.append_toArray, List.nil_append, List.cons_append]
  simp only [fieldSCode]
  go_wp2
  go_still_tail 5, (by kernel_rfl)
  still_call (HO.out w.drew g o)
  refine wpStill_nil ?_
  change wpList _ _ _ _ _ w.drew
  go_wp2_with fail
  refine HS.out.mono ?_
  rintro e w1 ⟨rfl, hb1⟩
  have HB1 := Lib.hid hb1
  clear hb1
  go_wp2
  refine bodyPost_ret (results_tmp hr _ _ _) rfl ?_
  exact ⟨rfl, below_undrew HB1.out⟩
set_option maxRecDepth 100000 in
set_option maxHeartbeats 800000 in
theorem fieldP_any {f : FuncId} {fn : Func} {tK tV tO tT tF : Nat} {p0 : String} (hf : Tryz.prog.funcs[f]? = some fn) (hname : (fn.name == "runtime.NumGoroutine") = false) (hb : fn.body = some (fieldPCode tK tV tO tT tF p0)) (hn : fn.ntmps = 11) (hr : fn.results = #[.tmp 4])
    (kt : KT tK) (hV : ∀ w, (isAgg tV).run Tryz.prog w = .ok false w) (hO : ∀ w, (isAgg tO).run Tryz.prog w = .ok false w)
    {L : Nat} {W : World} {bk bo off : Nat} {k : Kd} {kv1 kv2 kv3 ov : Value} {t1 t2 : TypeId} (hLk : L ≤ bk) (hLo : L ≤ bo) (hk : W.heap[bk]? = some (.cells #[kv1, kv2, kv3] t1 (0, 0))) (ho : W.heap[bo]? = some (.cells #[ov] t2 (0, 0))) (hok : k.Ok) (hof : OfAt ov off) (hs : PutAt L W kv2 0 k) :
    PutAt L W (.func (.func f) #[] #[.pointer (some ⟨bk, 0, none⟩), .pointer (some ⟨bo, 0, none⟩)]) off k := by
  obtain ⟨F1, F2, F3, o1, o2, o3, z1, z2, z3, hu⟩ := kt.u
  obtain ⟨fo, rfl, eo, HO0⟩ := hof
  obtain ⟨fs, cap, rfl, es, HS0⟩ := hs
  refine ⟨_, _, rfl, enters_of hf hname hb, ?_⟩
  intro w hbw g o vs d hrd hrep hlen
  have c1 : w.cell? ⟨bk, 1, none⟩ = some (.func (.func fs) #[] cap) := by rw [cell_of_row w bk 1 _ _ _ ((hbw.block bk hLk (row_lt hk)).trans hk)]; rfl
  have c2 : w.cell? ⟨bo, 0, none⟩ = some (.func (.func fo) #[] #[]) := by rw [cell_of_row w bo 0 _ _ _ ((hbw.block bo hLo (row_lt ho)).trans ho)]; rfl
  have eo' : ∀ (args : Array Value) (w : World), (callFunc fo args).run Tryz.prog w = .ok (.enter fo args) w := eo
  have es' : ∀ (args : Array Value) (w : World), (callFunc fs args).run Tryz.prog w = .ok (.enter fs args) w := es
  have HO := Lib.hid HO0
  have HS := Lib.hid (HS0 w.drew hbw.drew g (o + off) vs d hrd (hok.keep hrep (fun _ _ => rfl) (fun _ h => h)) hlen)
  clear HO0 HS0 hbw hrd hrep hk ho eo es hlen
  refine calls_of_wp hf hb ?_
  simp only [hn, List.size_toArray, List.length_cons, List.length_nil, Nat.reduceAdd, Nat.reduceSub, Array.replicate_succ, Array.replicate_zero, List.push_toArray, List.append_toArray, List.nil_append, List.cons_append]
  simp only [fieldPCode]
  go_wp2
  go_still_tail 5, (by kernel_rfl)
  still_call (HO.out w.drew g o)
  refine wpStill_nil ?_
  change wpList _ _ _ _ _ w.drew
  go_wp2_with fail
  refine HS.out.mono ?_
  rintro e w1 ⟨v1, rfl, ho1, hb1⟩
  have HO1 := Lib.hid ho1
  have HB1 := Lib.hid hb1
  clear hb1 ho1
  go_wp2
  refine bodyPost_ret (results_tmp hr _ _ _) rfl ?_
  exact ⟨_, rfl, HO1.out, below_undrew HB1.out⟩
set_option maxRecDepth 100000 in
set_option maxHeartbeats 3000000 in
theorem fieldG_any {f : FuncId} {fn : Func} {tK tV tO tT tF : Nat} {p0 : String} (hf : Tryz.prog.funcs[f]? = some fn) (hname : (fn.name == "runtime.NumGoroutine") = false) (hb : fn.body = some (fieldGCode tK tV tO tT tF p0)) (hn : fn.ntmps = 20) (hr : fn.results = #[.tmp 8, .tmp 9])
    (kt : KT tK) (hV : ∀ w, (isAgg tV).run Tryz.prog w = .ok false w) (hO : ∀ w, (isAgg tO).run Tryz.prog w = .ok false w)
    {L : Nat} {W : World} {bk bo off : Nat} {k : Kd} {kv1 kv2 kv3 ov : Value} {t1 t2 : TypeId} (hLk : L ≤ bk) (hLo : L ≤ bo) (hk : W.heap[bk]? = some (.cells #[kv1, kv2, kv3] t1 (0, 0))) (ho : W.heap[bo]? = some (.cells #[ov] t2 (0, 0))) (hof : OfAt ov off) (hs : GetAt L W kv3 0 k) :
    GetAt L W (.func (.func f) #[] #[.pointer (some ⟨bk, 0, none⟩), .pointer (some ⟨bo, 0, none⟩)]) off k := by
  obtain ⟨F1, F2, F3, o1, o2, o3, z1, z2, z3, hu⟩ := kt.u
  obtain ⟨fo, rfl, eo, HO0⟩ := hof
  obtain ⟨fs, cap, rfl, es, HS0⟩ := hs
  refine ⟨_, _, rfl, enters_of hf hname hb, ?_⟩
  intro w hbw g o cs ty B A n c at_ b hg hrow hsz hz hln hnc hm hrd hBg hat
  have c1 : w.cell? ⟨bk, 2, none⟩ = some (.func (.func fs) #[] cap) := by rw [cell_of_row w bk 2 _ _ _ ((hbw.block bk hLk (row_lt hk)).trans hk)]; rfl
  have c2 : w.cell? ⟨bo, 0, none⟩ = some (.func (.func fo) #[] #[]) := by rw [cell_of_row w bo 0 _ _ _ ((hbw.block bo hLo (row_lt ho)).trans ho)]; rfl
  have eo' : ∀ (args : Array Value) (w : World), (callFunc fo args).run Tryz.prog w = .ok (.enter fo args) w := eo
  have es' : ∀ (args : Array Value) (w : World), (callFunc fs args).run Tryz.prog w = .ok (.enter fs args) w := es
  have HO := Lib.hid HO0
  have hcall := HS0 w.drew hbw.drew g (o + off) cs ty B A n c at_ b hg hrow hsz hz hln hnc hm hrd.drew hBg hat
  have HS := Lib.hid (hcall.mono fun e w' h => Got.tell h)
  clear HO0 HS0 hbw hrd hk ho eo es hcall hrow hsz hz hln hnc hm hBg hat
  refine calls_of_wp hf hb ?_
  simp only [hn, List.size_toArray, List.length_cons, List.length_nil, Nat.reduceAdd, Nat.reduceSub, Array.replicate_succ, Array.replicate_zero, List.push_toArray, List.append_toArray, List.nil_append, List.cons_append]
  simp only [fieldGCode]
  go_wp2
  go_region_law (first
    | (go_simp; go_at_fn fo; refine (HO.out _ _ _).mono ?_; rintro e w1 ⟨rfl, rfl⟩)
    | (go_simp; go_at_fn fs; refine HS.out.mono ?_; rintro e w1 ⟨N, okk, rfl, hg1⟩; have HG1 := Lib.hid hg1; clear hg1))
  all_goals
    go_wp2
    refine bodyPost_ret (results_tmp2 hr _ _ _) rfl ?_
    change Got _ _ _ _ _ _ _ _ (.returned (.tuple #[.int .i64 N, .bool okk])) _
    exact Got.undrew HG1.out
end Go.Proofs.YtloieecpgndbhaaGreat.Kd
