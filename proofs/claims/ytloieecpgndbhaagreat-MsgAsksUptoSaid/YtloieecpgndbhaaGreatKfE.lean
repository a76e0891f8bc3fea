/- field and record themselves, over any instance: they make a kind. Written by genc.py. -/
import Derived.Test.YtloieecpgndbhaaGreatKfB
import Derived.Test.YtloieecpgndbhaaGreatKfC
import Derived.Test.YtloieecpgndbhaaGreatKfD
namespace Go.Proofs.YtloieecpgndbhaaGreat.Kd
open Go.RowKit By CoP Co Mo

/-- Three closures over a kind and a way to a field. -/
def FieldClosures (q1 q2 q3 : Nat) : Prop := ∀ {L : Nat} {W : World} {bk bo off : Nat} {k : Kd} {kv1 kv2 kv3 ov : Value} {t1 t2 : TypeId}, L ≤ bk → L ≤ bo → W.heap[bk]? = some (.cells #[kv1, kv2, kv3] t1 (0, 0)) → W.heap[bo]? = some (.cells #[ov] t2 (0, 0)) → OfAt ov off → KindAt L W kv1 kv2 kv3 0 k →
  KindAt L W (.func (.func q1) #[] #[.pointer (some ⟨bk, 0, none⟩), .pointer (some ⟨bo, 0, none⟩)]) (.func (.func q2) #[] #[.pointer (some ⟨bk, 0, none⟩), .pointer (some ⟨bo, 0, none⟩)]) (.func (.func q3) #[] #[.pointer (some ⟨bk, 0, none⟩), .pointer (some ⟨bo, 0, none⟩)]) off k
/-- Three closures over fields and what is asked of them together. -/
def RecClosures (q1 q2 q3 : Nat) : Prop := ∀ {L : Nat} {W : World} {bf ba cf bt : Nat} {ks : List Kd} {t : List Data → Bool} {fs : List Value} {tv : Value} {t1 t2 t3 : TypeId}, L ≤ bf → L ≤ ba → L ≤ bt → W.heap[bf]? = some (.cells #[.slice (some ⟨ba, 0, none⟩) ks.length cf] t1 (0, 0)) → W.heap[ba]? = some (.cells fs.toArray t2 (0, 0)) → W.heap[bt]? = some (.cells #[tv] t3 (0, 0)) →
  FieldsAt L W ks 0 fs → (∀ k ∈ ks, k.Ok) → ks.length ≤ 1000 → TiedAt L W tv ks t →
  KindAt L W (.func (.func q1) #[] #[.pointer (some ⟨bf, 0, none⟩), .pointer (some ⟨bt, 0, none⟩)]) (.func (.func q2) #[] #[.pointer (some ⟨bf, 0, none⟩)]) (.func (.func q3) #[] #[.pointer (some ⟨bf, 0, none⟩)]) 0 (recK ks t)
theorem FieldsAt.oks {L : Nat} {W : World} : ∀ {ks : List Kd} {off : Nat} {fs : List Value}, FieldsAt L W ks off fs → ∀ k ∈ ks, k.Ok := by
  intro ks
  induction ks with
  | nil => intro off fs _ k hk; simp at hk
  | cons k ks ih =>
    rintro off fs ⟨f1, f2, f3, r, _, h1, h2⟩ k' hk
    rcases List.mem_cons.1 hk with rfl | hk
    · exact h1.ok
    · exact ih h2 k' hk
theorem heap3_0 (w : World) (A B C : Obj) : (((w.alloc A).alloc B).alloc C).heap[w.heap.size]? = some A := by
  rw [heap_alloc_old _ _ (by simp; omega), heap_alloc2_old]
theorem heap3_1 (w : World) (A B C : Obj) : (((w.alloc A).alloc B).alloc C).heap[w.heap.size + 1]? = some B := by
  rw [heap_alloc_old _ _ (by simp), heap_alloc2_new]
theorem heap3_2 (w : World) (A B C : Obj) : (((w.alloc A).alloc B).alloc C).heap[w.heap.size + 1 + 1]? = some C := by
  have h := heap_alloc_new ((w.alloc A).alloc B) C
  simpa using h
theorem below3 (w : World) (A B C : Obj) : Below w.heap.size w (((w.alloc A).alloc B).alloc C) :=
  (((Below.refl _ _).alloc (Nat.le_refl _) _).alloc (by simp) _).alloc (by simp; omega) _
def fieldCode (tK tO tR tX tY tZ q1 q2 q3 : Nat) (p0 p1 : String) : Code :=
  ((Code.region 0
            #[{ dst := some 2, op := Op.box tK (Operand.tmp 0), type := 0, pos := p0, after := #[],
                guard := none },
              { dst := some 3, op := Op.box tO (Operand.tmp 1), type := 0, pos := p0, after := #[],
                guard := none },
              { dst := some 4, op := Op.alloc tR, type := 0, pos := p0, after := #[], guard := none }]
            false).seq
        ((Code.region 1
              #[{ dst := some 5, op := Op.makeFunc (Fn.func q1) #[] #[Operand.tmp 2, Operand.tmp 3], type := tX,
                  pos := p1, after := #[], guard := none },
                { dst := some 6, op := Op.makeFunc (Fn.func q2) #[] #[Operand.tmp 2, Operand.tmp 3], type := tY,
                  pos := p1, after := #[], guard := none },
                { dst := some 7, op := Op.makeFunc (Fn.func q3) #[] #[Operand.tmp 2, Operand.tmp 3], type := tZ,
                  pos := p1, after := #[], guard := none },
                { dst := some 8, op := Op.build tR #[(0, Operand.tmp 5), (1, Operand.tmp 6), (2, Operand.tmp 7)],
                  type := tR, pos := p1,
                  after :=
                    #[{ on := 0, ground := Ground.data }, { on := 1, ground := Ground.data },
                      { on := 2, ground := Ground.data }],
                  guard := none },
                { dst := none, op := Op.store tR (Operand.tmp 4) (Operand.tmp 8), type := 0, pos := p1,
                  after :=
                    #[{ on := 3, ground := Ground.data }, { on := 0, ground := Ground.phase },
                      { on := 1, ground := Ground.phase }, { on := 2, ground := Ground.phase },
                      { on := 3, ground := Ground.phase }],
                  guard := none }]
              false).seq
          Code.ret))
def recCode (tV tS tR tY tZ q1 q2 q3 : Nat) (p0 p1 : String) : Code :=
  ((Code.region 0
            #[{ dst := some 2, op := Op.box tV (Operand.tmp 0), type := 0, pos := p0, after := #[],
                guard := none },
              { dst := some 3, op := Op.box tS (Operand.tmp 1), type := 0, pos := p0, after := #[],
                guard := none },
              { dst := some 4, op := Op.alloc tR, type := 0, pos := p0, after := #[], guard := none }]
            false).seq
        ((Code.region 1
              #[{ dst := some 5, op := Op.makeFunc (Fn.func q1) #[] #[Operand.tmp 3, Operand.tmp 2], type := tV,
                  pos := p1, after := #[], guard := none },
                { dst := some 6, op := Op.makeFunc (Fn.func q2) #[] #[Operand.tmp 3], type := tY,
                  pos := p1, after := #[], guard := none },
                { dst := some 7, op := Op.makeFunc (Fn.func q3) #[] #[Operand.tmp 3], type := tZ,
                  pos := p1, after := #[], guard := none },
                { dst := some 8, op := Op.build tR #[(0, Operand.tmp 5), (1, Operand.tmp 6), (2, Operand.tmp 7)],
                  type := tR, pos := p1,
                  after :=
                    #[{ on := 0, ground := Ground.data }, { on := 1, ground := Ground.data },
                      { on := 2, ground := Ground.data }],
                  guard := none },
                { dst := none, op := Op.store tR (Operand.tmp 4) (Operand.tmp 8), type := 0, pos := p1,
                  after :=
                    #[{ on := 3, ground := Ground.data }, { on := 0, ground := Ground.phase },
                      { on := 1, ground := Ground.phase }, { on := 2, ground := Ground.phase },
                      { on := 3, ground := Ground.phase }],
                  guard := none }]
              false).seq
          Code.ret))

set_option maxRecDepth 100000 in
set_option maxHeartbeats 800000 in
theorem fieldC_any {f : FuncId} {fn : Func} {tK tO tR tX tY tZ q1 q2 q3 : Nat} {p0 p1 : String} (hf : Tryz.prog.funcs[f]? = some fn) (hb : fn.body = some (fieldCode tK tO tR tX tY tZ q1 q2 q3 p0 p1)) (hn : fn.ntmps = 9) (hr : fn.results = #[.cell 4 tR])
    (kt : KT tK) (kr : KT tR) (hq : FieldClosures q1 q2 q3)
    {L off : Nat} {k : Kd} {kv1 kv2 kv3 ov : Value} (w : World) (hL : L ≤ w.heap.size) (hk : KindAt L w kv1 kv2 kv3 0 k) (hof : OfAt ov off) :
    Calls Tryz.prog f #[.agg #[kv1, kv2, kv3], ov] w (Makes L k off w) := by
  obtain ⟨F1, F2, F3, o1, o2, o3, z1, z2, z3, hu⟩ := kt.u
  obtain ⟨G1, G2, G3, r1, r2, r3, y1, y2, y3, gu⟩ := kr.u
  have ha0 := kt.a
  have hs0 := kt.s
  have hz0 := kt.z
  have ga0 := kr.a
  have gs0 := kr.s
  have gz0 := kr.z
  obtain ⟨GS, gud⟩ := kr.ud
  have gi := kr.i
  have hk' := hk
  obtain ⟨_, ⟨f1, c1, rfl, _⟩, ⟨f2, c2, rfl, _⟩, ⟨f3, c3, rfl, _⟩⟩ := hk'
  have hof' := hof
  obtain ⟨fo, rfl, _⟩ := hof'
  have HK := Lib.hid hk
  have HOF := Lib.hid hof
  have GUD := Lib.hid gud
  have GI := Lib.hid gi
  have hmf : ∀ (fn : Fn) (first cap : Array Value) (w : World), (Instr.makeFunc fn first cap).run Tryz.prog w = .ok (.func fn first cap) w := fun _ _ _ _ => rfl
  clear hk hof kt kr gud gi
  refine calls_of_wp hf hb ?_
  simp only [hn, List.size_toArray, List.length_cons, List.length_nil, Nat.reduceAdd, Nat.reduceSub, Array.replicate_succ, Array.replicate_zero, List.push_toArray, List.append_toArray, List.nil_append, List.cons_append]
  simp only [fieldCode]
  go_wp2
  refine bodyPost_ret (v := .agg #[.func (.func q1) #[] #[.pointer (some ⟨w.heap.size, 0, none⟩), .pointer (some ⟨w.heap.size + 1, 0, none⟩)], .func (.func q2) #[] #[.pointer (some ⟨w.heap.size, 0, none⟩), .pointer (some ⟨w.heap.size + 1, 0, none⟩)], .func (.func q3) #[] #[.pointer (some ⟨w.heap.size, 0, none⟩), .pointer (some ⟨w.heap.size + 1, 0, none⟩)]])
    (results_cell_row hr _ _ (w.heap.size + 1 + 1) tR _ (0, 0) _ rfl (heap3_2 w _ _ _) GUD.out rfl (by rw [GI.out]; rfl)) rfl ⟨_, _, _, rfl, hq hL (Nat.le_succ_of_le hL) (heap3_0 w _ _ _) (heap3_1 w _ _ _) HOF.out (HK.out.later (below3 w _ _ _)), below3 w _ _ _⟩
set_option maxRecDepth 100000 in
set_option maxHeartbeats 800000 in
theorem recC_any {f : FuncId} {fn : Func} {tV tS tR tY tZ q1 q2 q3 : Nat} {p0 p1 : String} (hf : Tryz.prog.funcs[f]? = some fn) (hb : fn.body = some (recCode tV tS tR tY tZ q1 q2 q3 p0 p1)) (hn : fn.ntmps = 9) (hr : fn.results = #[.cell 4 tR])
    (kr : KT tR) (hq : RecClosures q1 q2 q3)
    {L ba cf m : Nat} {ks : List Kd} {t : List Data → Bool} {fs : List Value} {tv : Value} {t2 : TypeId} (w : World) (hL : L ≤ w.heap.size) (hLa : L ≤ ba) (hm : m = ks.length) (ha : w.heap[ba]? = some (.cells fs.toArray t2 (0, 0))) (hF : FieldsAt L w ks 0 fs) (hml : ks.length ≤ 1000) (hT : TiedAt L w tv ks t) :
    Calls Tryz.prog f #[tv, .slice (some ⟨ba, 0, none⟩) m cf] w (Makes L (recK ks t) 0 w) := by
  obtain ⟨G1, G2, G3, r1, r2, r3, y1, y2, y3, gu⟩ := kr.u
  have ga0 := kr.a
  have gs0 := kr.s
  have gz0 := kr.z
  obtain ⟨GS, gud⟩ := kr.ud
  have gi := kr.i
  have hT' := hT
  obtain ⟨ft, ct, rfl, _⟩ := hT'
  have HT := Lib.hid hT
  have HF := Lib.hid hF
  have HA := Lib.hid ha
  have HM := Lib.hid hm
  have GUD := Lib.hid gud
  have GI := Lib.hid gi
  have hmf : ∀ (fn : Fn) (first cap : Array Value) (w : World), (Instr.makeFunc fn first cap).run Tryz.prog w = .ok (.func fn first cap) w := fun _ _ _ _ => rfl
  clear hT kr gud gi hF ha hm
  refine calls_of_wp hf hb ?_
  simp only [hn, List.size_toArray, List.length_cons, List.length_nil, Nat.reduceAdd, Nat.reduceSub, Array.replicate_succ, Array.replicate_zero, List.push_toArray, List.append_toArray, List.nil_append, List.cons_append]
  simp only [recCode]
  go_wp2
  refine bodyPost_ret (v := .agg #[.func (.func q1) #[] #[.pointer (some ⟨w.heap.size + 1, 0, none⟩), .pointer (some ⟨w.heap.size, 0, none⟩)], .func (.func q2) #[] #[.pointer (some ⟨w.heap.size + 1, 0, none⟩)], .func (.func q3) #[] #[.pointer (some ⟨w.heap.size + 1, 0, none⟩)]])
    (results_cell_row hr _ _ (w.heap.size + 1 + 1) tR _ (0, 0) _ rfl (heap3_2 w _ _ _) GUD.out rfl (by rw [GI.out]; rfl)) rfl ⟨_, _, _, rfl, ?_, below3 w _ _ _⟩
  have hm := HM.out
  subst hm
  exact hq (Nat.le_succ_of_le hL) hLa hL (heap3_1 w _ _ _) (((below3 w _ _ _).block ba (row_lt HA.out)).trans HA.out) (heap3_0 w _ _ _) (HF.out.later (below3 w _ _ _)) HF.out.oks hml (HT.out.later (below3 w _ _ _))
end Go.Proofs.YtloieecpgndbhaaGreat.Kd
