/- record's closures, over any instance of it: what each does, if the fields' do so. Written by genr.py. | record's closures, over any instance of it: what each does, if the fields' do so. Written by genr.py. | field and record themselves, over any instance: they make a kind. Written by genc.py. -/
import Derived.Test.YtdbaajgkcjpnoaaGreatGI
/-! record's closures, over any instance of it: what each does, if the fields' do so. Written by genr.py. -/
namespace Go.Proofs.YtdbaajgkcjpnoaaGreat.Kd
open Go.RowKit By CoP Co Mo

def recPCode (tS tK tV tT : Nat) (p0 p1 p2 p3 p4 : String) : Code :=
  ((Code.region 0
            #[{ dst := some 3, op := Op.assign (Operand.const (Value.slice none 0 0)), type := 37, pos := p0,
                after := #[], guard := none }]
            false).seq
        ((Code.region 1
              #[{ dst := some 4, op := Op.assign (Operand.const (Value.slice none 0 0)), type := 37,
                  pos := p1, after := #[], guard := none }]
              false).seq
          (((Code.region 2
                    #[{ dst := some 7, op := Op.load tS (Operand.tmp 1), type := tS, pos := p2,
                        after := #[], guard := none },
                      { dst := some 8,
                        op :=
                          Op.call
                            { callee := Callee.builtin Builtin.len, args := #[Operand.tmp 7], argTypes := #[tS] },
                        type := 3, pos := p2, after := #[{ on := 0, ground := Ground.data }],
                        guard := none },
                      { dst := some 9, op := Op.move (Operand.const (Value.int IntKind.i64 0)), type := 3,
                        pos := p2, after := #[], guard := none }]
                    false).seq
                (Code.block 0
                  ((Code.region 3
                          #[{ dst := some 10, op := Op.binOp BinOp.lss 3 (Operand.tmp 9) (Operand.tmp 8) 3, type := 0,
                              pos := p2, after := #[], guard := none }]
                          false).seq
                      ((Code.cond (Operand.tmp 10) Code.skip (Code.exit 0)).seq
                        ((Code.block 1
                              ((Code.region 4
                                    #[{ dst := some 11, op := Op.indexAddr tS (Operand.tmp 7) (Operand.tmp 9),
                                        type := 0, pos := p2, after := #[], guard := none },
                                      { dst := some 12, op := Op.load tK (Operand.tmp 11), type := tK,
                                        pos := p2, after := #[{ on := 0, ground := Ground.data }],
                                        guard := none },
                                      { dst := some 6, op := Op.alloc tK, type := 0, pos := p2,
                                        after := #[], guard := none },
                                      { dst := none, op := Op.store tK (Operand.tmp 6) (Operand.tmp 12), type := 0,
                                        pos := p2,
                                        after :=
                                          #[{ on := 2, ground := Ground.data }, { on := 1, ground := Ground.data },
                                            { on := 0, ground := Ground.phase }, { on := 1, ground := Ground.phase },
                                            { on := 2, ground := Ground.phase }],
                                        guard := none }]
                                    false).seq
                                (Code.region 5
                                  #[{ dst := some 13, op := Op.move (Operand.tmp 4), type := 37, pos := p3,
                                      after := #[], guard := none },
                                    { dst := some 14, op := Op.fieldAddr tK (Operand.tmp 6) 1, type := 0,
                                      pos := p3, after := #[], guard := none },
                                    { dst := some 15, op := Op.load tV (Operand.tmp 14), type := tV,
                                      pos := p3, after := #[{ on := 1, ground := Ground.data }],
                                      guard := none },
                                    { dst := some 16, op := Op.move (Operand.tmp 0), type := tT, pos := p3,
                                      after := #[], guard := none },
                                    { dst := some 17,
                                      op :=
                                        Op.call
                                          { callee := Callee.value (Operand.tmp 15), args := #[Operand.tmp 16],
                                            argTypes := #[tT] },
                                      type := 37, pos := p3,
                                      after :=
                                        #[{ on := 2, ground := Ground.data }, { on := 3, ground := Ground.data }],
                                      guard := none },
                                    { dst := some 18,
                                      op :=
                                        Op.call
                                          { callee := Callee.builtin Builtin.append,
                                            args := #[Operand.tmp 13, Operand.tmp 17], argTypes := #[37, 37] },
                                      type := 37, pos := p3,
                                      after :=
                                        #[{ on := 0, ground := Ground.data }, { on := 4, ground := Ground.data },
                                          { on := 4, ground := Ground.chain }],
                                      guard := none },
                                    { dst := some 4, op := Op.assign (Operand.tmp 18), type := 37, pos := p3,
                                      after :=
                                        #[{ on := 5, ground := Ground.data }, { on := 5, ground := Ground.chain },
                                          { on := 0, ground := Ground.phase }, { on := 1, ground := Ground.phase },
                                          { on := 2, ground := Ground.phase }, { on := 3, ground := Ground.phase },
                                          { on := 4, ground := Ground.phase }, { on := 5, ground := Ground.phase }],
                                      guard := none }]
                                  false))).seq
                          (Code.region 6
                            #[{ dst := some 19,
                                op := Op.binOp BinOp.add 3 (Operand.tmp 9) (Operand.const (Value.int IntKind.i64 1)) 3,
                                type := 3, pos := p2, after := #[], guard := none },
                              { dst := some 9, op := Op.move (Operand.tmp 19), type := 3, pos := p2,
                                after := #[{ on := 0, ground := Ground.data }], guard := none }]
                            false)))).loop)).seq
            ((Code.region 7
                  #[{ dst := some 20, op := Op.move (Operand.tmp 4), type := 37, pos := p4, after := #[],
                      guard := none },
                    { dst := some 3, op := Op.assign (Operand.tmp 20), type := 37, pos := p4,
                      after := #[{ on := 0, ground := Ground.data }, { on := 0, ground := Ground.phase }],
                      guard := none }]
                  false).seq
              Code.ret))))
set_option maxRecDepth 100000 in
set_option maxHeartbeats 1600000 in
theorem recP_any {f : FuncId} {fn : Func} {tS tK tV tT : Nat} {p0 p1 p2 p3 p4 : String} (hf : Tryz.prog.funcs[f]? = some fn) (hname : (fn.name == "runtime.NumGoroutine") = false) (hb : fn.body = some (recPCode tS tK tV tT p0 p1 p2 p3 p4)) (hn : fn.ntmps = 21) (hr : fn.results = #[.tmp 3])
    (kt : KT tK) (st : SlT tS tK) (hV : ∀ w, (isAgg tV).run Tryz.prog w = .ok false w)
    {L : Nat} {W : World} {bf ba cf : Nat} {ks : List Kd} {t : List Data → Bool} {fs : List Value} {t1 t2 : TypeId} (hLf : L ≤ bf) (hLa : L ≤ ba) (hcf : W.heap[bf]? = some (.cells #[.slice (some ⟨ba, 0, none⟩) ks.length cf] t1 (0, 0))) (ha : W.heap[ba]? = some (.cells fs.toArray t2 (0, 0))) (hF : FieldsAt L W ks 0 fs) (hok : ∀ k ∈ ks, k.Ok) (hm : ks.length ≤ 1000) :
    PutAt L W (.func (.func f) #[] #[.pointer (some ⟨bf, 0, none⟩)]) 0 (recK ks t) := by
  obtain ⟨F1, F2, F3, o1, o2, o3, z1, z2, z3, hu⟩ := kt.u
  have ha0 := kt.a
  have hs0 := kt.s
  have hz0 := kt.z
  have hsu := st.u
  have hsa := st.a
  have hsl := st.len
  refine ⟨_, _, rfl, enters_of hf hname hb, ?_⟩
  rintro w hbw g o vs d hrd ⟨ds, rfl, hrep⟩ hlen
  have c1 : w.cell? ⟨bf, 0, none⟩ = some (.slice (some ⟨ba, 0, none⟩) ks.length cf) := by rw [cell_of_row w bf 0 _ _ _ ((hbw.block bf hLf (row_lt hcf)).trans hcf)]; rfl
  have hfl := Nat.lt_of_lt_of_le (row_lt hcf) hbw.size
  have hal := Nat.lt_of_lt_of_le (row_lt ha) hbw.size
  have HAROW := Lib.hid ((hbw.block ba hLa (row_lt ha)).trans ha)
  have HB := Lib.hid hbw
  have HF := Lib.hid hF
  have HOK := Lib.hid hok
  have hml : (ks.length : Int) ≤ 1000 := by omega
  have HR := Lib.hid hrd
  have HREP := Lib.hid hrep
  have hlen' : (putsAll ks ds).length + 9 ≤ 140737488355328 := hlen
  have HL := Lib.hid hlen'
  have HIX := Lib.hid (fun j hj => st.at_ kt ba ks.length cf j hj)
  show Calls _ _ _ _ (Gives w.heap.size (putsAll ks ds) w)
  clear hF hok hrd hrep hbw hcf ha kt st hlen hlen'
  refine calls_of_wp hf hb ?_
  simp only [hn, List.size_toArray, List.length_cons, List.length_nil, Nat.reduceAdd, Nat.reduceSub, Array.replicate_succ, Array.replicate_zero, List.push_toArray, List.append_toArray, List.nil_append, List.cons_append]
  simp only [recPCode]
  go_wp2
  go_loopw [4, 9] (fun out i wr => ∃ (j : Nat) (l : List UInt8), j ≤ ks.length ∧ i = .int .i64 j ∧ Below w.heap.size w wr ∧ Own w.heap.size wr out l ∧ putsAll ks ds = l ++ putsAll (ks.drop j) (ds.drop j)) (fun _ i _ => ks.length - (intOf i).toNat)
  case atStart => exact ⟨0, [], Nat.zero_le _, rfl, Below.refl _ _, Own.nil _ _, by simp⟩
  case round =>
    obtain ⟨j, l, hj, rfl, hbr, hown, hsd⟩ := hrel
    obtain ⟨A0, c0, rfl, _, _, _, _, _⟩ := hown.form
    have HBW := Lib.hid hbr
    have HSD := Lib.hid hsd
    have HOWN := Lib.hid hown
    have hzw := hbr.size
    by_cases hlt : j < ks.length
    · obtain ⟨f1, f2, f3, e1, e2, e3, hk⟩ := HF.out.at_ j hlt
      obtain ⟨_, ⟨fj, capj, rfl, _, _⟩, ⟨fi, capi, rfl, ei, HI0⟩, ⟨fq, capq, rfl, _, _⟩⟩ := hk
      obtain ⟨d, v, hd, hrd, hrp⟩ := HREP.out.rd HOK.out HR.out j hlt
      have hrowr := (hbr.block ba hal).trans HAROW.out
      have a1 : wr.cell? ⟨ba, j * 3, none⟩ = some (.func (.func fj) #[] capj) := cell_row hrowr e1
      have a2 : wr.cell? ⟨ba, j * 3 + 1, none⟩ = some (.func (.func fi) #[] capi) := cell_row hrowr e2
      have a3 : wr.cell? ⟨ba, j * 3 + 2, none⟩ = some (.func (.func fq) #[] capq) := cell_row hrowr e3
      have ei' : ∀ (args : Array Value) (w : World), (callFunc fi args).run Tryz.prog w = .ok (.enter fi args) w := ei
      have hix := HIX.out j hlt
      have hbf : Below w.heap.size w (wr.alloc (.cells #[.func (.func fj) #[] capj, .func (.func fi) #[] capi, .func (.func fq) #[] capq] tK)) := hbr.alloc hzw _
      have hrf : Rd (wr.alloc (.cells #[.func (.func fj) #[] capj, .func (.func fi) #[] capi, .func (.func fq) #[] capq] tK)) g (o + (0 + offAt ks j)) v := by
        have h := hrd.below hbf
        rwa [show o + 0 + offAt ks j = o + (0 + offAt ks j) by omega] at h
      have hpd := putsAll_drop hlt hd
      have hpl : l.length + (ks[j].put d).length + 9 ≤ 140737488355328 := by
        have h1 := HL.out
        rw [hsd, hpd, List.length_append, List.length_append] at h1
        omega
      have hcall := HI0 _ (keeps_ext HB.out hbf) g o v d hrf ((HOK.out _ (List.getElem_mem hlt)).below hrp hbf) (by omega)
      have HC := Lib.hid hcall
      have HPL := Lib.hid hpl
      have HPD := Lib.hid hpd
      have HOWF := Lib.hid (hown.alloc (.cells #[.func (.func fj) #[] capj, .func (.func fi) #[] capi, .func (.func fq) #[] capq] tK))
      have HBF := Lib.hid hbf
      have hzf : w.heap.size ≤ (wr.alloc (.cells #[.func (.func fj) #[] capj, .func (.func fi) #[] capi, .func (.func fq) #[] capq] tK)).heap.size := hbf.size
      have HZF := Lib.hid hzf
      clear hbr hsd HI0 ei hrowr e1 e2 e3 hcall hpl hpd hown hd hrd hrp hbf hrf hzf
      go_wp2_with fail
      refine HC.out.mono ?_
      rintro e w1 ⟨v1, rfl, ho1, hb1⟩
      obtain ⟨A1, c1, rfl, _, _, _, hr1, _⟩ := ho1.form
      have HO1 := Lib.hid (HOWF.out.kept hb1 (Nat.le_refl _))
      have HR1 := Lib.hid hr1
      have HZ1 := Lib.hid (Nat.le_trans HZF.out hb1.size)
      have HB1 := Lib.hid (ext HBF.out hb1)
      clear ho1 hb1 hr1
      go_wp2_with (with_reducible refine wpList_app rfl (.tmp 13) (.tmp 17) rfl (v := .slice A0 l.length c0) rfl HO1.out (A := A1) (m := (ks[j].put d).length) (c := c1) rfl rfl HR1.out ?c1 HZ1.out ?_)
      case c1 => have := HPL.out; omega
      intro v2 w2 ho2 hb2 _
      have HO2 := Lib.hid ho2
      have HB2 := Lib.hid (HB1.out.trans hb2)
      clear ho2 hb2
      go_wp2
      go_roundw
      case rel => exact ⟨j + 1, l ++ ks[j].put d, by omega, by go_num, HB2.out, HO2.out, by rw [HSD.out, HPD.out, List.append_assoc]⟩
      case measure => simp [intOf]; omega
    · have hje : j = ks.length := by omega
      subst hje
      clear hbr hsd hown
      go_wp2
      refine bodyPost_ret (results_tmp hr _ _ _) rfl ?_
      refine ⟨_, rfl, ?_, HBW.out⟩
      have h := HSD.out
      rw [putsAll_end, List.append_nil] at h
      rw [h]
      exact HOWN.out
end Go.Proofs.YtdbaajgkcjpnoaaGreat.Kd

/-! record's closures, over any instance of it: what each does, if the fields' do so. Written by genr.py. -/
namespace Go.Proofs.YtdbaajgkcjpnoaaGreat.Kd
open Go.RowKit By CoP Co Mo

def recGCode (tS tK tV tT : Nat) (p0 p1 p2 p3 p4 p5 : String) : Code :=
  ((Code.region 0
            #[{ dst := some 7, op := Op.assign (Operand.const (Value.int IntKind.i64 0)), type := 3,
                pos := p0, after := #[], guard := none },
              { dst := some 8, op := Op.assign (Operand.const (Value.bool false)), type := 4, pos := p0,
                after := #[{ on := 0, ground := Ground.chain }], guard := none }]
            false).seq
        (((Code.region 1
                  #[{ dst := some 12, op := Op.load tS (Operand.tmp 3), type := tS, pos := p1,
                      after := #[], guard := none },
                    { dst := some 13,
                      op :=
                        Op.call { callee := Callee.builtin Builtin.len, args := #[Operand.tmp 12], argTypes := #[tS] },
                      type := 3, pos := p1, after := #[{ on := 0, ground := Ground.data }], guard := none },
                    { dst := some 14, op := Op.move (Operand.const (Value.int IntKind.i64 0)), type := 3,
                      pos := p1, after := #[], guard := none }]
                  false).seq
              (Code.block 0
                ((Code.region 2
                        #[{ dst := some 15, op := Op.binOp BinOp.lss 3 (Operand.tmp 14) (Operand.tmp 13) 3, type := 0,
                            pos := p1, after := #[], guard := none }]
                        false).seq
                    ((Code.cond (Operand.tmp 15) Code.skip (Code.exit 0)).seq
                      ((Code.block 1
                            ((Code.region 3
                                  #[{ dst := some 16, op := Op.indexAddr tS (Operand.tmp 12) (Operand.tmp 14),
                                      type := 0, pos := p1, after := #[], guard := none },
                                    { dst := some 17, op := Op.load tK (Operand.tmp 16), type := tK,
                                      pos := p1, after := #[{ on := 0, ground := Ground.data }],
                                      guard := none },
                                    { dst := some 10, op := Op.alloc tK, type := 0, pos := p1, after := #[],
                                      guard := none },
                                    { dst := none, op := Op.store tK (Operand.tmp 10) (Operand.tmp 17), type := 0,
                                      pos := p1,
                                      after :=
                                        #[{ on := 2, ground := Ground.data }, { on := 1, ground := Ground.data },
                                          { on := 0, ground := Ground.phase }, { on := 1, ground := Ground.phase },
                                          { on := 2, ground := Ground.phase }],
                                      guard := none }]
                                  false).seq
                              ((Code.region 4
                                    #[{ dst := some 11, op := Op.assign (Operand.const (Value.bool false)), type := 4,
                                        pos := p2, after := #[], guard := none }]
                                    false).seq
                                ((Code.region 5
                                      #[{ dst := some 19, op := Op.fieldAddr tK (Operand.tmp 10) 2, type := 0,
                                          pos := p3, after := #[], guard := none },
                                        { dst := some 20, op := Op.load tV (Operand.tmp 19), type := tV,
                                          pos := p3, after := #[{ on := 0, ground := Ground.data }],
                                          guard := none },
                                        { dst := some 21, op := Op.move (Operand.tmp 0), type := tT,
                                          pos := p3, after := #[], guard := none },
                                        { dst := some 22, op := Op.move (Operand.tmp 1), type := 37,
                                          pos := p3, after := #[], guard := none },
                                        { dst := some 23, op := Op.move (Operand.tmp 2), type := 3,
                                          pos := p3, after := #[], guard := none },
                                        { dst := some 24,
                                          op :=
                                            Op.call
                                              { callee := Callee.value (Operand.tmp 20),
                                                args := #[Operand.tmp 21, Operand.tmp 22, Operand.tmp 23],
                                                argTypes := #[tT, 37, 3] },
                                          type := 143, pos := p3,
                                          after :=
                                            #[{ on := 1, ground := Ground.data }, { on := 2, ground := Ground.data },
                                              { on := 3, ground := Ground.data }, { on := 4, ground := Ground.data }],
                                          guard := none },
                                        { dst := some 18, op := Op.move (Operand.tmp 24), type := 143,
                                          pos := p3, after := #[{ on := 5, ground := Ground.data }],
                                          guard := none },
                                        { dst := some 25, op := Op.extract (Operand.tmp 18) 0, type := 3,
                                          pos := p3, after := #[{ on := 6, ground := Ground.data }],
                                          guard := none },
                                        { dst := some 26, op := Op.extract (Operand.tmp 18) 1, type := 4,
                                          pos := p3,
                                          after :=
                                            #[{ on := 6, ground := Ground.data },
                                              { on := 9, ground := Ground.gcOnly Departure.lateStores }],
                                          guard := none },
                                        { dst := some 2, op := Op.assign (Operand.tmp 25), type := 3,
                                          pos := p3,
                                          after :=
                                            #[{ on := 7, ground := Ground.data }, { on := 5, ground := Ground.chain },
                                              { on := 0, ground := Ground.phase }, { on := 1, ground := Ground.phase },
                                              { on := 2, ground := Ground.phase }, { on := 3, ground := Ground.phase },
                                              { on := 4, ground := Ground.phase }, { on := 5, ground := Ground.phase },
                                              { on := 6, ground := Ground.phase }, { on := 7, ground := Ground.phase },
                                              { on := 8, ground := Ground.textOnly Departure.lateStores }],
                                          guard := none },
                                        { dst := some 11, op := Op.assign (Operand.tmp 26), type := 4,
                                          pos := p3,
                                          after :=
                                            #[{ on := 8, ground := Ground.data }, { on := 9, ground := Ground.chain },
                                              { on := 0, ground := Ground.phase }, { on := 1, ground := Ground.phase },
                                              { on := 2, ground := Ground.phase }, { on := 3, ground := Ground.phase },
                                              { on := 4, ground := Ground.phase }, { on := 5, ground := Ground.phase },
                                              { on := 6, ground := Ground.phase }, { on := 7, ground := Ground.phase },
                                              { on := 8, ground := Ground.phase }, { on := 9, ground := Ground.phase }],
                                          guard := none }]
                                      false).seq
                                  ((Code.region 6
                                        #[{ dst := some 27, op := Op.move (Operand.tmp 11), type := 4,
                                            pos := p3, after := #[], guard := none },
                                          { dst := some 28, op := Op.unOp UnOp.not 4 (Operand.tmp 27), type := 4,
                                            pos := p3, after := #[{ on := 0, ground := Ground.data }],
                                            guard := none }]
                                        false).seq
                                    (Code.cond (Operand.tmp 28)
                                      ((Code.region 7
                                            #[{ dst := some 7,
                                                op := Op.assign (Operand.const (Value.int IntKind.i64 0)), type := 3,
                                                pos := p4, after := #[], guard := none },
                                              { dst := some 8, op := Op.assign (Operand.const (Value.bool false)),
                                                type := 4, pos := p4,
                                                after :=
                                                  #[{ on := 0, ground := Ground.chain },
                                                    { on := 0, ground := Ground.phase }],
                                                guard := none }]
                                            false).seq
                                        Code.ret)
                                      Code.skip)))))).seq
                        (Code.region 8
                          #[{ dst := some 29,
                              op := Op.binOp BinOp.add 3 (Operand.tmp 14) (Operand.const (Value.int IntKind.i64 1)) 3,
                              type := 3, pos := p1, after := #[], guard := none },
                            { dst := some 14, op := Op.move (Operand.tmp 29), type := 3, pos := p1,
                              after := #[{ on := 0, ground := Ground.data }], guard := none }]
                          false)))).loop)).seq
          ((Code.region 9
                #[{ dst := some 30, op := Op.move (Operand.tmp 2), type := 3, pos := p5, after := #[],
                    guard := none },
                  { dst := some 7, op := Op.assign (Operand.tmp 30), type := 3, pos := p5,
                    after := #[{ on := 0, ground := Ground.data }, { on := 0, ground := Ground.phase }],
                    guard := none },
                  { dst := some 8, op := Op.assign (Operand.const (Value.bool true)), type := 4, pos := p5,
                    after :=
                      #[{ on := 1, ground := Ground.chain }, { on := 0, ground := Ground.phase },
                        { on := 1, ground := Ground.phase }],
                    guard := none }]
                false).seq
            Code.ret)))
set_option maxRecDepth 100000 in
set_option maxHeartbeats 1600000 in
theorem recG_any {f : FuncId} {fn : Func} {tS tK tV tT : Nat} {p0 p1 p2 p3 p4 p5 : String} (hf : Tryz.prog.funcs[f]? = some fn) (hname : (fn.name == "runtime.NumGoroutine") = false) (hb : fn.body = some (recGCode tS tK tV tT p0 p1 p2 p3 p4 p5)) (hn : fn.ntmps = 31) (hr : fn.results = #[.tmp 7, .tmp 8])
    (kt : KT tK) (st : SlT tS tK) (hV : ∀ w, (isAgg tV).run Tryz.prog w = .ok false w)
    {L : Nat} {W : World} {bf ba cf : Nat} {ks : List Kd} {t : List Data → Bool} {fs : List Value} {t1 t2 : TypeId} (hLf : L ≤ bf) (hLa : L ≤ ba) (hcf : W.heap[bf]? = some (.cells #[.slice (some ⟨ba, 0, none⟩) ks.length cf] t1 (0, 0))) (ha : W.heap[ba]? = some (.cells fs.toArray t2 (0, 0))) (hF : FieldsAt L W ks 0 fs) (hok : ∀ k ∈ ks, k.Ok) (hm : ks.length ≤ 1000) :
    GetAt L W (.func (.func f) #[] #[.pointer (some ⟨bf, 0, none⟩)]) 0 (recK ks t) := by
  obtain ⟨F1, F2, F3, o1, o2, o3, z1, z2, z3, hu⟩ := kt.u
  have ha0 := kt.a
  have hs0 := kt.s
  have hz0 := kt.z
  have hsu := st.u
  have hsa := st.a
  have hsl := st.len
  refine ⟨_, _, rfl, enters_of hf hname hb, ?_⟩
  intro w hbw g o cs ty B A n c at_ b hg hrow hsz hz hln hnc hmn hrd hBg hat
  have c1 : w.cell? ⟨bf, 0, none⟩ = some (.slice (some ⟨ba, 0, none⟩) ks.length cf) := by rw [cell_of_row w bf 0 _ _ _ ((hbw.block bf hLf (row_lt hcf)).trans hcf)]; rfl
  have hfl := Nat.lt_of_lt_of_le (row_lt hcf) hbw.size
  have hal := Nat.lt_of_lt_of_le (row_lt ha) hbw.size
  have HAROW := Lib.hid ((hbw.block ba hLa (row_lt ha)).trans ha)
  have HB := Lib.hid hbw
  have HF := Lib.hid hF
  have HOK := Lib.hid hok
  have hml : (ks.length : Int) ≤ 1000 := by omega
  have HIX := Lib.hid (fun j hj => st.at_ kt ba ks.length cf j hj)
  have hgs := row_lt hrow
  have hsz' : o + (zeroAll ks).length ≤ cs.length := hsz
  have HZ := Lib.hid (show (cs.drop (o + 0)).take (zeroAll ks).length = zeroAll ks from hz)
  have HROW := Lib.hid hrow
  have HR := Lib.hid hrd
  have HLN := Lib.hid hln
  have HATL := Lib.hid hat
  have hgW : bf < g := Nat.lt_of_lt_of_le (row_lt hcf) hg
  have haW : ba < g := Nat.lt_of_lt_of_le (row_lt ha) hg
  clear hF hok hrd hbw hcf ha kt st hsz hz hrow hln hat
  refine calls_of_wp hf hb ?_
  simp only [hn, List.size_toArray, List.length_cons, List.length_nil, Nat.reduceAdd, Nat.reduceSub, Array.replicate_succ, Array.replicate_zero, List.push_toArray, List.append_toArray, List.nil_append, List.cons_append]
  simp only [recGCode]
  go_wp2
  go_loopw [2, 14] (fun a i wr => ∃ (j u : Nat) (ds : List Data) (vs : List Value), j ≤ ks.length ∧ i = .int .i64 j ∧ a = .int .i64 ((at_ + u : Nat) : Int) ∧ at_ + u ≤ n ∧ w.grownBy wr (some g) ∧ wr.heap[g]? = some (.cells (splice cs (o + 0) vs).toArray ty (0, 0)) ∧ vs.length = offAt ks j ∧
    RepAll wr (NewF w wr) (ks.take j) vs ds ∧ Conts ks (b.drop at_) j ds u) (fun _ i _ => ks.length - (intOf i).toNat)
  case atStart =>
    exact ⟨0, 0, [], [], Nat.zero_le _, rfl, rfl, HATL.out, grown_refl _ _, by rw [splice_nil]; exact HROW.out, (offAt_zero ks).symm, ⟨rfl, rfl⟩, Conts.start _ _⟩
  case round =>
    obtain ⟨j, u, ds, vs, hj, rfl, rfl, hun, hgr, hrw, hvl, hrep, hct⟩ := hrel
    have HG := Lib.hid hgr
    have HRW := Lib.hid hrw
    have HVL := Lib.hid hvl
    have HREP := Lib.hid hrep
    have HCT := Lib.hid hct
    have hzw := hgr.size
    by_cases hlt : j < ks.length
    · obtain ⟨f1, f2, f3, e1, e2, e3, hk⟩ := HF.out.at_ j hlt
      obtain ⟨_, ⟨fj, capj, rfl, _, _⟩, ⟨fq, capq, rfl, _, _⟩, ⟨fi, capi, rfl, ei, HI0⟩⟩ := hk
      have hrowr := (hgr.block ba hal (fun e => by have := Option.some.inj e; omega)).trans HAROW.out
      have a1 : wr.cell? ⟨ba, j * 3, none⟩ = some (.func (.func fj) #[] capj) := cell_row hrowr e1
      have a2 : wr.cell? ⟨ba, j * 3 + 1, none⟩ = some (.func (.func fq) #[] capq) := cell_row hrowr e2
      have a3 : wr.cell? ⟨ba, j * 3 + 2, none⟩ = some (.func (.func fi) #[] capi) := cell_row hrowr e3
      have ei' : ∀ (args : Array Value) (w : World), (callFunc fi args).run Tryz.prog w = .ok (.enter fi args) w := ei
      have hix := HIX.out j hlt
      have hbA := (Below.refl wr.heap.size wr).alloc (Nat.le_refl _) (.cells #[.func (.func fj) #[] capj, .func (.func fq) #[] capq, .func (.func fi) #[] capi] tK)
      have hgf := grown_of_below hbA (some g)
      have hgw := grown_trans hgr hgf
      have hgWs := HB.out.size
      have hbWf := HB.out.grown hgw hgWs (fun k e => by have := Option.some.inj e; omega)
      have hrwf := (hbA.block g (by omega)).trans hrw
      have hoa := offAt_le ks j hlt
      have hsp : (splice cs (o + 0) vs).length = cs.length := splice_length (by rw [hvl]; omega)
      have hzt : ((splice cs (o + 0) vs).drop (o + (0 + offAt ks j))).take ks[j].size = ks[j].zero := by
        have h1 := splice_drop (cs := cs) (p := o + 0) (a := vs) (by omega)
        rw [hvl] at h1
        rw [show o + (0 + offAt ks j) = o + 0 + offAt ks j by omega, h1]
        exact zero_at hlt HZ.out
      have hcall := HI0 _ hbWf g o (splice cs (o + 0) vs) ty B A n c (at_ + u) b hg hrwf (by rw [hsp]; omega) hzt HLN.out hnc hmn (lies_grown HR.out (by omega) hgw hBg) hBg hun
      have hkok := HOK.out _ (List.getElem_mem hlt)
      have HKOK := Lib.hid hkok
      have HGW := Lib.hid hgw
      have hzf := hbA.size
      have hdd : (b.drop at_).drop u = b.drop (at_ + u) := by rw [List.drop_drop]
      have HDD := Lib.hid hdd
      have HGF := Lib.hid hgf
      clear HI0 ei hrowr e1 e2 e3 hrw hvl hrep hct hgr hbA hgf hgw hgWs hbWf hrwf hsp hzt hkok hdd
      rcases hget : ks[j].get (b.drop (at_ + u)) with _ | ⟨d, used⟩
      · have HC := Lib.hid (hcall.mono fun e w' h => Got.fails h hget)
        have HGET := Lib.hid hget
        clear hcall hget
        go_wp2_with fail
        refine HC.out.mono ?_
        rintro e w2 ⟨N, rfl, hg2⟩
        have HG2 := Lib.hid (grown_trans HGW.out hg2)
        clear hg2
        go_wp2
        refine bodyPost_ret (results_tmp2 hr _ _ _) rfl ?_
        refine Got.ofNone ?_ HG2.out
        show (getAll ks (b.drop at_)).map _ = none
        rw [HCT.out.fails hlt (by rw [HDD.out]; exact HGET.out)]
        rfl
      · have HC := Lib.hid (hcall.mono fun e w' h => Got.gives h hget)
        have HGET := Lib.hid hget
        have hus := HKOK.out.used hget
        rw [List.length_drop] at hus
        have hus2 : at_ + u + used ≤ n := by have := HLN.out; omega
        clear hcall hget hus
        go_wp2_with fail
        refine HC.out.mono ?_
        rintro e w2 ⟨rfl, hg2, v2, hrw2, hrep2⟩
        have HG2 := Lib.hid (grown_trans HGW.out hg2)
        have HGX := Lib.hid (grown_trans HGF.out hg2)
        have HRW2 := Lib.hid hrw2
        have HREP2 := Lib.hid hrep2
        have hsz2 := hg2.size
        clear hg2 hrw2 hrep2
        go_wp2
        go_roundw
        case rel =>
          refine ⟨j + 1, u + used, ds ++ [d], vs ++ v2, by omega, by go_num, congrArg (Value.int .i64) (by omega), by omega, HG2.out, ?_, ?_, ?_, ?_⟩
          · have h := HRW2.out
            have h2 := splice_splice (cs := cs) (p := o + 0) vs v2 (by omega)
            rw [HVL.out] at h2
            rw [show o + (0 + offAt ks j) = o + 0 + offAt ks j by omega, h2] at h
            exact h
          · rw [List.length_append, HVL.out, HKOK.out.len HREP2.out, offAt_succ ks j hlt]
          · exact RepAll.next hlt (HKOK.out.keep HREP2.out (fun _ _ => rfl) (fun q hq => NewF.mono (Nat.le_trans hzw hzf) (Nat.le_refl _) q hq rfl)) (HREP.out.keep (fun k' hk' => HOK.out _ (List.mem_of_mem_take hk')) (fun q hq => HGX.out.block q hq.1.2 (New.ne hq.1 hgs)) (fun q hq => NewF.mono (Nat.le_refl _) (Nat.le_trans hzf hsz2) q hq (HGX.out.block q hq.1.2 (New.ne hq.1 hgs))))
          · exact HCT.out.next hlt (by rw [HDD.out]; exact HGET.out)
        case measure => simp [intOf]; omega
    · have hje : j = ks.length := by omega
      subst hje
      clear hgr hrw hvl hrep hct
      go_wp2
      refine bodyPost_ret (results_tmp2 hr _ _ _) rfl ?_
      refine Got.ofSome (d := .agg ds) (used := u) ?_ ⟨HG.out, vs, HRW.out, ds, rfl, ?_⟩
      · show (getAll ks (b.drop at_)).map _ = _
        rw [HCT.out.done]
        rfl
      · have h := HREP.out
        rwa [List.take_length] at h
end Go.Proofs.YtdbaajgkcjpnoaaGreat.Kd

/-! field and record themselves, over any instance: they make a kind. Written by genc.py. -/
namespace Go.Proofs.YtdbaajgkcjpnoaaGreat.Kd
open Go.RowKit By CoP Co Mo

/-- Three closures over a kind and a way to a field. -/
def FieldClosures (q1 q2 q3 : Nat) : Prop := ∀ {L : Nat} {W : World} {bk bo off : Nat} {k : Kd} {kv1 kv2 kv3 ov : Value} {t1 t2 : TypeId}, L ≤ bk → L ≤ bo → W.heap[bk]? = some (.cells #[kv1, kv2, kv3] t1 (0, 0)) → W.heap[bo]? = some (.cells #[ov] t2 (0, 0)) → OfAt ov off → KindAt L W kv1 kv2 kv3 0 k →
  KindAt L W (.func (.func q1) #[] #[.pointer (some ⟨bk, 0, none⟩), .pointer (some ⟨bo, 0, none⟩)]) (.func (.func q2) #[] #[.pointer (some ⟨bk, 0, none⟩), .pointer (some ⟨bo, 0, none⟩)]) (.func (.func q3) #[] #[.pointer (some ⟨bk, 0, none⟩), .pointer (some ⟨bo, 0, none⟩)]) off k
/-- Three closures over fields and what is asked of them together. -/
def RecClosures (q1 q2 q3 : Nat) : Prop := ∀ {L : Nat} {W : World} {bf ba cf bt : Nat} {ks : List Kd} {t : List Data → Bool} {fs : List Value} {tv : Value} {t1 t2 t3 : TypeId}, L ≤ bf → L ≤ ba → L ≤ bt → W.heap[bf]? = some (.cells #[.slice (some ⟨ba, 0, none⟩) ks.length cf] t1 (0, 0)) → W.heap[ba]? = some (.cells fs.toArray t2 (0, 0)) → W.heap[bt]? = some (.cells #[tv] t3 (0, 0)) →
  FieldsAt L W ks 0 fs → (∀ k ∈ ks, k.Ok) → ks.length ≤ 1000 → TiedAt L W tv ks t →
  KindAt L W (.func (.func q1) #[] #[.pointer (some ⟨bf, 0, none⟩), .pointer (some ⟨bt, 0, none⟩)]) (.func (.func q2) #[] #[.pointer (some ⟨bf, 0, none⟩)]) (.func (.func q3) #[] #[.pointer (some ⟨bf, 0, none⟩)]) 0 (recK ks t)
theorem FieldsAt.oks {L : Nat} {W : World} : ∀ {ks : List Kd} {off : Nat} {fs : List Value}, FieldsAt L W ks off fs → ∀ k ∈ ks, k.Ok := by
  intro ks
  induction ks with
  | nil => intro off fs _ k hk; simp at hk
  | cons k ks ih =>
    rintro off fs ⟨f1, f2, f3, r, _, h1, h2⟩ k' hk
    rcases List.mem_cons.1 hk with rfl | hk
    · exact h1.ok
    · exact ih h2 k' hk
theorem heap3_0 (w : World) (A B C : Obj) : (((w.alloc A).alloc B).alloc C).heap[w.heap.size]? = some A := by
  rw [heap_alloc_old _ _ (by simp; omega), heap_alloc2_old]
theorem heap3_1 (w : World) (A B C : Obj) : (((w.alloc A).alloc B).alloc C).heap[w.heap.size + 1]? = some B := by
  rw [heap_alloc_old _ _ (by simp), heap_alloc2_new]
theorem heap3_2 (w : World) (A B C : Obj) : (((w.alloc A).alloc B).alloc C).heap[w.heap.size + 1 + 1]? = some C := by
  have h := heap_alloc_new ((w.alloc A).alloc B) C
  simpa using h
theorem below3 (w : World) (A B C : Obj) : Below w.heap.size w (((w.alloc A).alloc B).alloc C) :=
  (((Below.refl _ _).alloc (Nat.le_refl _) _).alloc (by simp) _).alloc (by simp; omega) _
def fieldCode (tK tO tR tX tY tZ q1 q2 q3 : Nat) (p0 p1 : String) : Code :=
  ((Code.region 0
            #[{ dst := some 2, op := Op.box tK (Operand.tmp 0), type := 0, pos := p0, after := #[],
                guard := none },
              { dst := some 3, op := Op.box tO (Operand.tmp 1), type := 0, pos := p0, after := #[],
                guard := none },
              { dst := some 4, op := Op.alloc tR, type := 0, pos := p0, after := #[], guard := none }]
            false).seq
        ((Code.region 1
              #[{ dst := some 5, op := Op.makeFunc (Fn.func q1) #[] #[Operand.tmp 2, Operand.tmp 3], type := tX,
                  pos := p1, after := #[], guard := none },
                { dst := some 6, op := Op.makeFunc (Fn.func q2) #[] #[Operand.tmp 2, Operand.tmp 3], type := tY,
                  pos := p1, after := #[], guard := none },
                { dst := some 7, op := Op.makeFunc (Fn.func q3) #[] #[Operand.tmp 2, Operand.tmp 3], type := tZ,
                  pos := p1, after := #[], guard := none },
                { dst := some 8, op := Op.build tR #[(0, Operand.tmp 5), (1, Operand.tmp 6), (2, Operand.tmp 7)],
                  type := tR, pos := p1,
                  after :=
                    #[{ on := 0, ground := Ground.data }, { on := 1, ground := Ground.data },
                      { on := 2, ground := Ground.data }],
                  guard := none },
                { dst := none, op := Op.store tR (Operand.tmp 4) (Operand.tmp 8), type := 0, pos := p1,
                  after :=
                    #[{ on := 3, ground := Ground.data }, { on := 0, ground := Ground.phase },
                      { on := 1, ground := Ground.phase }, { on := 2, ground := Ground.phase },
                      { on := 3, ground := Ground.phase }],
                  guard := none }]
              false).seq
          Code.ret))
def recCode (tV tS tR tY tZ q1 q2 q3 : Nat) (p0 p1 : String) : Code :=
  ((Code.region 0
            #[{ dst := some 2, op := Op.box tV (Operand.tmp 0), type := 0, pos := p0, after := #[],
                guard := none },
              { dst := some 3, op := Op.box tS (Operand.tmp 1), type := 0, pos := p0, after := #[],
                guard := none },
              { dst := some 4, op := Op.alloc tR, type := 0, pos := p0, after := #[], guard := none }]
            false).seq
        ((Code.region 1
              #[{ dst := some 5, op := Op.makeFunc (Fn.func q1) #[] #[Operand.tmp 3, Operand.tmp 2], type := tV,
                  pos := p1, after := #[], guard := none },
                { dst := some 6, op := Op.makeFunc (Fn.func q2) #[] #[Operand.tmp 3], type := tY,
                  pos := p1, after := #[], guard := none },
                { dst := some 7, op := Op.makeFunc (Fn.func q3) #[] #[Operand.tmp 3], type := tZ,
                  pos := p1, after := #[], guard := none },
                { dst := some 8, op := Op.build tR #[(0, Operand.tmp 5), (1, Operand.tmp 6), (2, Operand.tmp 7)],
                  type := tR, pos := p1,
                  after :=
                    #[{ on := 0, ground := Ground.data }, { on := 1, ground := Ground.data },
                      { on := 2, ground := Ground.data }],
                  guard := none },
                { dst := none, op := Op.store tR (Operand.tmp 4) (Operand.tmp 8), type := 0, pos := p1,
                  after :=
                    #[{ on := 3, ground := Ground.data }, { on := 0, ground := Ground.phase },
                      { on := 1, ground := Ground.phase }, { on := 2, ground := Ground.phase },
                      { on := 3, ground := Ground.phase }],
                  guard := none }]
              false).seq
          Code.ret))

set_option maxRecDepth 100000 in
set_option maxHeartbeats 800000 in
theorem fieldC_any {f : FuncId} {fn : Func} {tK tO tR tX tY tZ q1 q2 q3 : Nat} {p0 p1 : String} (hf : Tryz.prog.funcs[f]? = some fn) (hb : fn.body = some (fieldCode tK tO tR tX tY tZ q1 q2 q3 p0 p1)) (hn : fn.ntmps = 9) (hr : fn.results = #[.cell 4 tR])
    (kt : KT tK) (kr : KT tR) (hq : FieldClosures q1 q2 q3)
    {L off : Nat} {k : Kd} {kv1 kv2 kv3 ov : Value} (w : World) (hL : L ≤ w.heap.size) (hk : KindAt L w kv1 kv2 kv3 0 k) (hof : OfAt ov off) :
    Calls Tryz.prog f #[.agg #[kv1, kv2, kv3], ov] w (Makes L k off w) := by
  obtain ⟨F1, F2, F3, o1, o2, o3, z1, z2, z3, hu⟩ := kt.u
  obtain ⟨G1, G2, G3, r1, r2, r3, y1, y2, y3, gu⟩ := kr.u
  have ha0 := kt.a
  have hs0 := kt.s
  have hz0 := kt.z
  have ga0 := kr.a
  have gs0 := kr.s
  have gz0 := kr.z
  obtain ⟨GS, gud⟩ := kr.ud
  have gi := kr.i
  have hk' := hk
  obtain ⟨_, ⟨f1, c1, rfl, _⟩, ⟨f2, c2, rfl, _⟩, ⟨f3, c3, rfl, _⟩⟩ := hk'
  have hof' := hof
  obtain ⟨fo, rfl, _⟩ := hof'
  have HK := Lib.hid hk
  have HOF := Lib.hid hof
  have GUD := Lib.hid gud
  have GI := Lib.hid gi
  have hmf : ∀ (fn : Fn) (first cap : Array Value) (w : World), (Instr.makeFunc fn first cap).run Tryz.prog w = .ok (.func fn first cap) w := fun _ _ _ _ => rfl
  clear hk hof kt kr gud gi
  refine calls_of_wp hf hb ?_
  simp only [hn, List.size_toArray, List.length_cons, List.length_nil, Nat.reduceAdd, Nat.reduceSub, Array.replicate_succ, Array.replicate_zero, List.push_toArray, List.append_toArray, List.nil_append, List.cons_append]
  simp only [fieldCode]
  go_wp2
  refine bodyPost_ret (v := .agg #[.func (.func q1) #[] #[.pointer (some ⟨w.heap.size, 0, none⟩), .pointer (some ⟨w.heap.size + 1, 0, none⟩)], .func (.func q2) #[] #[.pointer (some ⟨w.heap.size, 0, none⟩), .pointer (some ⟨w.heap.size + 1, 0, none⟩)], .func (.func q3) #[] #[.pointer (some ⟨w.heap.size, 0, none⟩), .pointer (some ⟨w.heap.size + 1, 0, none⟩)]])
    (results_cell_row hr _ _ (w.heap.size + 1 + 1) tR _ (0, 0) _ rfl (heap3_2 w _ _ _) GUD.out rfl (by rw [GI.out]; rfl)) rfl ⟨_, _, _, rfl, hq hL (Nat.le_succ_of_le hL) (heap3_0 w _ _ _) (heap3_1 w _ _ _) HOF.out (HK.out.later (below3 w _ _ _)), below3 w _ _ _⟩
set_option maxRecDepth 100000 in
set_option maxHeartbeats 800000 in
theorem recC_any {f : FuncId} {fn : Func} {tV tS tR tY tZ q1 q2 q3 : Nat} {p0 p1 : String} (hf : Tryz.prog.funcs[f]? = some fn) (hb : fn.body = some (recCode tV tS tR tY tZ q1 q2 q3 p0 p1)) (hn : fn.ntmps = 9) (hr : fn.results = #[.cell 4 tR])
    (kr : KT tR) (hq : RecClosures q1 q2 q3)
    {L ba cf m : Nat} {ks : List Kd} {t : List Data → Bool} {fs : List Value} {tv : Value} {t2 : TypeId} (w : World) (hL : L ≤ w.heap.size) (hLa : L ≤ ba) (hm : m = ks.length) (ha : w.heap[ba]? = some (.cells fs.toArray t2 (0, 0))) (hF : FieldsAt L w ks 0 fs) (hml : ks.length ≤ 1000) (hT : TiedAt L w tv ks t) :
    Calls Tryz.prog f #[tv, .slice (some ⟨ba, 0, none⟩) m cf] w (Makes L (recK ks t) 0 w) := by
  obtain ⟨G1, G2, G3, r1, r2, r3, y1, y2, y3, gu⟩ := kr.u
  have ga0 := kr.a
  have gs0 := kr.s
  have gz0 := kr.z
  obtain ⟨GS, gud⟩ := kr.ud
  have gi := kr.i
  have hT' := hT
  obtain ⟨ft, ct, rfl, _⟩ := hT'
  have HT := Lib.hid hT
  have HF := Lib.hid hF
  have HA := Lib.hid ha
  have HM := Lib.hid hm
  have GUD := Lib.hid gud
  have GI := Lib.hid gi
  have hmf : ∀ (fn : Fn) (first cap : Array Value) (w : World), (Instr.makeFunc fn first cap).run Tryz.prog w = .ok (.func fn first cap) w := fun _ _ _ _ => rfl
  clear hT kr gud gi hF ha hm
  refine calls_of_wp hf hb ?_
  simp only [hn, List.size_toArray, List.length_cons, List.length_nil, Nat.reduceAdd, Nat.reduceSub, Array.replicate_succ, Array.replicate_zero, List.push_toArray, List.append_toArray, List.nil_append, List.cons_append]
  simp only [recCode]
  go_wp2
  refine bodyPost_ret (v := .agg #[.func (.func q1) #[] #[.pointer (some ⟨w.heap.size + 1, 0, none⟩), .pointer (some ⟨w.heap.size, 0, none⟩)], .func (.func q2) #[] #[.pointer (some ⟨w.heap.size + 1, 0, none⟩)], .func (.func q3) #[] #[.pointer (some ⟨w.heap.size + 1, 0, none⟩)]])
    (results_cell_row hr _ _ (w.heap.size + 1 + 1) tR _ (0, 0) _ rfl (heap3_2 w _ _ _) GUD.out rfl (by rw [GI.out]; rfl)) rfl ⟨_, _, _, rfl, ?_, below3 w _ _ _⟩
  have hm := HM.out
  subst hm
  exact hq (Nat.le_succ_of_le hL) hLa hL (heap3_1 w _ _ _) (((below3 w _ _ _).block ba (row_lt HA.out)).trans HA.out) (heap3_0 w _ _ _) (HF.out.later (below3 w _ _ _)) HF.out.oks hml (HT.out.later (below3 w _ _ _))
end Go.Proofs.YtdbaajgkcjpnoaaGreat.Kd
