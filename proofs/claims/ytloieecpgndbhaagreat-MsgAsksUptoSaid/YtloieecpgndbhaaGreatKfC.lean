/- record's closures, over any instance of it: what each does, if the fields' do so. Written by genr.py. -/
import Derived.Test.YtloieecpgndbhaaGreatKfB
namespace Go.Proofs.YtloieecpgndbhaaGreat.Kd
open Go.RowKit By CoP Co Mo

def recPCode (tS tK tV tT : Nat) (p0 p1 p2 p3 p4 : String) : Code :=
  ((Code.region 0
            #[{ dst := some 3, op := Op.assign (Operand.const (Value.slice none 0 0)), type := 23, pos := p0,
                after := #[], guard := none }]
            false).seq
        ((Code.region 1
              #[{ dst := some 4, op := Op.assign (Operand.const (Value.slice none 0 0)), type := 23,
                  pos := p1, after := #[], guard := none }]
              false).seq
          (((Code.region 2
                    #[{ dst := some 7, op := Op.load tS (Operand.tmp 1), type := tS, pos := p2,
                        after := #[], guard := none },
                      { dst := some 8,
                        op :=
                          Op.call
                            { callee := Callee.builtin Builtin.len, args := #[Operand.tmp 7], argTypes := #[tS] },
                        type := 3, pos := p2, after := #[{ on := 0, ground := Ground.data }],
                        guard := none },
                      { dst := some 9, op := Op.move (Operand.const (Value.int IntKind.i64 0)), type := 3,
                        pos := p2, after := #[], guard := none }]
                    false).seq
                (Code.block 0
                  ((Code.region 3
                          #[{ dst := some 10, op := Op.binOp BinOp.lss 3 (Operand.tmp 9) (Operand.tmp 8) 3, type := 0,
                              pos := p2, after := #[], guard := none }]
                          false).seq
                      ((Code.cond (Operand.tmp 10) Code.skip (Code.exit 0)).seq
                        ((Code.block 1
                              ((Code.region 4
                                    #[{ dst := some 11, op := Op.indexAddr tS (Operand.tmp 7) (Operand.tmp 9),
                                        type := 0, pos := p2, after := #[], guard := none },
                                      { dst := some 12, op := Op.load tK (Operand.tmp 11), type := tK,
                                        pos := p2, after := #[{ on := 0, ground := Ground.data }],
                                        guard := none },
                                      { dst := some 6, op := Op.alloc tK, type := 0, pos := p2,
                                        after := #[], guard := none },
                                      { dst := none, op := Op.store tK (Operand.tmp 6) (Operand.tmp 12), type := 0,
                                        pos := p2,
                                        after :=
                                          #[{ on := 2, ground := Ground.data }, { on := 1, ground := Ground.data },
                                            { on := 0, ground := Ground.phase }, { on := 1, ground := Ground.phase },
                                            { on := 2, ground := Ground.phase }],
                                        guard := none }]
                                    false).seq
                                (Code.region 5
                                  #[{ dst := some 13, op := Op.move (Operand.tmp 4), type := 23, pos := p3,
                                      after := #[], guard := none },
                                    { dst := some 14, op := Op.fieldAddr tK (Operand.tmp 6) 1, type := 0,
                                      pos := p3, after := #[], guard := none },
                                    { dst := some 15, op := Op.load tV (Operand.tmp 14), type := tV,
                                      pos := p3, after := #[{ on := 1, ground := Ground.data }],
                                      guard := none },
                                    { dst := some 16, op := Op.move (Operand.tmp 0), type := tT, pos := p3,
                                      after := #[], guard := none },
                                    { dst := some 17,
                                      op :=
                                        Op.call
                                          { callee := Callee.value (Operand.tmp 15), args := #[Operand.tmp 16],
                                            argTypes := #[tT] },
                                      type := 23, pos := p3,
                                      after :=
                                        #[{ on := 2, ground := Ground.data }, { on := 3, ground := Ground.data }],
                                      guard := none },
                                    { dst := some 18,
                                      op :=
                                        Op.call
                                          { callee := Callee.builtin Builtin.append,
                                            args := #[Operand.tmp 13, Operand.tmp 17], argTypes := #[23, 23] },
                                      type := 23, pos := p3,
                                      after :=
                                        #[{ on := 0, ground := Ground.data }, { on := 4, ground := Ground.data },
                                          { on := 4, ground := Ground.chain }],
                                      guard := none },
                                    { dst := some 4, op := Op.assign (Operand.tmp 18), type := 23, pos := p3,
                                      after :=
                                        #[{ on := 5, ground := Ground.data }, { on := 5, ground := Ground.chain },
                                          { on := 0, ground := Ground.phase }, { on := 1, ground := Ground.phase },
                                          { on := 2, ground := Ground.phase }, { on := 3, ground := Ground.phase },
                                          { on := 4, ground := Ground.phase }, { on := 5, ground := Ground.phase }],
                                      guard := none }]
                                  false))).seq
                          (Code.region 6
                            #[{ dst := some 19,
                                op := Op.binOp BinOp.add 3 (Operand.tmp 9) (Operand.const (Value.int IntKind.i64 1)) 3,
                                type := 3, pos := p2, after := #[], guard := none },
                              { dst := some 9, op := Op.move (Operand.tmp 19), type := 3, pos := p2,
                                after := #[{ on := 0, ground := Ground.data }], guard := none }]
                            false)))).loop)).seq
            ((Code.region 7
                  #[{ dst := some 20, op := Op.move (Operand.tmp 4), type := 23, pos := p4, after := #[],
                      guard := none },
                    { dst := some 3, op := Op.assign (Operand.tmp 20), type := 23, pos := p4,
                      after := #[{ on := 0, ground := Ground.data }, { on := 0, ground := Ground.phase }],
                      guard := none }]
                  false).seq
              Code.ret))))
set_option maxRecDepth 100000 in
set_option maxHeartbeats 1600000 in
theorem recP_any {f : FuncId} {fn : Func} {tS tK tV tT : Nat} {p0 p1 p2 p3 p4 : String} (hf : Tryz.prog.funcs[f]? = some fn) (hname : (fn.name == "runtime.NumGoroutine") = false) (hb : fn.body = some (recPCode tS tK tV tT p0 p1 p2 p3 p4)) (hn : fn.ntmps = 21) (hr : fn.results = #[.tmp 3])
    (kt : KT tK) (st : SlT tS tK) (hV : ∀ w, (isAgg tV).run Tryz.prog w = .ok false w)
    {L : Nat} {W : World} {bf ba cf : Nat} {ks : List Kd} {t : List Data → Bool} {fs : List Value} {t1 t2 : TypeId} (hLf : L ≤ bf) (hLa : L ≤ ba) (hcf : W.heap[bf]? = some (.cells #[.slice (some ⟨ba, 0, none⟩) ks.length cf] t1 (0, 0))) (ha : W.heap[ba]? = some (.cells fs.toArray t2 (0, 0))) (hF : FieldsAt L W ks 0 fs) (hok : ∀ k ∈ ks, k.Ok) (hm : ks.length ≤ 1000) :
    PutAt L W (.func (.func f) #[] #[.pointer (some ⟨bf, 0, none⟩)]) 0 (recK ks t) := by
  obtain ⟨F1, F2, F3, o1, o2, o3, z1, z2, z3, hu⟩ := kt.u
  have ha0 := kt.a
  have hs0 := kt.s
  have hz0 := kt.z
  have hsu := st.u
  have hsa := st.a
  have hsl := st.len
  refine ⟨_, _, rfl, enters_of hf hname hb, ?_⟩
  rintro w hbw g o vs d hrd ⟨ds, rfl, hrep⟩ hlen
  have c1 : w.cell? ⟨bf, 0, none⟩ = some (.slice (some ⟨ba, 0, none⟩) ks.length cf) := by rw [cell_of_row w bf 0 _ _ _ ((hbw.block bf hLf (row_lt hcf)).trans hcf)]; rfl
  have hfl := Nat.lt_of_lt_of_le (row_lt hcf) hbw.size
  have hal := Nat.lt_of_lt_of_le (row_lt ha) hbw.size
  have HAROW := Lib.hid ((hbw.block ba hLa (row_lt ha)).trans ha)
  have HB := Lib.hid hbw
  have HF := Lib.hid hF
  have HOK := Lib.hid hok
  have hml : (ks.length : Int) ≤ 1000 := by omega
  have HR := Lib.hid hrd
  have HREP := Lib.hid hrep
  have hlen' : (putsAll ks ds).length + 9 ≤ 140737488355328 := hlen
  have HL := Lib.hid hlen'
  have HIX := Lib.hid (fun j hj => st.at_ kt ba ks.length cf j hj)
  show Calls _ _ _ _ (Gives w.heap.size (putsAll ks ds) w)
  clear hF hok hrd hrep hbw hcf ha kt st hlen hlen'
  refine calls_of_wp hf hb ?_
  simp only [hn, List.size_toArray, List.length_cons, List.length_nil, Nat.reduceAdd, Nat.reduceSub, Array.replicate_succ, Array.replicate_zero, List.push_toArray, List.append_toArray, List.nil_append, List.cons_append]
  simp only [recPCode]
  go_wp2
  go_loopw [4, 9] (fun out i wr => ∃ (j : Nat) (l : List UInt8), j ≤ ks.length ∧ i = .int .i64 j ∧ Below w.heap.size w wr ∧ Own w.heap.size wr out l ∧ putsAll ks ds = l ++ putsAll (ks.drop j) (ds.drop j)) (fun _ i _ => ks.length - (intOf i).toNat)
  case atStart => exact ⟨0, [], Nat.zero_le _, rfl, Below.refl _ _, Own.nil _ _, by simp⟩
  case round =>
    obtain ⟨j, l, hj, rfl, hbr, hown, hsd⟩ := hrel
    obtain ⟨A0, c0, rfl, _, _, _, _, _⟩ := hown.form
    have HBW := Lib.hid hbr
    have HSD := Lib.hid hsd
    have HOWN := Lib.hid hown
    have hzw := hbr.size
    by_cases hlt : j < ks.length
    · obtain ⟨f1, f2, f3, e1, e2, e3, hk⟩ := HF.out.at_ j hlt
      obtain ⟨_, ⟨fj, capj, rfl, _, _⟩, ⟨fi, capi, rfl, ei, HI0⟩, ⟨fq, capq, rfl, _, _⟩⟩ := hk
      obtain ⟨d, v, hd, hrd, hrp⟩ := HREP.out.rd HOK.out HR.out j hlt
      have hrowr := (hbr.block ba hal).trans HAROW.out
      have a1 : wr.cell? ⟨ba, j * 3, none⟩ = some (.func (.func fj) #[] capj) := cell_row hrowr e1
      have a2 : wr.cell? ⟨ba, j * 3 + 1, none⟩ = some (.func (.func fi) #[] capi) := cell_row hrowr e2
      have a3 : wr.cell? ⟨ba, j * 3 + 2, none⟩ = some (.func (.func fq) #[] capq) := cell_row hrowr e3
      have ei' : ∀ (args : Array Value) (w : World), (callFunc fi args).run Tryz.prog w = .ok (.enter fi args) w := ei
      have hix := HIX.out j hlt
      have hbf : Below w.heap.size w (wr.alloc (.cells #[.func (.func fj) #[] capj, .func (.func fi) #[] capi, .func (.func fq) #[] capq] tK)) := hbr.alloc hzw _
      have hrf : Rd (wr.alloc (.cells #[.func (.func fj) #[] capj, .func (.func fi) #[] capi, .func (.func fq) #[] capq] tK)) g (o + (0 + offAt ks j)) v := by
        have h := hrd.below hbf
        rwa [show o + 0 + offAt ks j = o + (0 + offAt ks j) by omega] at h
      have hpd := putsAll_drop hlt hd
      have hpl : l.length + (ks[j].put d).length + 9 ≤ 140737488355328 := by
        have h1 := HL.out
        rw [hsd, hpd, List.length_append, List.length_append] at h1
        omega
      have hcall := HI0 _ (keeps_ext HB.out hbf) g o v d hrf ((HOK.out _ (List.getElem_mem hlt)).below hrp hbf) (by omega)
      have HC := Lib.hid hcall
      have HPL := Lib.hid hpl
      have HPD := Lib.hid hpd
      have HOWF := Lib.hid (hown.alloc (.cells #[.func (.func fj) #[] capj, .func (.func fi) #[] capi, .func (.func fq) #[] capq] tK))
      have HBF := Lib.hid hbf
      have hzf : w.heap.size ≤ (wr.alloc (.cells #[.func (.func fj) #[] capj, .func (.func fi) #[] capi, .func (.func fq) #[] capq] tK)).heap.size := hbf.size
      have HZF := Lib.hid hzf
      clear hbr hsd HI0 ei hrowr e1 e2 e3 hcall hpl hpd hown hd hrd hrp hbf hrf hzf
      go_wp2_with fail
      refine HC.out.mono ?_
      rintro e w1 ⟨v1, rfl, ho1, hb1⟩
      obtain ⟨A1, c1, rfl, _, _, _, hr1, _⟩ := ho1.form
      have HO1 := Lib.hid (HOWF.out.kept hb1 (Nat.le_refl _))
      have HR1 := Lib.hid hr1
      have HZ1 := Lib.hid (Nat.le_trans HZF.out hb1.size)
      have HB1 := Lib.hid (ext HBF.out hb1)
      clear ho1 hb1 hr1
      go_wp2_with (with_reducible refine wpList_app rfl (.tmp 13) (.tmp 17) rfl (v := .slice A0 l.length c0) rfl HO1.out (A := A1) (m := (ks[j].put d).length) (c := c1) rfl rfl HR1.out ?c1 HZ1.out ?_)
      case c1 => have := HPL.out; omega
      intro v2 w2 ho2 hb2 _
      have HO2 := Lib.hid ho2
      have HB2 := Lib.hid (HB1.out.trans hb2)
      clear ho2 hb2
      go_wp2
      go_roundw
      case rel => exact ⟨j + 1, l ++ ks[j].put d, by omega, by go_num, HB2.out, HO2.out, by rw [HSD.out, HPD.out, List.append_assoc]⟩
      case measure => simp [intOf]; omega
    · have hje : j = ks.length := by omega
      subst hje
      clear hbr hsd hown
      go_wp2
      refine bodyPost_ret (results_tmp hr _ _ _) rfl ?_
      refine ⟨_, rfl, ?_, HBW.out⟩
      have h := HSD.out
      rw [putsAll_end, List.append_nil] at h
      rw [h]
      exact HOWN.out
end Go.Proofs.YtloieecpgndbhaaGreat.Kd
