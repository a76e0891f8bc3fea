/- Package post's Look and Twin as contracts of calls; calls on a nil post. -/
import Derived.Test.YtenaecpmmbigdaaPoE
namespace Go.Proofs.Ytenaecpmmbigdaa.Po
open Go.RowKit Go.Maps By Mp

theorem results_tmp4 {fn : Func} {t u v x : Tmp} (h : fn.results = #[.tmp t, .tmp u, .tmp v, .tmp x]) (tmps : Array Value) (P : Program) (w : World) :
    (results fn tmps).run P w = .ok (.tuple #[tmps.getD t undef, tmps.getD u undef, tmps.getD v undef, tmps.getD x undef]) w := by
  simp [results, h]
theorem conv_any (w : World) (l : List UInt8) : (convert 9 33 (.string (str l))).run Try.prog w = .ok (.slice (some ⟨w.heap.size, 0, none⟩) (str l).size (grownCap w (str l).size 0 5)) (Lib.bytesWorld w 5 (str l)) :=
  Lib.run_convert_string_bytes (P := Try.prog) w 9 33 5 (str l) Try.underlying9 Try.underlying33 Try.underlying5
theorem below_text (w : World) (l : List UInt8) : Below w.heap.size w (Lib.bytesWorld w 5 (str l)) :=
  ⟨rfl, rfl, rfl, by rw [Lib.bytesWorld_size]; omega, fun k hk => Lib.bytesWorld_at_old w _ _ k hk⟩
theorem lies_text (w : World) (l : List UInt8) : Lies (Lib.bytesWorld w 5 (str l)) (w.heap.size + 1) (some ⟨w.heap.size, 0, none⟩) l := fun _ =>
  ⟨w.heap.size, 0, rfl, Nat.lt_succ_self _, fun j x hx => by
    have hj := (List.getElem?_eq_some_iff.1 hx)
    obtain ⟨hj1, hj2⟩ := hj
    rw [Nat.zero_add, Lib.bytesWorld_cell w _ _ j (by rw [str_size]; exact hj1)]
    have e : (str l).data.toList = l := by simp [str]
    rw [e, bv]
    simp [List.getD, hx]⟩
/-- What a Look answers. -/
def LookPost (x : L8) (er : Int) (w : World) (e : Ending) (w' : World) : Prop := ∃ A c, e = .returned (.tuple #[.int .i64 x.a, .int .i64 x.b, .slice A x.d.length c, .int .i64 er]) ∧ Lies w' w'.heap.size A x.d ∧ (∀ b, (Value.slice A x.d.length c).ownBlock = some b → w.heap.size ≤ b) ∧ Below w.heap.size w w'
theorem look_bad (v : Option Addr) (i er : Int) (w : World) (he : er ≠ 0) (hat : Calls Try.prog 30 #[.pointer v, .int .i64 i] w (AtPost zeroL er w)) : Calls Try.prog 19 #[.pointer v, .int .i64 i] w (LookPost zeroL er w) := by
  have hne : (er != 0) = true := bne_iff_ne.2 he
  go_enter Try.func19, Try.ntmps19
  go_wp2_with fail
  refine hat.mono ?_
  rintro e w1 ⟨rfl, hb1⟩
  have HB1 := Lib.hid (show Below w.heap.size w (w1.alloc (.cells #[.int .i64 0, .int .i64 0, .string ⟨#[]⟩] tLet)) from hb1.alloc hb1.size _)
  clear hb1 hat he
  go_wp2
  refine bodyPost_ret (results_tmp4 rfl _ _ _) rfl ?_
  exact ⟨none, 0, rfl, Lies.empty _ _ _, (fun b h => by cases h), HB1.out⟩
theorem look_nil (i : Int) (w : World) : Calls Try.prog 19 #[.pointer none, .int .i64 i] w (LookPost zeroL 1 w) := look_bad none i 1 w (by decide) (at_nil i w)
theorem look_none (g : Nat) (p : P8) (S : Nat → Prop) (i : Int) (w : World) (h : PostIs w g p S) (hi : i < 0 ∨ (p.l.length : Int) ≤ i) : Calls Try.prog 19 #[.pointer (some ⟨g, 0, none⟩), .int .i64 i] w (LookPost zeroL 8 w) :=
  look_bad _ i 8 w (by decide) (at_none g p S i w h hi)
set_option maxHeartbeats 1600000 in
theorem look_some (g : Nat) (p : P8) (S : Nat → Prop) (k : Nat) (x : L8) (w : World) (h : PostIs w g p S) (hx : p.l[k]? = some x) : Calls Try.prog 19 #[.pointer (some ⟨g, 0, none⟩), .int .i64 (k : Int)] w (LookPost x 0 w) := by
  have HAT := Lib.hid (at_some g p S k x w h hx)
  clear h hx
  go_enter Try.func19, Try.ntmps19
  go_wp2_with fail
  refine HAT.out.mono ?_
  rintro e w1 ⟨rfl, hb1⟩
  have hcv := conv_any
  have hsz : (str x.d).size = x.d.length := str_size x.d
  obtain ⟨w2, hw2⟩ : ∃ w2, w2 = w1.alloc (.cells #[.int .i64 x.a, .int .i64 x.b, .string (str x.d)] tLet) := ⟨_, rfl⟩
  have hr2 : w2.heap[w1.heap.size]? = some (.cells #[.int .i64 x.a, .int .i64 x.b, .string (str x.d)] tLet (0, 0)) := by rw [hw2]; exact heap_alloc_new w1 _
  have hb2 : Below w.heap.size w w2 := by rw [hw2]; exact hb1.alloc hb1.size _
  obtain ⟨c0, c1, c2⟩ := lcells hr2
  have hb3 := below_text w2.drew x.d
  obtain ⟨d0, d1, d2⟩ := lcells ((hb3.block _ (row_lt hr2)).trans hr2)
  have HFIN := Lib.hid (show LookPost x 0 w (.returned (.tuple #[.int .i64 x.a, .int .i64 x.b, .slice (some ⟨w2.heap.size, 0, none⟩) x.d.length (grownCap w2.drew x.d.length 0 5), .int .i64 0])) (Lib.bytesWorld w2.drew 5 (str x.d)) from
    ⟨_, _, rfl, (lies_text w2.drew x.d).more (by rw [Lib.bytesWorld_size]; exact Nat.le_refl _), (fun b hb => by
      have hb : some w2.heap.size = some b := hb
      injection hb with hb
      rw [← hb]; exact hb2.size), hb2.drew.trans (hb3.mono hb2.size)⟩)
  have HW2 := Lib.hid hw2
  clear hb1 HAT hw2 hr2 hb2 hb3
  go_upto_region 4 with fail
  rw [← HW2.out]
  go_region
  all_goals
    go_wp2
    refine bodyPost_ret (results_tmp4 rfl _ _ _) rfl ?_
    exact HFIN.out
/-- A letter is doubled. -/
def twinR (p : P8) (i : Int) : P8 × Int :=
  match (if i < 0 then none else p.l[i.toNat]?) with
  | none => (p, 8)
  | some x => if p.room ≤ (p.l.length : Int) then (p, 10) else ({ p with l := p.l ++ [x] }, 0)
theorem at_in {p : P8} {i : Int} {x : L8} (h : (if i < 0 then none else p.l[i.toNat]?) = some x) : ∃ k : Nat, i = k ∧ p.l[k]? = some x := by
  split at h
  · cases h
  · exact ⟨i.toNat, by omega, h⟩
theorem at_out {p : P8} {i : Int} (h : (if i < 0 then none else p.l[i.toNat]?) = (none : Option L8)) : i < 0 ∨ (p.l.length : Int) ≤ i := by
  split at h
  · exact .inl (by assumption)
  · have := List.getElem?_eq_none_iff.1 h
    omega
set_option maxHeartbeats 1600000 in
theorem twin_any (g : Nat) (p : P8) (S : Nat → Prop) (i : Int) (w : World) (h : PostIs w g p S) : Calls Try.prog 20 #[.pointer (some ⟨g, 0, none⟩), .int .i64 i] w (PStep (.int .i64 (twinR p i).2) g (twinR p i).1 S w) := by
  have HP := Lib.hid h
  obtain ⟨r, hr⟩ : ∃ r, r = twinR p i := ⟨_, rfl⟩
  rw [← hr]
  unfold twinR at hr
  cases hx : (if i < 0 then none else p.l[i.toNat]?) with
  | none =>
    rw [hx] at hr
    have HRES := Lib.hid (show r = (p, 8) from hr)
    have HAT := Lib.hid (at_none g p S i w h (at_out hx))
    clear h hr hx
    have hne : ((8 : Int) != 0) = true := rfl
    go_enter Try.func20, Try.ntmps20
    go_wp2_with fail
    refine HAT.out.mono ?_
    rintro e w1 ⟨rfl, hb1⟩
    have HB1 := Lib.hid (show Below w.heap.size w (w1.alloc (.cells #[.int .i64 0, .int .i64 0, .string ⟨#[]⟩] tLet)) from hb1.alloc hb1.size _)
    clear hb1 HAT
    go_wp2
    go_ret
    rw [HRES.out]
    exact pstep_same HP.out HB1.out
  | some x =>
    rw [hx] at hr
    obtain ⟨k, rfl, hk⟩ := at_in hx
    have HRES := Lib.hid (show r = if p.room ≤ (p.l.length : Int) then (p, 10) else ({ p with l := p.l ++ [x] }, 0) from hr)
    have HAT := Lib.hid (at_some g p S k x w h hk)
    have HX := Lib.hid (show LOk x by obtain ⟨v, mb, h⟩ := h; exact h.ok.lets x (List.mem_of_getElem? hk))
    clear h hr hx hk
    go_enter Try.func20, Try.ntmps20
    go_wp2_with fail
    refine HAT.out.mono ?_
    rintro e w1 ⟨rfl, hb1⟩
    obtain ⟨w2, hw2⟩ : ∃ w2, w2 = w1.alloc (.cells #[.int .i64 x.a, .int .i64 x.b, .string (str x.d)] tLet) := ⟨_, rfl⟩
    have hr2 : w2.heap[w1.heap.size]? = some (.cells #[.int .i64 x.a, .int .i64 x.b, .string (str x.d)] tLet (0, 0)) := by rw [hw2]; exact heap_alloc_new w1 _
    have hb2 : Below w.heap.size w w2 := by rw [hw2]; exact hb1.alloc hb1.size _
    obtain ⟨c0, c1, c2⟩ := lcells hr2
    have HB2 := Lib.hid hb2
    have HW2 := Lib.hid hw2
    clear hb1 HAT hw2 hr2 hb2
    go_upto_region 4 with fail
    rw [← HW2.out]
    by_cases hf : p.room ≤ (p.l.length : Int)
    · have HRES4 := Lib.hid (HRES.out.trans (if_pos hf))
      have HAD := Lib.hid (add_full g p S x w2 (HP.out.below HB2.out) hf)
      clear hf
      go_wp2_with fail
      refine HAD.out.mono ?_
      rintro e w4 h4
      have H4 := Lib.hid h4
      obtain ⟨rfl, -⟩ := h4
      go_wp2
      go_ret
      rw [HRES4.out]
      exact H4.out.lift HB2.out
    · have HRES4 := Lib.hid (HRES.out.trans (if_neg hf))
      have HAD := Lib.hid (add_ok g p S x w2 (HP.out.below HB2.out) HX.out (by omega))
      clear hf
      go_wp2_with fail
      refine HAD.out.mono ?_
      rintro e w4 h4
      have H4 := Lib.hid h4
      obtain ⟨rfl, -⟩ := h4
      go_wp2
      go_ret
      rw [HRES4.out]
      exact H4.out.lift HB2.out
theorem twin_nil (i : Int) (w : World) : Calls Try.prog 20 #[.pointer none, .int .i64 i] w (RetB (.int .i64 1) w) := by
  have HAT := Lib.hid (at_nil i w)
  have hne : ((1 : Int) != 0) = true := rfl
  go_enter Try.func20, Try.ntmps20
  go_wp2_with fail
  refine HAT.out.mono ?_
  rintro e w1 ⟨rfl, hb1⟩
  have HB1 := Lib.hid (show Below w.heap.size w (w1.alloc (.cells #[.int .i64 0, .int .i64 0, .string ⟨#[]⟩] tLet)) from hb1.alloc hb1.size _)
  clear hb1 HAT
  go_wp2
  go_ret
  exact ⟨rfl, HB1.out⟩
theorem send_nil (a b : Int) (A : Option Addr) (n c : Nat) (w : World) : Calls Try.prog 13 #[.pointer none, .int .i64 a, .int .i64 b, .slice A n c] w (RetB (.int .i64 1) w) := by
  have q := ptrTest
  have HB1 := Lib.hid (wayW_below w a b)
  go_enter Try.func13, Try.ntmps13
  go_wp2
  go_ret
  exact ⟨rfl, HB1.out⟩
theorem cut_nil (a b : Int) (w : World) : Calls Try.prog 17 #[.pointer none, .int .i64 a, .int .i64 b] w (RetB (.int .i64 1) w) := by
  have q := ptrTest
  have HB1 := Lib.hid (wayW_below w a b)
  go_enter Try.func17, Try.ntmps17
  go_wp2
  go_ret
  exact ⟨rfl, HB1.out⟩
theorem heal_nil (a b : Int) (w : World) : Calls Try.prog 18 #[.pointer none, .int .i64 a, .int .i64 b] w (RetB (.int .i64 1) w) := by
  have q := ptrTest
  have HB1 := Lib.hid (wayW_below w a b)
  go_enter Try.func18, Try.ntmps18
  go_wp2
  go_ret
  exact ⟨rfl, HB1.out⟩
theorem copy_nil (w : World) : Calls Try.prog 10 #[.pointer none] w (RetB (.pointer none) w) := by
  have q := ptrTest
  go_enter Try.func10, Try.ntmps10
  go_wp2
  go_ret
  exact ⟨rfl, Below.refl _ _⟩
theorem take_nil (i : Int) (w : World) : Calls Try.prog 14 #[.pointer none, .int .i64 i] w (LookPost zeroL 1 w) := by
  have HL := Lib.hid (look_nil i w)
  have hne : ((1 : Int) == 0) = false := rfl
  go_enter Try.func14, Try.ntmps14
  go_wp2_with fail
  refine HL.out.mono ?_
  rintro e w1 h
  have H1 := Lib.hid h
  obtain ⟨A, c, rfl, -⟩ := h
  go_wp2
  refine bodyPost_ret (results_tmp4 rfl _ _ _) rfl ?_
  exact H1.out
end Go.Proofs.Ytenaecpmmbigdaa.Po
