/- Package post's Cut and Heal as contracts of calls. -/
import Derived.Test.YtenaecpmmbigdaaPoF
namespace Go.Proofs.Ytenaecpmmbigdaa.Po
open Go.RowKit Go.Maps By Mp

section
variable {P : Program} {ops : Array Oper} {o : Oper} {a : Act} {Q : Exit → Act → World → Prop} {w : World} {K : Act → World → Prop} {E : Prop}
theorem step_del (hg : o.guard = none) (m x : Operand) (t k : TypeId) (hop : o.op = Op.call { callee := Callee.builtin Builtin.delete, args := #[m, x], argTypes := #[t, k] }) (e : TypeId) (KK : Keyed P k) (ht : P.underlying t = some (.map k e)) (b n : Nat) (get : Lit → Option Value)
    (hm : a.eval m = .map (some b)) (h : MapIs P k w b get n) (key : Value) (kl : Lit) (hx : a.eval x = key) (hkey : keyOf P k key = some kl)
    (hK : ∀ w', MapIs P k w' b (upd get kl none) (if (get kl).isSome then n - 1 else n) → w.mapTurned w' b → K (a.put o.dst (.tuple #[])) w') : if Region.wanted o (yielded ops a.tmps) = true then Oper.wp P o a w K Q else E := by
  have hw : Region.wanted o (yielded ops a.tmps) = true := by simp [Region.wanted, hg]
  rw [if_pos hw]
  obtain ⟨w', hrun, r1, r2⟩ := h.del KK ht hkey o.type
  unfold Oper.wp
  simp [execOp, hop, resolve, invoke, builtin, hm, hx, hrun, Result.andThen]
  exact hK w' r1 r2
theorem step_del0 (hg : o.guard = none) (m x : Operand) (t k : TypeId) (hop : o.op = Op.call { callee := Callee.builtin Builtin.delete, args := #[m, x], argTypes := #[t, k] }) (e : TypeId) (KK : Keyed P k) (ht : P.underlying t = some (.map k e))
    (hm : a.eval m = .map none) (key : Value) (kl : Lit) (hx : a.eval x = key) (hkey : keyOf P k key = some kl)
    (hK : K (a.put o.dst (.tuple #[])) w) : if Region.wanted o (yielded ops a.tmps) = true then Oper.wp P o a w K Q else E := by
  have hw : Region.wanted o (yielded ops a.tmps) = true := by simp [Region.wanted, hg]
  rw [if_pos hw]
  have hrun := del_none (w := w) KK ht hkey o.type
  unfold Oper.wp
  simp [execOp, hop, resolve, invoke, builtin, hm, hx, hrun, Result.andThen]
  exact hK
end
theorem mapTest (w : World) (m : Option Nat) : (binOp .eql tCutM (.map m) (.map none)).run Try.prog w = .ok (.bool m.isNone) w := by
  cases m with
  | none => kernel_rfl
  | some a => kernel_rfl
theorem turned_kept {w w' : World} {b : Nat} (h : w.mapTurned w' b) : Kept (fun q => q = b) w w' := by
  refine ⟨?_, ?_, ?_, Nat.le_of_eq (turned_size h).symm, fun q _ hq => turned_other h hq⟩ <;>
  · obtain ⟨es, clock, es', clock', hb, rfl⟩ := h
    rfl
theorem PAt.turned {wx w6 : World} {g m : Nat} {p p' : P8} {v : Value} {S : Nat → Prop} (h : PAt wx g p v (some m) S) (ht : wx.mapTurned w6 m) (hm : CutAt w6 (some m) p'.cuts) (hl : p'.l = p.l) (hr : p'.room = p.room) (hok : p'.Ok) : PAt w6 g p' v (some m) S := by
  have hk := turned_kept ht
  refine ⟨?_, ?_, hm, h.sg, h.sv, h.sm, fun b hb => by rw [turned_size ht]; exact h.lt b hb, hok⟩
  · rw [hr]; exact (hk.block g h.glt (fun e => h.mg (by rw [e]))).trans h.row
  · rw [hl]; exact ownsRow_keep h.own (fun b hb => hk.block b (ownsRow_lt h.own hb).2 (fun e => h.mv rfl (by rw [hb, e])))
theorem cut_ok {p : P8} (h : p.Ok) {a b : Int} (ha : End8 a) (hb : End8 b) : (cutP p a b).Ok := by
  refine ⟨h.room, h.few, h.lets, ?_, ?_⟩
  · show (if (a, b) ∈ p.cuts then p.cuts else p.cuts ++ [(a, b)]).Nodup
    split
    · exact h.nodup
    · rename_i hn
      exact List.nodup_append.2 ⟨h.nodup, by simp, fun x hx y hy e => hn (by rw [List.mem_singleton.1 hy] at e; rw [← e]; exact hx)⟩
  · intro q hq
    have hq : q ∈ (if (a, b) ∈ p.cuts then p.cuts else p.cuts ++ [(a, b)]) := hq
    split at hq
    · exact h.ends q hq
    · rcases List.mem_append.1 hq with hq | hq
      · exact h.ends q hq
      · rw [List.mem_singleton.1 hq]; exact ⟨ha, hb⟩
theorem heal_ok {p : P8} (h : p.Ok) (a b : Int) : (healP p a b).Ok :=
  ⟨h.room, h.few, h.lets, h.nodup.filter _, fun q hq => h.ends q (List.mem_filter.1 hq).1⟩
theorem cut_at {w : World} {m : Nat} {p : P8} (hok : p.Ok) {a b : Int} (ha : End8 a) (hb : End8 b) (h : MapIs Try.prog tWay w m (upd (getOf p.cuts) (wayK a b) (some unitV)) (if (getOf p.cuts (wayK a b)).isSome then p.cuts.length else p.cuts.length + 1)) : CutAt w (some m) (cutP p a b).cuts := by
  have h2 := h.same (get' := getOf (if (a, b) ∈ p.cuts then p.cuts else p.cuts ++ [(a, b)])) (fun l _ => get_put a b l)
  have e : (if (getOf p.cuts (wayK a b)).isSome then p.cuts.length else p.cuts.length + 1) = (if (a, b) ∈ p.cuts then p.cuts else p.cuts ++ [(a, b)]).length := by
    rw [getOf_at hok.ends ha hb]
    by_cases hc : (a, b) ∈ p.cuts
    · simp [hc]
    · simp [hc]
  rw [e] at h2
  exact h2
theorem heal_at {w : World} {m : Nat} {p : P8} (hok : p.Ok) {a b : Int} (ha : End8 a) (hb : End8 b) (h : MapIs Try.prog tWay w m (upd (getOf p.cuts) (wayK a b) none) (if (getOf p.cuts (wayK a b)).isSome then p.cuts.length - 1 else p.cuts.length)) : CutAt w (some m) (healP p a b).cuts := by
  have h2 := h.same (get' := getOf (p.cuts.filter (fun q => decide (q ≠ (a, b))))) (fun l hl => get_del hok.ends ha hb l hl)
  have e : (if (getOf p.cuts (wayK a b)).isSome then p.cuts.length - 1 else p.cuts.length) = (p.cuts.filter (fun q => decide (q ≠ (a, b)))).length := by
    rw [getOf_at hok.ends ha hb, filter_length hok.nodup]
    by_cases hc : (a, b) ∈ p.cuts <;> simp [hc]
  rw [e] at h2
  exact h2
theorem PStep.turned {w wx w6 : World} {g m : Nat} {p' : P8} {v r : Value} {S S1 : Nat → Prop} (h : PAt w6 g p' v (some m) S1) (hS : ∀ b, S1 b → S b ∨ w.heap.size ≤ b) (hk : Kept S w wx) (ht : wx.mapTurned w6 m) : PStep r g p' S w (.returned r) w6 :=
  ⟨rfl, S1, ⟨v, some m, h⟩, hS, hk.step (turned_kept ht) (fun b hb e => by
    rcases hS b (h.sm b (by rw [show b = m from e])) with h | h
    · exact h
    · omega)⟩
def cutR (p : P8) (a b : Int) : P8 × Int := if Sound8 a b then (cutP p a b, 0) else (p, 1)
def healR (p : P8) (a b : Int) : P8 × Int := if Sound8 a b then (healP p a b, 0) else (p, 1)
set_option maxHeartbeats 1600000 in
theorem cut_any (g : Nat) (p : P8) (S : Nat → Prop) (a b : Int) (w : World) (h : PostIs w g p S) : Calls Try.prog 17 #[.pointer (some ⟨g, 0, none⟩), .int .i64 a, .int .i64 b] w (PStep (.int .i64 (cutR p a b).2) g (cutR p a b).1 S w) := by
  have HP := Lib.hid h
  obtain ⟨v, mb, h⟩ := h
  obtain ⟨w1, hw1⟩ : ∃ w1, w1 = wayW w a b := ⟨_, rfl⟩
  have hb1 : Below w.heap.size w w1 := by rw [hw1]; exact wayW_below w a b
  have hr1 : w1.heap[w.heap.size]? = some (.cells #[.int .i64 a, .int .i64 b] tWay (0, 0)) := by rw [hw1]; exact wayW_row w a b
  obtain ⟨c0, c1⟩ := wcells hr1
  have q := ptrTest
  have q2 := mapTest
  have HA := Lib.hid h
  have HR1 := Lib.hid hr1
  have HB1 := Lib.hid hb1
  have HW1 := Lib.hid hw1
  have HS := Lib.hid (isSound_any a b w1)
  unfold wayW at HW1
  clear h hr1 hb1 hw1
  by_cases hs : Sound8 a b
  · rw [show cutR p a b = (cutP p a b, 0) from if_pos hs]
    have HSO := Lib.hid hs
    rw [decide_eq_true hs] at HS
    clear hs
    go_enter Try.func17, Try.ntmps17
    go_upto_region 2 with fail
    rw [← HW1.out]
    go_wp2_with fail
    refine HS.out.mono ?_
    rintro e w2 ⟨rfl, hb2⟩
    have HR2 := Lib.hid ((hb2.block _ (row_lt HR1.out)).trans HR1.out)
    have HB2 := Lib.hid (By.ext HB1.out hb2)
    have HA2 := Lib.hid (HA.out.below HB2.out)
    obtain ⟨-, p1, -⟩ := HA2.out.cells
    clear c0 c1 hb2 HS
    obtain ⟨c0, c1⟩ := wcells HR2.out
    cases mb with
    | some m =>
      obtain ⟨w6, hrun, hm6, ht6⟩ := MapIs.put (w := w2.drew) HA2.out.map wayLaw Try.underlying52 (by have := few_cuts HA.out.ok.nodup HA.out.ok.ends; unfold maxLen; omega) (val := unitV) (way_key HSO.out.1 HSO.out.2.1)
      have hrun2 : (Instr.mapUpdate tCutM (.map (some m)) (.agg #[.int .i64 a, .int .i64 b]) (.agg #[])).run Try.prog w2.drew = .ok () w6 := hrun
      have HM6 := Lib.hid hm6
      have HT6 := Lib.hid ht6
      clear hm6 ht6 hrun
      go_upto_region 6 with fail
      go_region
      all_goals
        go_wp2
        go_ret
        exact PStep.turned (wx := w2.drew) ((HA2.out.below (below_drewN (Below.refl _ _) 1)).turned HT6.out (cut_at HA.out.ok HSO.out.1 HSO.out.2.1 HM6.out) rfl rfl (cut_ok HA.out.ok HSO.out.1 HSO.out.2.1)) (fun b hb => .inl hb) (Kept.of_below HB2.out.drew) HT6.out
    | none =>
      have hcm : p.cuts = [] := HA2.out.map
      obtain ⟨w3, hw3⟩ : ∃ w3, w3 = (w2.alloc (.map #[] 0)).setCell ⟨g, 1, none⟩ (.map (some w2.heap.size)) := ⟨_, rfl⟩
      have hba : Below w2.heap.size w2 (w2.alloc (.map #[] 0)) := (Below.refl _ _).alloc (Nat.le_refl _) _
      have ha := HA2.out.below hba
      have hlg := HA2.out.glt
      obtain ⟨-, r1, -⟩ := ha.cells
      have f1 : (w2.alloc (.map #[] 0)).frozen? ⟨g, 1, none⟩ = false := frozen_of_row _ g 1 _ _ ha.row
      have hmm := run_makeMap (P := Try.prog)
      have hz3 : w3.heap.size = w2.heap.size + 1 := by rw [hw3]; simp [World.setCell]
      have ho3 : ∀ b, b ≠ g → w3.heap[b]? = (w2.alloc (.map #[] 0)).heap[b]? := fun b hb => by rw [hw3]; exact heap_setCell_other _ ⟨g, 1, none⟩ b _ hb
      have h3 : PAt w3 g p v (some w2.heap.size) (fun b => S b ∨ b = w2.heap.size) := by
        refine ⟨?_, ?_, ?_, .inl ha.sg, fun b hb => .inl (ha.sv b hb), fun b hb => .inr (Option.some.inj hb).symm, fun b hb => ?_, HA.out.ok⟩
        · rw [hw3]; exact heap_setCell_same _ g 1 _ _ _ ha.row
        · exact ownsRow_keep ha.own (fun b hb => ho3 b (fun e => ha.vg (by rw [hb, e])))
        · show MapIs _ _ _ _ _ _
          rw [hcm]
          exact (MapIs.made w2 Try.prog tWay).keep (ho3 _ (by omega))
        · rw [hz3]
          rcases hb with hb | hb
          · have := HA2.out.lt b hb; omega
          · omega
      have hk3 : Kept S w w3 := by
        rw [hw3]
        exact (Kept.of_below (HB2.out.trans (hba.mono HB2.out.size))).setCell (p := ⟨g, 1, none⟩) (fun _ => HA.out.sg) _
      obtain ⟨d0, d1⟩ := wcells ((ho3 _ (by have := row_lt HR1.out; have := HA.out.glt; omega)).trans ((hba.block _ (row_lt HR2.out)).trans HR2.out))
      obtain ⟨-, s1, -⟩ := h3.cells
      obtain ⟨w6, hrun, hm6, ht6⟩ := MapIs.put (w := w3.drew) h3.map wayLaw Try.underlying52 (by have := few_cuts HA.out.ok.nodup HA.out.ok.ends; unfold maxLen; omega) (val := unitV) (way_key HSO.out.1 HSO.out.2.1)
      have hrun2 : (Instr.mapUpdate tCutM (.map (some w2.heap.size)) (.agg #[.int .i64 a, .int .i64 b]) (.agg #[])).run Try.prog w3.drew = .ok () w6 := hrun
      have HM6 := Lib.hid hm6
      have HT6 := Lib.hid ht6
      have H3 := Lib.hid h3
      have HK3 := Lib.hid hk3
      have HW3 := Lib.hid hw3
      clear hm6 ht6 hrun h3 hk3 hw3 ho3 hz3 hba ha hlg hcm
      go_upto_region 6 with fail
      rw [← HW3.out]
      go_region
      all_goals
        go_wp2
        go_ret
        exact PStep.turned (wx := w3.drew) ((H3.out.below (below_drewN (Below.refl _ _) 1)).turned HT6.out (cut_at HA.out.ok HSO.out.1 HSO.out.2.1 HM6.out) rfl rfl (cut_ok HA.out.ok HSO.out.1 HSO.out.2.1)) (fun b hb => hb.imp id (fun e => by rw [e]; exact HB2.out.size)) ⟨HK3.out.os, HK3.out.tape, HK3.out.output, HK3.out.size, HK3.out.block⟩ HT6.out
  · rw [show cutR p a b = (p, 1) from if_neg hs]
    rw [decide_eq_false hs] at HS
    clear hs
    go_enter Try.func17, Try.ntmps17
    go_upto_region 2 with fail
    rw [← HW1.out]
    go_wp2_with fail
    refine HS.out.mono ?_
    rintro e w2 ⟨rfl, hb2⟩
    have HB2 := Lib.hid (By.ext HB1.out hb2)
    clear hb2 HS
    go_wp2
    go_ret
    exact pstep_same HP.out HB2.out
set_option maxHeartbeats 1600000 in
theorem heal_any (g : Nat) (p : P8) (S : Nat → Prop) (a b : Int) (w : World) (h : PostIs w g p S) : Calls Try.prog 18 #[.pointer (some ⟨g, 0, none⟩), .int .i64 a, .int .i64 b] w (PStep (.int .i64 (healR p a b).2) g (healR p a b).1 S w) := by
  have HP := Lib.hid h
  obtain ⟨v, mb, h⟩ := h
  obtain ⟨w1, hw1⟩ : ∃ w1, w1 = wayW w a b := ⟨_, rfl⟩
  have hb1 : Below w.heap.size w w1 := by rw [hw1]; exact wayW_below w a b
  have hr1 : w1.heap[w.heap.size]? = some (.cells #[.int .i64 a, .int .i64 b] tWay (0, 0)) := by rw [hw1]; exact wayW_row w a b
  obtain ⟨c0, c1⟩ := wcells hr1
  have q := ptrTest
  have HA := Lib.hid h
  have HR1 := Lib.hid hr1
  have HB1 := Lib.hid hb1
  have HW1 := Lib.hid hw1
  have HS := Lib.hid (isSound_any a b w1)
  unfold wayW at HW1
  clear h hr1 hb1 hw1
  by_cases hs : Sound8 a b
  · rw [show healR p a b = (healP p a b, 0) from if_pos hs]
    have HSO := Lib.hid hs
    rw [decide_eq_true hs] at HS
    clear hs
    go_enter Try.func18, Try.ntmps18
    go_upto_region 2 with fail
    rw [← HW1.out]
    go_wp2_with fail
    refine HS.out.mono ?_
    rintro e w2 ⟨rfl, hb2⟩
    have HR2 := Lib.hid ((hb2.block _ (row_lt HR1.out)).trans HR1.out)
    have HB2 := Lib.hid (By.ext HB1.out hb2)
    have HA2 := Lib.hid (HA.out.below HB2.out)
    obtain ⟨-, p1, -⟩ := HA2.out.cells
    clear c0 c1 hb2 HS
    obtain ⟨c0, c1⟩ := wcells HR2.out
    have HKY := Lib.hid (way_key HSO.out.1 HSO.out.2.1)
    cases mb with
    | some m =>
      have HMP := Lib.hid (show MapIs Try.prog tWay w2.drew m (getOf p.cuts) p.cuts.length from HA2.out.map)
      go_upto_region 4 with fail
      go_region_law (refine step_del rfl (.tmp 21) (.tmp 22) _ tWay rfl 61 wayLaw Try.underlying52 m p.cuts.length (getOf p.cuts) rfl HMP.out (wayV a b) _ rfl HKY.out ?_; intro w6 hm6 ht6
                     have HM6 := Lib.hid hm6
                     have HT6 := Lib.hid ht6
                     clear hm6 ht6)
      all_goals
        go_wp2
        go_ret
        exact PStep.turned (wx := w2.drew) ((HA2.out.below (below_drewN (Below.refl _ _) 1)).turned HT6.out (heal_at HA.out.ok HSO.out.1 HSO.out.2.1 HM6.out) rfl rfl (heal_ok HA.out.ok a b)) (fun b hb => .inl hb) (Kept.of_below HB2.out.drew) HT6.out
    | none =>
      have hcm : p.cuts = [] := HA2.out.map
      have HSAME := Lib.hid (show healP p a b = p by
        obtain ⟨l, cs, rm⟩ := p
        have hcm : cs = [] := hcm
        subst hcm; rfl)
      clear hcm
      go_upto_region 4 with fail
      go_region_law (refine step_del0 rfl (.tmp 21) (.tmp 22) _ tWay rfl 61 wayLaw Try.underlying52 rfl (wayV a b) _ rfl HKY.out ?_)
      all_goals
        go_wp2
        go_ret
        rw [HSAME.out]
        exact pstep_same HP.out HB2.out.drew
  · rw [show healR p a b = (p, 1) from if_neg hs]
    rw [decide_eq_false hs] at HS
    clear hs
    go_enter Try.func18, Try.ntmps18
    go_upto_region 2 with fail
    rw [← HW1.out]
    go_wp2_with fail
    refine HS.out.mono ?_
    rintro e w2 ⟨rfl, hb2⟩
    have HB2 := Lib.hid (By.ext HB1.out hb2)
    clear hb2 HS
    go_wp2
    go_ret
    exact pstep_same HP.out HB2.out
end Go.Proofs.Ytenaecpmmbigdaa.Po
