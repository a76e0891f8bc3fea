/- The reference's Cut and Send as contracts of calls. -/
import Derived.Test.YtenaecpmmbigdaaPoK
namespace Go.Proofs.Ytenaecpmmbigdaa.Po
open Go.RowKit Go.Maps By Mp

/-- The place of a cut way, or -1. -/
def AtCut (cuts : List (Int × Int)) (q : Int × Int) (z : Int) : Prop := (z = -1 ∧ q ∉ cuts) ∨ ∃ k : Nat, z = k ∧ cuts[k]? = some q ∧ k < 1089
def RCutPost (cuts : List (Int × Int)) (q : Int × Int) (w : World) (e : Ending) (w' : World) : Prop := ∃ z, e = .returned (.int .i64 z) ∧ AtCut cuts q z ∧ w' = w
set_option maxHeartbeats 1600000 in
theorem rcut_any (g : Nat) (p : P8) (S : Nat → Prop) (a b : Int) (w : World) (h : RefIs w g p S) : Calls Try.prog 25 #[.pointer (some ⟨g, 0, none⟩), .int .i64 a, .int .i64 b] w (RCutPost p.cuts (a, b) w) := by
  obtain ⟨lv, cv, dv, h⟩ := h
  obtain ⟨A, c, hv⟩ := ownsRow_form h.cuts
  obtain ⟨c0, c1, c2⟩ := h.cells
  have hfew := few_cuts h.ok.nodup h.ok.ends
  have hpt := pairTest
  have H := Lib.hid h
  have HF := Lib.hid hfew
  have hn : (p.cuts.length : Int) ≤ 1089 := by omega
  clear h hfew
  subst hv
  go_enter Try.func25, Try.ntmps25
  go_wp2
  go_loop [7] (fun i => ∃ k : Nat, k ≤ p.cuts.length ∧ i = .int .i64 (k : Int) ∧ (a, b) ∉ p.cuts.take k) (fun i => p.cuts.length - (intOf i).toNat)
  case atStart => exact ⟨0, Nat.zero_le _, rfl, by simp⟩
  case round =>
    obtain ⟨k, hk, rfl, hall⟩ := hrel
    have HALL := Lib.hid hall
    clear hall
    by_cases hlt : k < p.cuts.length
    · obtain ⟨x, hx⟩ : ∃ x, p.cuts[k]? = some x := ⟨_, List.getElem?_eq_getElem hlt⟩
      obtain ⟨ub, cap, hv, -, -⟩ := World.ownsRow.form H.out.cuts (by omega)
      simp only [Value.slice.injEq, true_and] at hv
      obtain ⟨rfl, rfl⟩ := hv
      obtain ⟨e1, e2⟩ := pRow_at hx
      have d1 := World.ownsRow.cells H.out.cuts (g := ub) rfl _ _ e1
      have d2 := World.ownsRow.cells H.out.cuts (g := ub) rfl _ _ e2
      rw [plainAdd, Nat.zero_add] at d1 d2
      have HX := Lib.hid hx
      clear hx e1 e2
      obtain ⟨x1, x2⟩ := x
      by_cases hb : (x1, x2) = (a, b)
      · have hq := fun w' => (show (binOp .eql tPair (.agg #[.int .i64 x1, .int .i64 x2]) (.agg #[.int .i64 a, .int .i64 b])).run Try.prog w' = .ok (.bool true) w' from by rw [pairTest, decide_eq_true hb])
        have HB := Lib.hid hb
        clear hb hpt
        go_wp2
        go_ret
        exact ⟨(k : Int), rfl, .inr ⟨k, rfl, HX.out.trans (congrArg some HB.out), by have := HF.out; omega⟩, rfl⟩
      · have hq := fun w' => (show (binOp .eql tPair (.agg #[.int .i64 x1, .int .i64 x2]) (.agg #[.int .i64 a, .int .i64 b])).run Try.prog w' = .ok (.bool false) w' from by rw [pairTest, decide_eq_false hb])
        have HN := Lib.hid (show (a, b) ∉ p.cuts.take (k + 1) from fun hm => by
          rw [List.take_succ_eq_append_getElem hlt] at hm
          rcases List.mem_append.1 hm with hm | hm
          · exact HALL.out hm
          · have h2 := HX.out
            rw [List.getElem?_eq_getElem hlt] at h2
            injection h2 with h2
            rw [h2] at hm
            exact hb (List.mem_singleton.1 hm).symm)
        clear hb hpt
        go_wp2
        go_round
        case rel => exact ⟨k + 1, by omega, by go_num, HN.out⟩
        case measure => simp [intOf]; omega
    · have hke : k = p.cuts.length := by omega
      have HN := Lib.hid (show (a, b) ∉ p.cuts by have := HALL.out; rwa [hke, List.take_length] at this)
      clear hke
      go_wp2
      go_ret
      exact ⟨-1, rfl, .inl ⟨rfl, HN.out⟩, rfl⟩
/-- A letter more on the reference's way. -/
theorem rstep_add {w w3 wb w6 : World} {g : Nat} {p : P8} {lv cv v5 : Value} {dv : List Value} {S : Nat → Prop} {x : L8} {A6 : Option Addr} {c6 n : Nat} {r : Value} (hx : LOk x) (hf : (p.l.length : Int) < p.room) (h3 : RAt w3 g p lv cv dv S) (hb3 : Below w.heap.size w w3) (hlt : ∀ b, S b → b < w.heap.size) (hbb : Below w3.heap.size w3 wb)
    (hd : Own 0 wb v5 x.d) (hdb : ∀ b, v5.ownBlock = some b → S b ∨ w.heap.size ≤ b)
    (ho : w6.ownsRow 0 tRL 3 (.slice A6 n c6) n (rRow p.l dv ++ rC x v5)) (hn : n = p.l.length + 1) (hg : wb.grownBy w6 lv.ownBlock) (hv : ∀ b, (Value.slice A6 n c6).ownBlock = some b → lv.ownBlock = some b ∨ wb.heap.size ≤ b) (hr6 : w6.heap[g]? = some (.cells #[.int .i64 p.room, lv, cv] tRP (0, 0))) :
    RStep r g { p with l := p.l ++ [x] } S w (.returned r) (w6.setCell ⟨g, 1, none⟩ (.slice A6 n c6)) := by
  subst hn
  have hz3 := hb3.size
  have hzb := hbb.size
  have hz6 := hg.size
  have hs : (w6.setCell ⟨g, 1, none⟩ (.slice A6 (p.l.length + 1) c6)).heap.size = w6.heap.size := by simp [World.setCell]
  have hgo : ∀ b, b ≠ g → (w6.setCell ⟨g, 1, none⟩ (.slice A6 (p.l.length + 1) c6)).heap[b]? = w6.heap[b]? := fun b hb => heap_setCell_other w6 ⟨g, 1, none⟩ b _ hb
  have hgl := row_lt h3.row
  have hgl0 := hlt g h3.sg
  have hlg : lv.ownBlock ≠ some g := row_apart h3.list h3.row tRP_neL
  have hne : ∀ b, (Value.slice A6 (p.l.length + 1) c6).ownBlock = some b → b ≠ g := fun b hb e => by
    subst e
    rcases hv b hb with h | h
    · exact hlg h
    · omega
  have h6 : ∀ b, b < wb.heap.size → lv.ownBlock ≠ some b → b ≠ g → (w6.setCell ⟨g, 1, none⟩ (.slice A6 (p.l.length + 1) c6)).heap[b]? = wb.heap[b]? := fun b hb hne hbg => (hgo b hbg).trans (hg.block b hb (fun e => hne e.symm))
  have hlb := h3.list
  have hlwb : wb.ownsRow 0 tRL 3 lv p.l.length (rRow p.l dv) := ownsRow_keep hlb (fun b hb => hbb.block b (ownsRow_lt hlb hb).2)
  have hrwb : wb.heap[g]? = some (.cells #[.int .i64 p.room, lv, cv] tRP (0, 0)) := (hbb.block g hgl).trans h3.row
  refine ⟨rfl, fun b => S b ∨ (w.heap.size ≤ b ∧ b < w6.heap.size), ⟨.slice A6 (p.l.length + 1) c6, cv, dv ++ [v5], ⟨heap_setCell_same w6 g 1 _ _ _ hr6, ?_, by simp [h3.len], fun k y v h1 h2 => ?_, ?_, .inl h3.sg, fun b hb => ?_, fun b hb => .inl (h3.sc b hb), fun b hb => ?_, ⟨h3.ok.room, ?_, fun y hy => ?_, h3.ok.nodup, h3.ok.ends⟩⟩⟩, fun b hb => hb.imp id And.left, ⟨?_, ?_, ?_, ?_, ?_⟩⟩
  · have := ownsRow_keep ho (fun b hb => hgo b (hne b hb))
    show World.ownsRow _ 0 tRL 3 _ (p.l ++ [x]).length (rRow (p.l ++ [x]) (dv ++ [v5]))
    rw [List.length_append, rRow_app _ _ _ _ h3.len]
    simpa [rRow] using this
  · have hcase : Own 0 wb v y.d ∧ (∀ b, v.ownBlock = some b → S b ∨ (w.heap.size ≤ b)) := by
      rcases Nat.lt_or_ge k p.l.length with hk | hk
      · rw [List.getElem?_append_left hk] at h1
        rw [List.getElem?_append_left (by rw [h3.len]; exact hk)] at h2
        obtain ⟨q1, q2⟩ := h3.data k y v h1 h2
        exact ⟨ownsRow_keep q1 (fun b hb => hbb.block b (ownsRow_lt q1 hb).2), fun b hb => .inl (q2 b hb)⟩
      · rw [List.getElem?_append_right hk] at h1
        rw [List.getElem?_append_right (by rw [h3.len]; exact hk), h3.len] at h2
        have hk0 : k - p.l.length = 0 := by
          have := (List.getElem?_eq_some_iff.1 h1).1
          simp at this
          omega
        rw [hk0] at h1 h2
        simp only [List.getElem?_cons_zero, Option.some.injEq] at h1 h2
        subst h1 h2
        exact ⟨hd, hdb⟩
    obtain ⟨q1, q2⟩ := hcase
    have hvl : ∀ b, v.ownBlock = some b → b < wb.heap.size := fun b hb => (ownsRow_lt q1 hb).2
    refine ⟨ownsRow_keep q1 (fun b hb => h6 b (hvl b hb) (fun e => rows_apart hlwb q1 tRL_ne8 e hb) (fun e => row_apart q1 hrwb tRP_ne8 (by rw [← e]; exact hb))), fun b hb => ?_⟩
    have := hvl b hb
    rcases q2 b hb with h | h
    · exact .inl h
    · exact .inr ⟨h, by omega⟩
  · exact ownsRow_keep h3.cuts (fun b hb => (h6 b (by have := (ownsRow_lt h3.cuts hb).2; omega) (fun e => rows_apart hlb h3.cuts tRL_neP e hb) (fun e => row_apart h3.cuts h3.row tRP_neP (by rw [← e]; exact hb))).trans (hbb.block b (ownsRow_lt h3.cuts hb).2))
  · rcases hv b hb with h | h
    · exact .inl (h3.sl b h)
    · exact .inr ⟨by omega, (ownsRow_lt ho hb).2⟩
  · rw [hs]
    rcases hb with hb | hb
    · have := hlt b hb; omega
    · exact hb.2
  · show ((p.l ++ [x]).length : Int) ≤ p.room
    simp; omega
  · rcases List.mem_append.1 hy with hy | hy
    · exact h3.ok.lets y hy
    · rw [List.mem_singleton.1 hy]; exact hx
  · exact hg.os.trans (hbb.os.trans hb3.os)
  · exact hg.tape.trans (hbb.tape.trans hb3.tape)
  · exact hg.output.trans (hbb.output.trans hb3.output)
  · rw [hs]; omega
  · intro b hb hn
    exact ((h6 b (by omega) (fun e => hn (h3.sl b e)) (fun e => hn (e ▸ h3.sg))).trans (hbb.block b (by omega))).trans (hb3.block b hb)
theorem step_appB {ops : Array Oper} {o : Oper} {a : Act} {w : World} {K : Act → World → Prop} {Q : Exit → Act → World → Prop} {E : Prop}
    (hgd : o.guard = none) (s x : Operand) (hop : o.op = .call { callee := .builtin .append, args := #[s, x], argTypes := #[33, 33] })
    {base : Nat} {v : Value} {l : List UInt8} (hs : a.eval s = v) (hown : Own base w v l) {B : Nat} {A : Option Addr} {m c : Nat} {l2 : List UInt8} (hx : a.eval x = .slice A m c) (hm : m = l2.length) (hr : Lies w B A l2)
    (hsz : l.length + l2.length ≤ 140737488355328) (hbase : base ≤ w.heap.size)
    (hK : ∀ v' w', Own base w' v' (l ++ l2) → Below base w w' → w.grownBy w' v.ownBlock → K (a.put o.dst v') w') :
    if Region.wanted o (yielded ops a.tmps) = true then Oper.wp Try.prog o a w K Q else E := by
  have hw : Region.wanted o (yielded ops a.tmps) = true := by simp [Region.wanted, hgd]
  rw [if_pos hw]
  obtain ⟨v', w', hrun, h2, h3, h4⟩ := run_app hown hm hr hsz hbase o.type
  exact wp_app_run s x _ hop hs hx hrun (hK _ _ h2 h3 h4)
theorem fresh_cells (w : World) (cs : List Value) (t : TypeId) : 0 < 1 → ∃ q, (some (⟨w.heap.size, 0, none⟩ : Addr)) = some q ∧ ∀ j u, cs[j]? = some u → (w.alloc (.cells cs.toArray t)).cell? (q.add j) = some u := fun _ => ⟨_, rfl, fun j u hu => by
  rw [plainAdd, Nat.zero_add]
  refine Eq.trans (cell_of_row (w.alloc (.cells cs.toArray t)) _ j _ _ _ (heap_alloc_new w _)) ?_
  simpa using hu⟩
theorem rC_one (x : L8) (A : Option Addr) (n c : Nat) : ∀ u ∈ rC x (.slice A n c), u.oneCell' = true := by
  intro u hu
  simp only [rC, List.mem_cons, List.not_mem_nil, or_false] at hu
  rcases hu with rfl | rfl | rfl <;> rfl
set_option maxHeartbeats 3200000 in
theorem rsend_any (g : Nat) (p : P8) (S : Nat → Prop) (a b : Int) (A : Option Addr) (n c : Nat) (d : Bs) (w : World) (h : RefIs w g p S) (hn : n = d.length) (hA : Lies w w.heap.size A d) :
    Calls Try.prog 23 #[.pointer (some ⟨g, 0, none⟩), .int .i64 a, .int .i64 b, .slice A n c] w (RStep (.int .i64 (sendR p a b d).2) g (sendR p a b d).1 S w) := by
  obtain ⟨r, hr⟩ : ∃ r, r = sendR p a b d := ⟨_, rfl⟩
  rw [← hr]
  unfold sendR at hr
  have HP := Lib.hid h
  have HN := Lib.hid hn
  have HLA := Lib.hid hA
  have HEA := Lib.hid (rEnd_any a w)
  clear h hn hA
  by_cases ha : End8 a
  · rw [decide_eq_true ha] at HEA
    by_cases hb : End8 b
    · by_cases hab : a = b
      · rw [if_pos (fun h : Sound8 a b => h.2.2 hab)] at hr
        have HRES := Lib.hid hr
        have hq : (a == b) = true := beq_iff_eq.2 hab
        clear hab hr
        go_enter Try.func23, Try.ntmps23
        go_wp2_with fail
        refine HEA.out.mono ?_
        rintro e w1 ⟨rfl, hb1⟩
        have HEB := Lib.hid (rEnd_any b w1)
        rw [decide_eq_true hb] at HEB
        have HB1 := Lib.hid hb1
        clear hb1 HEA
        go_wp2_with fail
        refine HEB.out.mono ?_
        rintro e w2 ⟨rfl, hb2⟩
        have HB2 := Lib.hid (By.ext HB1.out hb2)
        clear hb2 HEB
        go_wp2
        go_ret
        rw [HRES.out]
        exact rstep_same HP.out HB2.out
      · have HSO := Lib.hid (show Sound8 a b from ⟨ha, hb, hab⟩)
        rw [if_neg (fun e => e HSO.out)] at hr
        have HRES := Lib.hid hr
        have hq : (a == b) = false := beq_eq_false_iff_ne.2 hab
        clear hab hr
        go_enter Try.func23, Try.ntmps23
        go_wp2_with fail
        refine HEA.out.mono ?_
        rintro e w1 ⟨rfl, hb1⟩
        have HEB := Lib.hid (rEnd_any b w1)
        rw [decide_eq_true hb] at HEB
        have HB1 := Lib.hid hb1
        clear hb1 HEA
        go_wp2_with fail
        refine HEB.out.mono ?_
        rintro e w2 ⟨rfl, hb2⟩
        have HB2 := Lib.hid (By.ext HB1.out hb2)
        clear hb2 HEB
        by_cases hl : 65536 < d.length
        · have hli : (65536 : Int) < (n : Int) := by have := HN.out; omega
          have HRES2 := Lib.hid (HRES.out.trans (if_pos hl))
          clear hl
          go_wp2
          go_ret
          rw [HRES2.out]
          exact rstep_same HP.out HB2.out
        · have hli : ¬ (65536 : Int) < (n : Int) := by have := HN.out; omega
          have HRES2 := Lib.hid (HRES.out.trans (if_neg hl))
          have HDL := Lib.hid (Nat.le_of_not_lt hl)
          have HC := Lib.hid (rcut_any g p S a b w2 (HP.out.below HB2.out))
          clear hl
          go_wp2_with fail
          refine HC.out.mono ?_
          rintro e w3 ⟨z, rfl, hz, rfl⟩
          by_cases hc : (a, b) ∈ p.cuts
          · have HRES3 := Lib.hid (HRES2.out.trans (if_pos hc))
            have hz0 : 0 ≤ z := by
              rcases hz with ⟨_, h⟩ | ⟨k, h, _⟩
              · exact absurd hc h
              · omega
            clear hc hz
            go_wp2
            go_ret
            rw [HRES3.out]
            exact rstep_same HP.out HB2.out
          · have HRES3 := Lib.hid (HRES2.out.trans (if_neg hc))
            have hz0 : ¬ 0 ≤ z := by
              rcases hz with ⟨h, _⟩ | ⟨k, _, h, _⟩
              · omega
              · exact absurd (List.mem_of_getElem? h) hc
            obtain ⟨lv, cv, dv, hh⟩ := HP.out
            have hh2 := hh.below HB2.out
            obtain ⟨c0, c1, c2⟩ := hh2.cells
            obtain ⟨Al, cl, hlv⟩ := ownsRow_form hh.list
            rw [hlv] at c1
            have HH := Lib.hid hh
            have HH2 := Lib.hid hh2
            have HLV := Lib.hid hlv
            clear hc hz hh hh2 hlv HC
            by_cases hf : p.room ≤ (p.l.length : Int)
            · have HRES4 := Lib.hid (HRES3.out.trans (if_pos hf))
              go_upto_region 7 with fail
              go_quiet (fail)
              go_wp2
              go_ret
              rw [HRES4.out]
              exact rstep_same HP.out (below_drewN HB2.out _)
            · have HRES4 := Lib.hid (HRES3.out.trans (if_neg hf))
              have hf2 : (p.l.length : Int) < p.room := by omega
              have HF := Lib.hid hf2
              clear hf
              go_upto_region 7 with fail
              go_quiet (fail)
              go_upto_region 9 with fail
              obtain ⟨w4, hw4⟩ : ∃ w4, w4 = w3.drewN nq := ⟨_, rfl⟩
              have hb4 : Below w3.heap.size w3 w4 := by rw [hw4]; exact below_drewN (Below.refl _ _) _
              have h4 := HH2.out.below hb4
              have HB4 := Lib.hid (By.ext HB2.out hb4)
              rw [← hw4]
              obtain ⟨c0, c1, c2⟩ := h4.cells
              rw [HLV.out] at c1
              have hba : Below w4.heap.size w4 (w4.alloc (.cells #[] 5)).drew := ((Below.refl _ _).alloc (Nat.le_refl _) _).drew
              obtain ⟨-, d1, -⟩ := (h4.below hba).cells
              rw [HLV.out] at d1
              have HH4 := Lib.hid h4
              have HBA := Lib.hid hba
              have HOWN := Lib.hid (show Own w4.heap.size (w4.alloc (.cells #[] 5)).drew (.slice (some ⟨w4.heap.size, 0, none⟩) 0 0) [] from Own.made w4 w4.heap.size #[] 0 (Nat.le_refl _) (by decide) rfl)
              have HLD := Lib.hid (show Lies (w4.alloc (.cells #[] 5)).drew (w4.alloc (.cells #[] 5)).drew.heap.size A d from (HLA.out.below (HB4.out.trans (hba.mono HB4.out.size))).more (Nat.le_trans HB4.out.size hba.size))
              have HGL := Lib.hid (row_lt h4.row)
              clear hw4 hb4 h4 hba
              go_region_law (first
                | (refine step_appB rfl (.tmp 47) (.tmp 48) rfl (v := .slice (some ⟨w4.heap.size, 0, none⟩) 0 0) (by simp [Act.eval]) HOWN.out (A := A) (m := n) (c := c) (by simp [Act.eval]) HN.out HLD.out (by have := HDL.out; show 0 + d.length ≤ _; omega) HBA.out.size ?_
                   intro v5 w5 ho5 hb5 hg5
                   rw [List.nil_append] at ho5
                   obtain ⟨A5, c5, hv5, -⟩ := ho5.form
                   subst hv5
                   have hbb : Below w4.heap.size w4 w5 := HBA.out.trans hb5
                   have hbc : Below w4.heap.size w4 (w5.alloc (.cells #[.int .i64 a, .int .i64 b, .slice A5 d.length c5] tRL)) := hbb.alloc hbb.size _
                   obtain ⟨-, e1, -⟩ := (HH4.out.below hbb).cells
                   rw [HLV.out] at e1
                   have hc5 := HH4.out.below hbc
                   obtain ⟨-, i1, -⟩ := hc5.cells
                   rw [HLV.out] at i1
                   have HOW := Lib.hid hc5.list
                   have HRA := Lib.hid hc5.row
                   have HBC := Lib.hid hbc
                   have HO5 := Lib.hid ho5
                   have HNC := Lib.hid (fresh_cells w5 (rC ⟨a, b, d⟩ (.slice A5 d.length c5)) tRL)
                   have HN1 := Lib.hid (rC_one ⟨a, b, d⟩ A5 d.length c5)
                   have HNN := Lib.hid (show p.l.length + 1 ≤ 1073741824 by have := HH4.out.ok.few; have := HH4.out.ok.room.2; omega)
                   have HVG := Lib.hid (row_apart HH4.out.list HH4.out.row tRP_neL)
                   clear ho5 hb5 hg5 hbb hbc hc5)
                | (refine step_appG Try.underlying28 rletInfo rfl (by decide) (by decide) rfl (.tmp 44) (.tmp 51) rfl 0 (.slice Al p.l.length cl) p.l.length (rRow p.l dv) rfl (HLV.out ▸ HOW.out) (some ⟨w5.heap.size, 0, none⟩) 1 1 rfl (rC ⟨a, b, d⟩ (.slice A5 d.length c5)) rfl HNC.out HN1.out HNN.out (Nat.zero_le _) ?_
                   intro v6 w6 ho6 hg6 hv6
                   obtain ⟨A6, c6, rfl⟩ := ownsRow_form ho6
                   rw [← HLV.out] at hg6 hv6
                   have hr6 := (hg6.block g (row_lt HRA.out) (fun e => HVG.out e.symm)).trans HRA.out
                   have hc6 : w6.cell? ⟨g, 1, none⟩ = some lv := by rw [cell_of_row w6 g 1 _ _ _ hr6]; rfl
                   have hf6 : w6.frozen? ⟨g, 1, none⟩ = false := frozen_of_row w6 g 1 _ _ hr6
                   have HO6 := Lib.hid ho6
                   have HG6 := Lib.hid hg6
                   have HV6 := Lib.hid hv6
                   have HR6 := Lib.hid hr6
                   clear ho6 hg6 hv6 hr6))
              all_goals
                go_wp2
                go_ret
                rw [HRES4.out]
                exact rstep_add (x := ⟨a, b, d⟩) ⟨HSO.out.1, HSO.out.2.1, HDL.out⟩ HF.out HH4.out HB4.out HH.out.lt HBC.out ((By.Own.more HO5.out (Nat.zero_le _)).alloc _) (fun b hb => .inr (Nat.le_trans HB4.out.size (ownsRow_lt HO5.out hb).1)) HO6.out rfl HG6.out HV6.out HR6.out
    · rw [if_pos (fun h : Sound8 a b => hb h.2.1)] at hr
      have HRES := Lib.hid hr
      clear hr
      go_enter Try.func23, Try.ntmps23
      go_wp2_with fail
      refine HEA.out.mono ?_
      rintro e w1 ⟨rfl, hb1⟩
      have HEB := Lib.hid (rEnd_any b w1)
      rw [decide_eq_false hb] at HEB
      have HB1 := Lib.hid hb1
      clear hb1 HEA
      go_wp2_with fail
      refine HEB.out.mono ?_
      rintro e w2 ⟨rfl, hb2⟩
      have HB2 := Lib.hid (By.ext HB1.out hb2)
      clear hb2 HEB
      go_wp2
      go_ret
      rw [HRES.out]
      exact rstep_same HP.out HB2.out
  · rw [if_pos (fun h : Sound8 a b => ha h.1)] at hr
    rw [decide_eq_false ha] at HEA
    have HRES := Lib.hid hr
    clear hr
    go_enter Try.func23, Try.ntmps23
    go_wp2_with fail
    refine HEA.out.mono ?_
    rintro e w1 ⟨rfl, hb1⟩
    have HB1 := Lib.hid hb1
    clear hb1 HEA
    go_wp2
    go_ret
    rw [HRES.out]
    exact rstep_same HP.out HB1.out
end Go.Proofs.Ytenaecpmmbigdaa.Po
