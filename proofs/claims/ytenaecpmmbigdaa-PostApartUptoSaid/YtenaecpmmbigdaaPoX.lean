/- The law PostOrder, walked. -/
import Derived.Test.YtenaecpmmbigdaaPoW
namespace Go.Proofs.Ytenaecpmmbigdaa.Po
open Go.RowKit Go.Maps By Mp

theorem actInfo : (Try.prog.info? tAct).map (fun i => (i.zero, i.size, i.bytes)) = some (some (.agg #[.int .i64 0, .int .i64 0, .int .i64 0, .slice none 0 0]), 4, 48) := by kernel_rfl
def aRow : List A8 → List AC → List Value
  | x :: l, a :: ac => aCells x a ++ aRow l ac
  | _, _ => []
theorem aRow_at : ∀ {l : List A8} {ac : List AC} {k : Nat} {x : A8} {a : AC} {j : Nat} {u : Value}, l[k]? = some x → ac[k]? = some a → (aCells x a)[j]? = some u → (aRow l ac)[k * 4 + j]? = some u
  | [], _, _, _, _, _, _, h, _, _ => by cases h
  | _ :: _, [], _, _, _, _, _, _, h, _ => by cases h
  | y :: l, b :: ac, 0, x, a, j, u, h, h2, h3 => by
    simp only [List.getElem?_cons_zero, Option.some.injEq] at h h2
    subst h h2
    show (aCells y b ++ aRow l ac)[0 * 4 + j]? = some u
    have hj := (List.getElem?_eq_some_iff.1 h3).1
    rw [Nat.zero_mul, Nat.zero_add, List.getElem?_append_left hj]
    exact h3
  | y :: l, b :: ac, k + 1, x, a, j, u, h, h2, h3 => by
    have ih := aRow_at (l := l) (ac := ac) (k := k) (by simpa using h) (by simpa using h2) h3
    show (aCells y b ++ aRow l ac)[(k + 1) * 4 + j]? = some u
    rw [show (k + 1) * 4 + j = (aCells y b).length + (k * 4 + j) by show _ = 4 + _; omega, List.getElem?_append_right (by omega), Nat.add_sub_cancel_left]
    exact ih
theorem aRow_snoc (x : A8) (a : AC) : ∀ {l : List A8} {ac : List AC}, ac.length = l.length → aRow (l ++ [x]) (ac ++ [a]) = aRow l ac ++ aCells x a
  | [], [], _ => by simp [aRow]
  | [], _ :: _, h => by simp at h
  | _ :: _, [], h => by simp at h
  | y :: l, b :: ac, h => by
    show aCells y b ++ aRow (l ++ [x]) (ac ++ [a]) = (aCells y b ++ aRow l ac) ++ aCells x a
    rw [aRow_snoc x a (by simpa using h), List.append_assoc]
def toL (x : A8) : L8 := ⟨x.a, x.b, x.d⟩
/-- What was sent, in a slice of the call's own. -/
structure SentAt (w : World) (S : Nat → Prop) (wr : World) (v : Value) (ss : List A8) (acs : List AC) : Prop where
  own : wr.ownsRow w.heap.size tAct 4 v ss.length (aRow ss acs)
  len : acs.length = ss.length
  far : ∀ b, v.ownBlock = some b → ¬ S b
  data : ∀ (k : Nat) x a, ss[k]? = some x → acs[k]? = some a → Lies w w.heap.size a.1 x.d
theorem SentAt.step {w wr w2 : World} {S S2 : Nat → Prop} {v : Value} {ss : List A8} {acs : List AC} (h : SentAt w S wr v ss acs) (hk : Kept S wr w2) (hs : ∀ b, S2 b → S b ∨ wr.heap.size ≤ b) : SentAt w S2 w2 v ss acs :=
  ⟨ownsRow_keep h.own (fun b hb => hk.block b (ownsRow_lt h.own hb).2 (h.far b hb)), h.len, fun b hb e => by
    rcases hs b e with e | e
    · exact h.far b hb e
    · have := (ownsRow_lt h.own hb).2; omega, h.data⟩
theorem SentAt.below {w wr w2 : World} {S : Nat → Prop} {v : Value} {ss : List A8} {acs : List AC} (h : SentAt w S wr v ss acs) (hb : Below wr.heap.size wr w2) : SentAt w S w2 v ss acs := h.step (Kept.of_below hb) (fun _ e => .inl e)
theorem SentAt.nil (w wr : World) (S : Nat → Prop) : SentAt w S wr (.slice none 0 0) [] [] := ⟨World.ownsRow_nil _ _ _ _, rfl, fun b h => (by cases h), fun k x a h _ => (by cases h)⟩
/-- The cells of the k-th that was sent. -/
theorem SentAt.at_ {w wr : World} {S : Nat → Prop} {v : Value} {ss : List A8} {acs : List AC} (h : SentAt w S wr v ss acs) {k : Nat} {x : A8} (hx : ss[k]? = some x) :
    ∃ b c Ax cx, v = .slice (some ⟨b, 0, none⟩) ss.length c ∧ wr.cell? ⟨b, k * 4 + 1, none⟩ = some (.int .i64 x.a) ∧ wr.cell? ⟨b, k * 4 + 2, none⟩ = some (.int .i64 x.b) ∧ wr.cell? ⟨b, k * 4 + 3, none⟩ = some (.slice Ax x.d.length cx) ∧ Lies w w.heap.size Ax x.d := by
  have hk := (List.getElem?_eq_some_iff.1 hx).1
  obtain ⟨b, c, hv, h1, h2⟩ := World.ownsRow.form h.own (by omega)
  obtain ⟨a, ha⟩ : ∃ a, acs[k]? = some a := ⟨_, List.getElem?_eq_getElem (by rw [h.len]; exact hk)⟩
  have hc := fun j u (hu : (aCells x a)[j]? = some u) => World.ownsRow.cells h.own (g := b) (by rw [hv]; rfl) _ u (aRow_at hx ha hu)
  refine ⟨b, c, a.1, a.2, hv, ?_, ?_, ?_, h.data k x a hx ha⟩
  · have := hc 1 _ rfl; rwa [plainAdd, Nat.zero_add] at this
  · have := hc 2 _ rfl; rwa [plainAdd, Nat.zero_add] at this
  · have := hc 3 _ rfl; rwa [plainAdd, Nat.zero_add] at this
theorem SentAt.push {w wr wa w2 : World} {S : Nat → Prop} {v v2 : Value} {ss : List A8} {acs : List AC} {x : A8} {Ax : Option Addr} {cx n2 : Nat} (h : SentAt w S wr v ss acs) (hba : Below wr.heap.size wr wa) (ho : w2.ownsRow w.heap.size tAct 4 v2 n2 (aRow ss acs ++ aCells x (Ax, cx))) (hn : n2 = ss.length + 1) (hv : ∀ b, v2.ownBlock = some b → v.ownBlock = some b ∨ wa.heap.size ≤ b) (hx : Lies w w.heap.size Ax x.d) (hs : ∀ b, S b → b < wr.heap.size) :
    SentAt w S w2 v2 (ss ++ [x]) (acs ++ [(Ax, cx)]) := by
  subst hn
  refine ⟨?_, by simp [h.len], fun b hb e => ?_, fun k y a h1 h2 => ?_⟩
  · rw [List.length_append, aRow_snoc _ _ h.len]; exact ho
  · rcases hv b hb with e2 | e2
    · exact h.far b e2 e
    · have := hs b e; have := hba.size; omega
  · rcases Nat.lt_or_ge k ss.length with hk | hk
    · rw [List.getElem?_append_left hk] at h1
      rw [List.getElem?_append_left (by rw [h.len]; exact hk)] at h2
      exact h.data k y a h1 h2
    · rw [List.getElem?_append_right hk] at h1
      rw [List.getElem?_append_right (by rw [h.len]; exact hk), h.len] at h2
      have hk0 : k - ss.length = 0 := by
        have := (List.getElem?_eq_some_iff.1 h1).1
        simp at this
        omega
      rw [hk0] at h1 h2
      simp only [List.getElem?_cons_zero, Option.some.injEq] at h1 h2
      subst h1 h2
      exact hx
theorem send_zero {p P1 : P8} {a b E1 : Int} {d : Bs} (h : sendR p a b d = (P1, E1)) (hc : p.cuts = []) (hf : (p.l.length : Int) < p.room) : (E1 = 0 ∧ P1 = { p with l := p.l ++ [⟨a, b, d⟩] }) ∨ (E1 ≠ 0 ∧ P1 = p) := by
  unfold sendR at h
  by_cases h1 : ¬ Sound8 a b
  · rw [if_pos h1] at h
    injection h with h2 h3
    exact .inr ⟨by rw [← h3]; decide, h2.symm⟩
  rw [if_neg h1] at h
  by_cases h2 : 65536 < d.length
  · rw [if_pos h2] at h
    injection h with h3 h4
    exact .inr ⟨by rw [← h4]; decide, h3.symm⟩
  rw [if_neg h2, hc, if_neg (by simp), if_neg (by omega)] at h
  injection h with h3 h4
  exact .inl ⟨h4.symm, by rw [← h3, hc]⟩
theorem take_first {p : P8} {x : L8} {l : List L8} (h : p.l = x :: l) : takeR p 0 = ({ p with l := l }, x, 0) := by
  unfold takeR
  rw [if_neg (by decide), h]
  rfl
set_option maxRecDepth 100000 in
set_option maxHeartbeats 16000000 in
theorem postOrder_any (A : Option Addr) (c : Nat) (l : List A8) (w : World) (hl : LiesA w w.heap.size A l) (ho : ActsOk l) : Calls Try.prog 4 #[.slice A l.length c] w (True_ w) := by
  have HN := Lib.hid (new_ok 4096 w (by decide) (by decide))
  have q1 := ptrTest
  have HAN := Lib.hid answers_any
  have HL := Lib.hid hl
  have HO := Lib.hid ho
  clear hl ho
  go_enter Try.func4, Try.ntmps4
  go_wp2_with fail
  refine HN.out.mono ?_
  rintro e w1 hnew
  obtain ⟨rfl, hm⟩ := mn_new hnew
  obtain ⟨g, hg⟩ : ∃ g, g = w.heap.size := ⟨_, rfl⟩
  have hm : Mn w g ⟨[], [], 4096⟩ (fun b => b = g) w1 := by rw [hg]; exact hm
  rw [← hg]
  have HM1 := Lib.hid hm
  clear hg hm hnew HN
  go_wp2_with fail
  refine (HAN.out _).mono ?_
  rintro e w2 ⟨rfl, hb⟩
  have HM2 := Lib.hid (HM1.out.more hb)
  clear hb HM1
  by_cases hlen : (500 : Int) < (l.length : Int)
  · have hd : decide ((500 : Int) < (l.length : Int)) = true := decide_eq_true hlen
    go_wp2_with fail
    refine (HAN.out _).mono ?_
    rintro e w3 ⟨rfl, hb⟩
    have HMF := Lib.hid (HM2.out.more hb)
    clear hb
    go_wp2
    go_ret
    exact ⟨rfl, HMF.out.below⟩
  have hd : decide ((500 : Int) < (l.length : Int)) = false := decide_eq_false hlen
  have hd2 : decide (500 < l.length) = false := decide_eq_false (by omega)
  have HLEN := Lib.hid (show l.length ≤ 500 by omega)
  have hl2 : (l.length : Int) ≤ 500 := by omega
  clear hlen
  go_upto_region 5 with fail
  clear hd hd2
  go_wp2
  go_loopw [5, 6] (fun v i wr => ∃ (k : Nat) (p : P8) (S : Nat → Prop) (ss : List A8) (acs : List AC) (As : Option Addr) (cs : Nat), k ≤ l.length ∧ v = .slice As ss.length cs ∧ i = .int .i64 (k : Int) ∧ Mn w g p S wr ∧ SentAt w S wr (.slice As ss.length cs) ss acs ∧ p = ⟨ss.map toL, [], 4096⟩ ∧ ss.length ≤ k) (fun _ i _ => l.length - (intOf i).toNat)
  case atStart => exact ⟨0, _, _, [], [], none, 0, Nat.zero_le _, rfl, rfl, HM2.out, SentAt.nil _ _ _, rfl, Nat.le_refl _⟩
  case round =>
    obtain ⟨k, p, S, ss, acs, As, cs, hk, rfl, rfl, hm, hse, hp, hfew⟩ := hrel
    have HM := Lib.hid hm
    have HSE := Lib.hid hse
    have HPP := Lib.hid hp
    have HFEW := Lib.hid hfew
    clear hm hse hp hfew
    by_cases hlt : k < l.length
    · obtain ⟨x, hx⟩ : ∃ x, l[k]? = some x := ⟨_, List.getElem?_eq_getElem hlt⟩
      obtain ⟨ag, ao, Ax, cx, hA, hag, d0, d1, d2, d3, hlx⟩ := HL.out.at_ hx
      subst hA
      have hbw := HM.out.below
      have c1 := (hbw.cell (p := ⟨ag, ao + k * 4 + 1, none⟩) hag).trans d1
      have c2 := (hbw.cell (p := ⟨ag, ao + k * 4 + 2, none⟩) hag).trans d2
      have c3 := (hbw.cell (p := ⟨ag, ao + k * 4 + 3, none⟩) hag).trans d3
      have HC0 := Lib.hid (And.intro d1 (And.intro d2 d3))
      have HC00 := Lib.hid d0
      have HAGW := Lib.hid hag
      have HAG := Lib.hid (Nat.lt_of_lt_of_le hag hbw.size)
      have HX := Lib.hid hx
      have HDX := Lib.hid (HO.out x (List.mem_of_getElem? hx)).data
      have HLX := Lib.hid (hlx.below hbw)
      have HLXW := Lib.hid hlx
      clear hx hag d0 d1 d2 d3 hlx hbw
      obtain ⟨P1, E1, hsr⟩ : ∃ P1 E1, sendR p x.a x.b x.d = (P1, E1) := ⟨_, _, rfl⟩
      have hz := send_zero hsr (by rw [HPP.out]) (by rw [HPP.out]; simp; have := HFEW.out; have := HLEN.out; omega)
      have HZ := Lib.hid hz
      have HSR := Lib.hid hsr
      have hn5 : (ss.length : Int) ≤ 500 := by have := HFEW.out; have := HLEN.out; omega
      clear hz hsr
      go_upto_region 8 with fail
      have hba : Below wr.heap.size wr (wr.alloc (.cells #[] 5)).drew := ((Below.refl _ _).alloc (Nat.le_refl _) _).drew
      have HCC := Lib.hid (And.intro c1 (And.intro c2 c3))
      have HCD := Lib.hid (show wr.drew.cell? ⟨ag, ao + k * 4 + 1, none⟩ = some (.int .i64 x.a) ∧ wr.drew.cell? ⟨ag, ao + k * 4 + 2, none⟩ = some (.int .i64 x.b) ∧ wr.drew.cell? ⟨ag, ao + k * 4 + 3, none⟩ = some (.slice Ax x.d.length cx) from ⟨c1, c2, c3⟩)
      have HDE := Lib.hid (show (wr.alloc (.cells #[] 5)).cell? ⟨ag, ao + k * 4 + 1, none⟩ = some (.int .i64 x.a) ∧ (wr.alloc (.cells #[] 5)).cell? ⟨ag, ao + k * 4 + 2, none⟩ = some (.int .i64 x.b) ∧ (wr.alloc (.cells #[] 5)).cell? ⟨ag, ao + k * 4 + 3, none⟩ = some (.slice Ax x.d.length cx) from ⟨(hba.cell (p := ⟨ag, ao + k * 4 + 1, none⟩) HAG.out).trans c1, (hba.cell (p := ⟨ag, ao + k * 4 + 2, none⟩) HAG.out).trans c2, (hba.cell (p := ⟨ag, ao + k * 4 + 3, none⟩) HAG.out).trans c3⟩)
      have HDD := Lib.hid (show (wr.alloc (.cells #[] 5)).drew.cell? ⟨ag, ao + k * 4 + 1, none⟩ = some (.int .i64 x.a) ∧ (wr.alloc (.cells #[] 5)).drew.cell? ⟨ag, ao + k * 4 + 2, none⟩ = some (.int .i64 x.b) ∧ (wr.alloc (.cells #[] 5)).drew.cell? ⟨ag, ao + k * 4 + 3, none⟩ = some (.slice Ax x.d.length cx) from HDE.out)
      have HBA := Lib.hid hba
      have HOWN := Lib.hid (show Own wr.heap.size (wr.alloc (.cells #[] 5)).drew (.slice (some ⟨wr.heap.size, 0, none⟩) 0 0) [] from Own.made wr wr.heap.size #[] 0 (Nat.le_refl _) (by decide) rfl)
      have HLD := Lib.hid (show Lies (wr.alloc (.cells #[] 5)).drew w.heap.size Ax x.d from HLX.out.below (hba.mono HM.out.below.size))
      clear hba
      go_region_held3 (fun w' => w'.cell? ⟨ag, ao + k * 4 + 1, none⟩ = some (.int .i64 x.a) ∧ w'.cell? ⟨ag, ao + k * 4 + 2, none⟩ = some (.int .i64 x.b) ∧ w'.cell? ⟨ag, ao + k * 4 + 3, none⟩ = some (.slice Ax x.d.length cx))
        (first
          | with_reducible assumption
          | with_reducible exact HCC.out
          | with_reducible exact HCD.out
          | with_reducible exact HDD.out
          | with_reducible exact HDE.out
          | with_reducible exact HEE.out
          | with_reducible exact HII.out)
        (first
          | (refine step_appB rfl (.tmp 46) (.tmp 51) rfl (v := .slice (some ⟨wr.heap.size, 0, none⟩) 0 0) (by simp [Act.eval]) HOWN.out (A := Ax) (m := x.d.length) (c := cx) (by simp [Act.eval]) rfl HLD.out (by have := HDX.out; show 0 + x.d.length ≤ _; omega) HBA.out.size ?_
             intro v3 w3 ho3 hb3 hg3
             rw [List.nil_append] at ho3
             obtain ⟨A3, c3x, hv3, -, -, -, hl3, -⟩ := ho3.form
             subst hv3
             have hb23 : Below wr.heap.size wr w3 := HBA.out.trans hb3
             have HEE := Lib.hid (And.intro ((hb23.cell (p := ⟨ag, ao + k * 4 + 1, none⟩) HAG.out).trans HCC.out.1) (And.intro ((hb23.cell (p := ⟨ag, ao + k * 4 + 2, none⟩) HAG.out).trans HCC.out.2.1) ((hb23.cell (p := ⟨ag, ao + k * 4 + 3, none⟩) HAG.out).trans HCC.out.2.2)))
             have HSND := Lib.hid (send_any g p S x.a x.b A3 x.d.length c3x x.d w3 (HM.out.post.below hb23) rfl hl3)
             rw [HSR.out] at HSND
             have HM3 := Lib.hid (HM.out.more hb23)
             have HSE3 := Lib.hid (HSE.out.below hb23)
             clear ho3 hb3 hg3 hb23 hl3)
          | (go_at_call 13; refine HSND.out.mono ?_; rintro e w4 hst
             obtain ⟨S4, rfl, hm4, hs4, hk4⟩ := HM3.out.step2 hst
             have HSE4 := Lib.hid (HSE3.out.step hk4 hs4)
             clear hs4 hk4
             have HM4 := Lib.hid hm4
             have hb4 := hm4.below
             have HII := Lib.hid (And.intro (hb4.cell (p := ⟨ag, ao + k * 4 + 1, none⟩) HAGW.out |>.trans HC0.out.1) (And.intro (hb4.cell (p := ⟨ag, ao + k * 4 + 2, none⟩) HAGW.out |>.trans HC0.out.2.1) (hb4.cell (p := ⟨ag, ao + k * 4 + 3, none⟩) HAGW.out |>.trans HC0.out.2.2)))
             clear hst hm4 hb4))
      all_goals
        by_cases he : E1 = 0
        · have hb0 : (E1 == 0) = true := beq_iff_eq.2 he
          have HP1 := Lib.hid (HZ.out.resolve_right (fun h => h.1 he)).2
          obtain ⟨e1, e2, e3⟩ := HII.out
          have e0 := (HM4.out.below.cell (p := ⟨ag, ao + k * 4, none⟩) HAGW.out).trans HC00.out
          have HACL := Lib.hid (fresh_cells w4 (aCells x (Ax, cx)) tAct)
          have HA1 := Lib.hid (show ∀ u ∈ aCells x (Ax, cx), u.oneCell' = true by
            intro u hu
            simp only [aCells, List.mem_cons, List.not_mem_nil, or_false] at hu
            rcases hu with rfl | rfl | rfl | rfl <;> rfl)
          have HOWS := Lib.hid (show (w4.alloc (.cells (aCells x (Ax, cx)).toArray tAct)).ownsRow w.heap.size tAct 4 (.slice As ss.length cs) ss.length (aRow ss acs) from ownsRow_keep HSE4.out.own (fun b hb => heap_alloc_old w4 _ (ownsRow_lt HSE4.out.own hb).2))
          have HBA4 := Lib.hid (show Below w4.heap.size w4 (w4.alloc (.cells (aCells x (Ax, cx)).toArray tAct)) from (Below.refl _ _).alloc (Nat.le_refl _) _)
          clear he
          go_upto_region 10 with fail
          go_wp2_with (at_builtin; refine wpList_appG Try.underlying22 actInfo rfl (by decide) (by decide) rfl (.tmp 56) (.tmp 61) rfl w.heap.size (.slice As ss.length cs) ss.length (aRow ss acs) rfl HOWS.out (some ⟨w4.heap.size, 0, none⟩) 1 1 rfl (aCells x (Ax, cx)) rfl HACL.out HA1.out (by have := HFEW.out; have := HLEN.out; omega) (Nat.le_trans HM4.out.below.size HBA4.out.size) ?_; intro v6 w6 ho6 hg6 hv6
                       obtain ⟨A6, c6, rfl⟩ := ownsRow_form ho6
                       have HSE6 := Lib.hid (SentAt.push (ss := ss) (x := x) HSE4.out HBA4.out ho6 rfl hv6 HLXW.out (fun b hb => HM4.out.post.lt hb))
                       have HM6 := Lib.hid (show Mn w g P1 S4 w6 from ⟨HM4.out.post.keep (fun b hb => (hg6.block b (Nat.lt_of_lt_of_le (HM4.out.post.lt hb) HBA4.out.size) (fun e => HSE4.out.far b e.symm hb)).trans (HBA4.out.block b (HM4.out.post.lt hb))) (Nat.le_trans HBA4.out.size hg6.size), HM4.out.s, (HM4.out.below.trans (HBA4.out.mono HM4.out.below.size)).trans (grown_below hg6 (Nat.le_trans HM4.out.below.size HBA4.out.size) (fun q hq => (ownsRow_lt HSE4.out.own hq).1))⟩)
                       clear ho6 hg6 hv6)
          go_roundw
          case rel =>
            refine ⟨k + 1, P1, S4, ss ++ [x], acs ++ [(Ax, cx)], A6, c6, by omega, by simp, by go_num, HM6.out, by simpa using HSE6.out, ?_, by simp; have := HFEW.out; omega⟩
            rw [HP1.out, HPP.out]
            simp [toL]
          case measure => simp [intOf]; omega
        · have hb0 : (E1 == 0) = false := beq_eq_false_iff_ne.2 he
          have HP1 := Lib.hid (HZ.out.resolve_left (fun h => he h.1)).2
          clear he
          go_wp2
          go_roundw
          case rel => exact ⟨k + 1, P1, S4, ss, acs, As, cs, by omega, rfl, by go_num, HM4.out, HSE4.out, HP1.out.trans HPP.out, by have := HFEW.out; omega⟩
          case measure => simp [intOf]; omega
    · have hd : decide ((k : Int) < (l.length : Int)) = false := decide_eq_false (by omega)
      have hd2 : decide (k < l.length) = false := decide_eq_false hlt
      have HNS := Lib.hid (show ss.length ≤ 500 by have := HFEW.out; have := HLEN.out; omega)
      have hn5 : (ss.length : Int) ≤ 500 := by have := HNS.out; omega
      go_upto_region 11 with fail
      clear hlt hd hd2
      go_wp2
      go_loopw [8] (fun i wr => ∃ (j : Nat) (S : Nat → Prop), j ≤ ss.length ∧ i = .int .i64 (j : Int) ∧ Mn w g ⟨(ss.drop j).map toL, [], 4096⟩ S wr ∧ SentAt w S wr (.slice As ss.length cs) ss acs) (fun i _ => ss.length - (intOf i).toNat)
      case atStart => exact ⟨0, S, Nat.zero_le _, rfl, by have := HM.out; rw [HPP.out] at this; exact this, HSE.out⟩
      case round =>
        obtain ⟨j, S4, hj, rfl, hm, hse⟩ := hrel
        have HM5 := Lib.hid hm
        have HSE5 := Lib.hid hse
        clear hm hse
        by_cases hjt : j < ss.length
        · obtain ⟨x, hx⟩ : ∃ x, ss[j]? = some x := ⟨_, List.getElem?_eq_getElem hjt⟩
          have hji : (j : Int) < (ss.length : Int) := by omega
          have HTK := Lib.hid (take_any g _ S4 0 wr HM5.out.post)
          have hdr : (ss.drop j).map toL = (⟨x.a, x.b, x.d⟩ : L8) :: (ss.drop (j + 1)).map toL := by
            show _ = toL x :: _
            rw [List.drop_eq_getElem_cons hjt, List.map_cons]
            rw [List.getElem?_eq_getElem hjt] at hx
            injection hx with hx
            rw [hx]
          rw [take_first (p := ⟨(ss.drop j).map toL, [], 4096⟩) hdr] at HTK
          have HX := Lib.hid hx
          clear hdr hx
          go_wp2_with fail
          refine HTK.out.mono ?_
          rintro e w7 ⟨A4, c4, rfl, hl4, hf4, S6, hp6, hs6, hk6⟩
          have hmn : Mn w g ⟨(ss.drop (j + 1)).map toL, [], 4096⟩ S6 w7 := by
            obtain ⟨S7, -, h7, -, -⟩ := HM5.out.step2 (show PStep (.bool true) g ⟨(ss.drop (j + 1)).map toL, [], 4096⟩ S4 wr (.returned (.bool true)) w7 from ⟨rfl, S6, hp6, hs6, hk6⟩)
            exact ⟨hp6, fun b hb => by
              rcases hs6 b hb with e | e
              · exact HM5.out.s b e
              · have := HM5.out.below.size; omega, h7.below⟩
          have HM7 := Lib.hid hmn
          have HSE7 := Lib.hid (HSE5.out.step hk6 hs6)
          obtain ⟨sb, sc, Ax, cx, hv, d1, d2, d3, hlx⟩ := HSE7.out.at_ HX.out
          simp only [Value.slice.injEq, true_and] at hv
          obtain ⟨rfl, rfl⟩ := hv
          have t1 : ∀ q, (convert 33 9 (.slice A4 x.d.length c4)).run Try.prog (w7.drewN q) = .ok (.string (str x.d)) (w7.drewN q) := fun q => run_text (w7.drewN q) c4 rfl (hl4.drewN q)
          have t2 : ∀ q, (convert 33 9 (.slice Ax x.d.length cx)).run Try.prog (w7.drewN q) = .ok (.string (str x.d)) (w7.drewN q) := fun q => run_text (w7.drewN q) cx rfl ((hlx.below hmn.below).drewN q)
          have hq1 : (x.a != x.a) = false := by simp
          have hq2 : (x.b != x.b) = false := by simp
          have hq3 : ((str x.d).toList == (str x.d).toList) = true := by simp
          clear hl4 hf4 hp6 hs6 hk6 hmn hlx HTK
          go_upto_region 15 with fail
          go_quiet (fail)
          go_wp2
          go_roundw
          case rel => exact ⟨j + 1, S6, by omega, by go_num, HM7.out.more (below_drewN (Below.refl _ _) _), HSE7.out.below (below_drewN (Below.refl _ _) _)⟩
          case measure => simp [intOf]; omega
        · have hje : j = ss.length := by omega
          have hd : decide ((j : Int) < (ss.length : Int)) = false := decide_eq_false (by omega)
          have hd2 : decide (j < ss.length) = false := decide_eq_false hjt
          have HLN := Lib.hid (len_any g _ S4 wr HM5.out.post)
          rw [show ((ss.drop j).map toL).length = 0 by rw [hje, List.drop_length]; rfl] at HLN
          clear hje
          go_upto_region 17 with fail
          clear hjt hd hd2
          go_wp2_with fail
          refine HLN.out.mono ?_
          rintro e w7 ⟨rfl, hb⟩
          have HM8 := Lib.hid (HM5.out.more hb)
          clear hb HLN
          go_wp2
          go_ret
          exact ⟨rfl, HM8.out.below⟩
end Go.Proofs.Ytenaecpmmbigdaa.Po
