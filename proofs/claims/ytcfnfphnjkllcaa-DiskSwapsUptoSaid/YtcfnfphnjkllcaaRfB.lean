/- The reference's own, as a contract of a call; appends of bytes and of files, by their runs. -/
import Derived.Test.YtcfnfphnjkllcaaRfA
namespace Go.Proofs.Ytcfnfphnjkllcaa.Dk
open Go.RowKit Go.Maps By Mp

theorem cells_of {w : World} {ad : Addr} {news : List Value} {m sz : Nat} (hl : news.length = m * sz) (hnews : 0 < m → ∃ a, (some ad : Option Addr) = some a ∧ ∀ j u, news[j]? = some u → w.cell? (a.add j) = some u) : ∀ (j : Nat) (u : Value), news[j]? = some u → w.cell? (ad.add j) = some u := by
  intro j u hu
  rcases Nat.eq_zero_or_pos m with h | h
  · rw [h, Nat.zero_mul] at hl
    rw [List.eq_nil_of_length_eq_zero hl] at hu
    cases hu
  · obtain ⟨a, e, h2⟩ := hnews h
    injection e with e
    rw [e]
    exact h2 j u hu
/-- Appending to a row of the call's own, and where the row is then. -/
theorem run_appG {tes te : TypeId} {i0 : TypeInfo} {z : Value} {sz by_ : Nat} (ht : Try.prog.underlying tes = some (.slice te)) (hi : Try.prog.info? te = some i0) (hz0 : i0.zero = some z) (hz1 : i0.size = sz) (hz2 : i0.bytes = by_) (hzs : z.cells.size = sz) (hsz : 0 < sz)
    (w : World) (ty : TypeId) (base : Nat) (v : Value) (n : Nat) (xs : List Value) (hown : w.ownsRow base te sz v n xs) (ad : Option Addr) (m c : Nat) (news : List Value) (hl : news.length = m * sz)
    (hnews : 0 < m → ∃ a, ad = some a ∧ ∀ j u, news[j]? = some u → w.cell? (a.add j) = some u) (h1 : ∀ u ∈ news, u.oneCell' = true)
    (hn : (n + m) * by_ ≤ 140737488355328) (hn2 : n + m ≤ 140737488355328) (hbase : base ≤ w.heap.size) : ∃ v' w', (Builtin.append_ #[tes, tes] ty #[v, .slice ad m c]).run Try.prog w = .ok v' w' ∧ w'.ownsRow base te sz v' (n + m) (xs ++ news) ∧ w.grownBy w' v.ownBlock ∧ ∀ b, v'.ownBlock = some b → v.ownBlock = some b ∨ w.heap.size ≤ b := by
  rcases ad with _ | ad
  · have hm0 : m = 0 := by
      rcases Nat.eq_zero_or_pos m with h | h
      · exact h
      · obtain ⟨a, e, _⟩ := hnews h
        cases e
    subst hm0
    obtain rfl : news = [] := List.eq_nil_of_length_eq_zero (by rw [hl, Nat.zero_mul])
    exact ⟨v, w, run_append_none w base _ ty _ i0 sz ht hi v _ _ hown c, by simpa using hown, ⟨rfl, rfl, rfl, Nat.le_refl _, fun _ _ _ => rfl⟩, fun b hb => .inl hb⟩
  · have hcells : ∀ j u, news[j]? = some u → w.cell? (ad.add j) = some u := cells_of hl hnews
    rcases hown.2 with ⟨rfl, rfl⟩ | ⟨g, cap, cur, rfl, hbg, hg, hnc, hcm, hcs, htake⟩
    · have hxs : xs = [] := List.eq_nil_of_length_eq_zero (by simpa using hown.1)
      subst hxs
      obtain ⟨v', w', hrun, h2, h3, _⟩ := run_append_own (P := Try.prog) w w.heap.size tes ty te i0 _ sz by_ ht hi hz0 hz1 hz2 hzs hsz (.slice none 0 0) 0 [] (World.ownsRow_nil w _ _ sz) ad m c news hl hcells h1 (by unfold maxLen; omega) hn (Nat.le_refl _)
      exact ⟨v', w', hrun, ownsRow_base h2 hbase, h3, fun b hb => .inr (ownsRow_lt h2 hb).1⟩
    · by_cases hroom : n + m ≤ cap
      · obtain ⟨w', hrun, h2, h3⟩ := run_append_fits (P := Try.prog) w base tes ty te i0 sz ht hi hz1 g n cap xs hown ad m c news hl hcells h1 hroom
        exact ⟨_, w', hrun, h2, h3, fun b hb => .inl hb⟩
      · obtain ⟨v', w', hrun, h2, h3⟩ := run_append_arg_grows (P := Try.prog) w tes ty te i0 _ sz by_ ht hi hz0 hz1 hz2 hzs hsz ⟨g, 0, none⟩ n cap xs hown.1
          (fun j u hj => by
            rw [plainAdd, Nat.zero_add, cell_of_row w g j _ _ _ hg]
            rw [← htake, List.getElem?_take] at hj
            split at hj
            · simpa using hj
            · cases hj) ad m c news hl hcells (by omega) (by unfold maxLen; omega) hn
        exact ⟨v', w', hrun, ownsRow_base h2 hbase, h3.but _, fun b hb => .inr (ownsRow_lt h2 hb).1⟩
theorem run_appF (w : World) (ty : TypeId) (base : Nat) (v : Value) (n : Nat) (xs : List Value) (hown : w.ownsRow base tRF 2 v n xs) (ad : Option Addr) (m c : Nat) (news : List Value) (hl : news.length = m * 2)
    (hnews : 0 < m → ∃ a, ad = some a ∧ ∀ j u, news[j]? = some u → w.cell? (a.add j) = some u) (h1 : ∀ u ∈ news, u.oneCell' = true)
    (hn : n + m ≤ 1099511627776) (hbase : base ≤ w.heap.size) : ∃ v' w', (Builtin.append_ #[tRFs, tRFs] ty #[v, .slice ad m c]).run Try.prog w = .ok v' w' ∧ w'.ownsRow base tRF 2 v' (n + m) (xs ++ news) ∧ w.grownBy w' v.ownBlock ∧ ∀ b, v'.ownBlock = some b → v.ownBlock = some b ∨ w.heap.size ≤ b := by
  obtain ⟨i0, hi, hz0, hz1, hz2⟩ := info_parts fInfo
  exact run_appG Try.underlying41 hi hz0 hz1 hz2 rfl (by decide) w ty base v n xs hown ad m c news hl hnews h1 (by omega) (by omega) hbase
theorem run_appB (w : World) (ty : TypeId) (base : Nat) (v : Value) (l : Bs) (hown : Own base w v l) (B : Nat) (A : Option Addr) (m c : Nat) (l2 : Bs) (hm : m = l2.length) (hr : Lies w B A l2)
    (hsz : l.length + l2.length ≤ 140737488355328) (hbase : base ≤ w.heap.size) : ∃ v' w', (Builtin.append_ #[28, 28] ty #[v, .slice A m c]).run Try.prog w = .ok v' w' ∧ Own base w' v' (l ++ l2) ∧ w.grownBy w' v.ownBlock ∧ ∀ b, v'.ownBlock = some b → v.ownBlock = some b ∨ w.heap.size ≤ b := by
  obtain ⟨i0, hi, hz0, hz1, hz2⟩ := info_parts u8Info
  subst hm
  obtain ⟨v', w', hrun, h2, h3, h4⟩ := run_appG Try.underlying28 hi hz0 hz1 hz2 rfl (by decide) w ty base v l.length (bvs l) hown A l2.length c (bvs l2) (by rw [bvs_length]; omega) (fun hp => by
    obtain ⟨g, o, e, _, hc⟩ := hr hp
    refine ⟨_, e, fun j u hu => ?_⟩
    obtain ⟨x, hx, rfl⟩ := bvs_get hu
    rw [plainAdd]
    exact hc j x hx) bvs_one (by omega) hsz hbase
  exact ⟨v', w', hrun, by unfold Own; rw [List.length_append, bvs_append]; exact h2, h3, h4⟩
theorem step_appB {ops : Array Oper} {o : Oper} {a : Act} {w : World} {K : Act → World → Prop} {Q : Exit → Act → World → Prop} {E : Prop}
    (hgd : o.guard = none) (s x : Operand) (hop : o.op = .call { callee := .builtin .append, args := #[s, x], argTypes := #[28, 28] })
    {base : Nat} {v : Value} {l : List UInt8} (hs : a.eval s = v) (hown : Own base w v l) {B : Nat} {A : Option Addr} {m c : Nat} {l2 : List UInt8} (hx : a.eval x = .slice A m c) (hm : m = l2.length) (hr : Lies w B A l2)
    (hsz : l.length + l2.length ≤ 140737488355328) (hbase : base ≤ w.heap.size)
    (hK : ∀ v' w', Own base w' v' (l ++ l2) → w.grownBy w' v.ownBlock → (∀ b, v'.ownBlock = some b → v.ownBlock = some b ∨ w.heap.size ≤ b) → K (a.put o.dst v') w') :
    if Region.wanted o (yielded ops a.tmps) = true then Oper.wp Try.prog o a w K Q else E := by
  have hw : Region.wanted o (yielded ops a.tmps) = true := by simp [Region.wanted, hgd]
  rw [if_pos hw]
  obtain ⟨v', w', hrun, h2, h3, h4⟩ := run_appB w o.type base v l hown B A m c l2 hm hr hsz hbase
  exact wp_app_run s x _ hop hs hx hrun (hK _ _ h2 h3 h4)
theorem wpList_appB {ops : Array Oper} {rest : List Oper} {o : Oper} {a : Act} {Q : Exit → Act → World → Prop} {w : World} (hgd : o.guard = none) (s x : Operand)
    (ho : o.op = .call { callee := .builtin .append, args := #[s, x], argTypes := #[28, 28] })
    {base : Nat} {v : Value} {l : List UInt8} (hs : a.eval s = v) (hown : Own base w v l) {B : Nat} {A : Option Addr} {m c : Nat} {l2 : List UInt8} (hx : a.eval x = .slice A m c) (hm : m = l2.length) (hr : Lies w B A l2)
    (hsz : l.length + l2.length ≤ 140737488355328) (hbase : base ≤ w.heap.size)
    (h : ∀ v' w', Own base w' v' (l ++ l2) → w.grownBy w' v.ownBlock → (∀ b, v'.ownBlock = some b → v.ownBlock = some b ∨ w.heap.size ≤ b) → wpList Try.prog ops Q rest (a.put o.dst v') w') : wpList Try.prog ops Q (o :: rest) a w :=
  wpList_plain hgd fun K hK => by
    obtain ⟨v', w', hrun, h2, h3, h4⟩ := run_appB w o.type base v l hown B A m c l2 hm hr hsz hbase
    exact wp_app_run s x _ ho hs hx hrun (hK _ _ (h v' w' h2 h3 h4))
theorem step_appF {ops : Array Oper} {o : Oper} {a : Act} {w : World} {K : Act → World → Prop} {Q : Exit → Act → World → Prop} {E : Prop} (hgd : o.guard = none) (s x : Operand) (hop : o.op = .call { callee := .builtin .append, args := #[s, x], argTypes := #[tRFs, tRFs] })
    (base : Nat) (v : Value) (n : Nat) (xs : List Value) (hs : a.eval s = v) (hown : w.ownsRow base tRF 2 v n xs) (ad : Option Addr) (m c : Nat) (hx : a.eval x = .slice ad m c) (news : List Value) (hl : news.length = m * 2)
    (hnews : 0 < m → ∃ a, ad = some a ∧ ∀ j u, news[j]? = some u → w.cell? (a.add j) = some u) (h1 : ∀ u ∈ news, u.oneCell' = true)
    (hn : n + m ≤ 1099511627776) (hbase : base ≤ w.heap.size)
    (hK : ∀ v' w', w'.ownsRow base tRF 2 v' (n + m) (xs ++ news) → w.grownBy w' v.ownBlock → (∀ b, v'.ownBlock = some b → v.ownBlock = some b ∨ w.heap.size ≤ b) → K (a.put o.dst v') w') : if Region.wanted o (yielded ops a.tmps) = true then Oper.wp Try.prog o a w K Q else E := by
  have hw : Region.wanted o (yielded ops a.tmps) = true := by simp [Region.wanted, hgd]
  rw [if_pos hw]
  obtain ⟨v', w', hrun, h2, h3, h4⟩ := run_appF w o.type base v n xs hown ad m c news hl hnews h1 hn hbase
  exact wp_app_run s x _ hop hs hx hrun (hK v' w' h2 h3 h4)
theorem wpList_appF {ops : Array Oper} {rest : List Oper} {o : Oper} {a : Act} {Q : Exit → Act → World → Prop} {w : World} (hgd : o.guard = none) (s x : Operand) (hop : o.op = .call { callee := .builtin .append, args := #[s, x], argTypes := #[tRFs, tRFs] })
    (base : Nat) (v : Value) (n : Nat) (xs : List Value) (hs : a.eval s = v) (hown : w.ownsRow base tRF 2 v n xs) (ad : Option Addr) (m c : Nat) (hx : a.eval x = .slice ad m c) (news : List Value) (hl : news.length = m * 2)
    (hnews : 0 < m → ∃ a, ad = some a ∧ ∀ j u, news[j]? = some u → w.cell? (a.add j) = some u) (h1 : ∀ u ∈ news, u.oneCell' = true)
    (hn : n + m ≤ 1099511627776) (hbase : base ≤ w.heap.size)
    (h : ∀ v' w', w'.ownsRow base tRF 2 v' (n + m) (xs ++ news) → w.grownBy w' v.ownBlock → (∀ b, v'.ownBlock = some b → v.ownBlock = some b ∨ w.heap.size ≤ b) → wpList Try.prog ops Q rest (a.put o.dst v') w') : wpList Try.prog ops Q (o :: rest) a w :=
  wpList_plain hgd fun K hK => by
    obtain ⟨v', w', hrun, h2, h3, h4⟩ := run_appF w o.type base v n xs hown ad m c news hl hnews h1 hn hbase
    exact wp_app_run s x _ hop hs hx hrun (hK _ _ (h v' w' h2 h3 h4))
/-- How much files may have, here. -/
def Fit8 (F : Fs) : Prop := ∀ p ∈ F, p.2.length ≤ 140737488355328
/-- Files of the call's own so far: the row from base on, each file's bytes in a block of its own. -/
def OwnGot (base : Nat) (wr : World) (v : Value) (F : Fs) : Prop := RfOwn wr base v F
theorem RfOwn.nil (w : World) (base : Nat) : RfOwn w base (.slice none 0 0) [] := ⟨[], rfl, World.ownsRow_nil w base _ 2, fun i x a h _ => by simp at h, fun i j a b q n m h _ _ _ => by simp at h⟩
theorem own_keep8 {base : Nat} {w w' : World} {v : Value} {l : Bs} (h : Own base w v l) (hb : ∀ b, v.ownBlock = some b → w'.heap[b]? = w.heap[b]?) : Own base w' v l := ownsRow_keep h hb
/-- Behind an append of one file. -/
theorem RfOwn.snoc {w w' : World} {base : Nat} {v' : Value} {l : Fs} {ac : List AC} {p : Bs × Bs} {A : Option Addr} {c : Nat} (hac : ac.length = l.length)
    (hda : ∀ (i : Nat) (x : Bs × Bs) (a : AC), l[i]? = some x → ac[i]? = some a → Own base w (.slice a.1 x.2.length a.2) x.2)
    (hap : ∀ (i j : Nat) (a b : AC) (q n m : Nat), ac[i]? = some a → ac[j]? = some b → (Value.slice a.1 n a.2).ownBlock = some q → (Value.slice b.1 m b.2).ownBlock = some q → i = j)
    (ho : w'.ownsRow base tRF 2 v' (l.length + 1) (fRow l ac ++ fCells p (A, c)))
    (hk : ∀ b, b < w.heap.size → U8 w b → w'.heap[b]? = w.heap[b]?)
    (hd : Own base w' (.slice A p.2.length c) p.2) (hA : ∀ q, (Value.slice A p.2.length c).ownBlock = some q → w.heap.size ≤ q) : RfOwn w' base v' (l ++ [p]) := by
  have hlt : ∀ (i : Nat) (a : AC) (q n : Nat), ac[i]? = some a → (Value.slice a.1 n a.2).ownBlock = some q → q < w.heap.size := by
    intro i a q n ha hq
    have hi : i < l.length := by rw [← hac]; exact (List.getElem?_eq_some_iff.1 ha).1
    have h1 := hda i l[i] a (List.getElem?_eq_getElem hi) ha
    refine (ownsRow_lt h1 (b := q) ?_).2
    rcases ha1 : a.1 with _ | ad
    · rw [ha1] at hq; cases hq
    · rw [ha1] at hq; exact hq
  have hsame : ∀ (A' : Option Addr) (n m c' : Nat), (Value.slice A' n c').ownBlock = (Value.slice A' m c').ownBlock := by
    intro A' n m c'
    cases A' <;> rfl
  refine ⟨ac ++ [(A, c)], by simp [hac], by rw [List.length_append, fRow_app hac, fRow_one]; exact ho, fun i y a hy ha => ?_, fun i j a b q n m ha hb hqa hqb => ?_⟩
  · by_cases hi : i < l.length
    · rw [List.getElem?_append_left hi] at hy
      rw [List.getElem?_append_left (by omega)] at ha
      have h1 := hda i y a hy ha
      refine own_keep8 h1 (fun b hb => hk b (ownsRow_lt h1 hb).2 ?_)
      obtain ⟨cur, h2⟩ := ownsRow_type h1 hb
      exact ⟨cur, _, h2⟩
    · rw [List.getElem?_append_right (by omega)] at hy
      rw [List.getElem?_append_right (by omega), hac] at ha
      have : i - l.length = 0 := by
        have := (List.getElem?_eq_some_iff.1 hy).1
        simp at this
        omega
      rw [this] at hy ha
      simp at hy ha
      subst hy ha
      exact hd
  · have hil := (List.getElem?_eq_some_iff.1 ha).1
    have hjl := (List.getElem?_eq_some_iff.1 hb).1
    rw [List.length_append, List.length_singleton] at hil hjl
    have hpick : ∀ (k : Nat) (z : AC) (nn : Nat), k < ac.length + 1 → (ac ++ [(A, c)])[k]? = some z → (Value.slice z.1 nn z.2).ownBlock = some q → (k < ac.length ∧ ac[k]? = some z ∧ q < w.heap.size) ∨ (k = ac.length ∧ w.heap.size ≤ q) := by
      intro k z nn hk hz hq
      by_cases h : k < ac.length
      · rw [List.getElem?_append_left h] at hz
        exact .inl ⟨h, hz, hlt k z q nn hz hq⟩
      · have hk' : k = ac.length := by omega
        subst hk'
        rw [List.getElem?_append_right (Nat.le_refl _), Nat.sub_self] at hz
        simp at hz
        subst hz
        exact .inr ⟨rfl, hA q ((hsame A _ _ c).trans hq)⟩
    rcases hpick i a n hil ha hqa with ⟨h1, h2, h3⟩ | ⟨h1, h2⟩ <;> rcases hpick j b m hjl hb hqb with ⟨k1, k2, k3⟩ | ⟨k1, k2⟩
    · exact hap i j a b q n m h2 k2 hqa hqb
    · omega
    · omega
    · omega
set_option maxRecDepth 100000 in
set_option maxHeartbeats 2000000 in
theorem own_any (v0 : Value) (base : Nat) (S : Nat → Prop) (F : Fs) (w : World) (h : RfAt w base S v0 F) (hS : ∀ b, S b → b < w.heap.size) (hl : F.length ≤ 68719476736) (hok : Fit8 F) :
    Calls Try.prog 39 #[v0] w (GivesO F w) := by
  obtain ⟨A, c, rfl, hc, hm, hub⟩ := h.form
  unfold maxLen at hm
  have H := Lib.hid h
  have HS := Lib.hid hS
  have HOK := Lib.hid hok
  clear h hS hok hub
  go_enter Try.func39, Try.ntmps39
  go_wp2
  go_loopw [3, 4] (fun v i wr => ∃ k : Nat, k ≤ F.length ∧ i = .int .i64 (k : Int) ∧ RfOwn wr w.heap.size v (F.take k) ∧ Below w.heap.size w wr) (fun _ i _ => F.length - (intOf i).toNat)
  case atStart => exact ⟨0, Nat.zero_le _, rfl, RfOwn.nil _ _, Below.refl _ _⟩
  case round =>
    obtain ⟨k, hk, rfl, hw, hb⟩ := hrel
    have HW := Lib.hid hw
    have HB := Lib.hid hb
    clear hw hb
    by_cases hlt : k < F.length
    · obtain ⟨ub, cap, A1, c1, e0, _, hub, hd1, hd2, hx0, hx1⟩ := H.out.at_ hlt
      obtain ⟨x, hx⟩ : ∃ x, x = F[k] := ⟨_, rfl⟩
      rw [← hx] at hd1 hd2 hx0 hx1
      have hox := HOK.out x (hx ▸ List.getElem_mem hlt)
      have HTK := Lib.hid (show F.take (k + 1) = F.take k ++ [x] by rw [List.take_succ_eq_append_getElem hlt, hx])
      simp only [Value.slice.injEq, true_and] at e0
      obtain ⟨rfl, rfl⟩ := e0
      have hc0 : wr.cell? ⟨ub, k * 2, none⟩ = some (.string (str x.1)) := (HB.out.cell hub).trans hx0
      have hc1 : wr.cell? ⟨ub, k * 2 + 1, none⟩ = some (.slice A1 x.2.length c1) := (HB.out.cell hub).trans hx1
      have hubr : ub < wr.heap.size := Nat.lt_of_lt_of_le hub HB.out.size
      have hli : Lies wr wr.heap.size A1 x.2 := (hd2.lies HS.out).below HB.out |>.more HB.out.size
      have HLI := Lib.hid hli
      obtain ⟨ac, hac, how, hda, hap⟩ := HW.out
      have HKL := Lib.hid (show (F.take k).length = k by rw [List.length_take]; omega)
      rw [HKL.out] at how
      obtain ⟨A2, c2, rfl⟩ := ownsRow_form how
      have HOW := Lib.hid how
      have HDA := Lib.hid hda
      have HAP := Lib.hid hap
      have HAC := Lib.hid hac
      have hwr : w.heap.size ≤ wr.heap.size := HB.out.size
      have HOX := Lib.hid hox
      have ha1 : (wr.alloc (.cells #[] 5)).cell? ⟨ub, k * 2 + 1, none⟩ = some (.slice A1 x.2.length c1) := (World.cell?_alloc_lt wr _ _ hubr).trans hc1
      have HOWN := Lib.hid (show Own wr.heap.size (wr.alloc (.cells #[] 5)).drew (.slice (some ⟨wr.heap.size, 0, none⟩) 0 0) [] from Own.made wr wr.heap.size #[] 0 (Nat.le_refl _) (by decide) rfl)
      have HLA := Lib.hid (show Lies (wr.alloc (.cells #[] 5)).drew wr.heap.size A1 x.2 from HLI.out.alloc (Nat.le_refl _) _)
      have HZA := Lib.hid (show wr.heap.size ≤ (wr.alloc (.cells #[] 5)).drew.heap.size by show _ ≤ (wr.alloc _).heap.size; simp)
      have HBA := Lib.hid (show Below wr.heap.size wr (wr.alloc (.cells #[] 5)).drew from ((Below.refl _ _).alloc (Nat.le_refl _) _).drew)
      clear hx hx0 hx1 hd2 hli how hda hap hac hox HW
      go_wp2
      go_region_law (first
        | (refine step_appB rfl (.tmp 17) (.tmp 22) rfl (v := .slice (some ⟨wr.heap.size, 0, none⟩) 0 0) (by simp [Act.eval]) HOWN.out (A := A1) (m := x.2.length) (c := c1) (by simp [Act.eval]) rfl HLA.out (by have := HOX.out; simp; omega) HZA.out ?_
           intro v2 w2 ho2 hg2 hv2
           rw [List.nil_append] at ho2
           obtain ⟨A3, c3, rfl, hc3, _, _, _, _⟩ := ho2.form
           have hb2 : Below wr.heap.size wr w2 := HBA.out.grown hg2 HZA.out (fun q e => by injection e with e; exact Nat.le_of_eq e)
           have HO2 := Lib.hid ho2
           have HB2 := Lib.hid hb2
           have hc02 : w2.cell? ⟨ub, k * 2, none⟩ = some (.string (str x.1)) := (hb2.cell hubr).trans hc0
           have HOW2 := Lib.hid (show (w2.alloc (.cells (fCells x (A3, c3)).toArray tRF)).ownsRow w.heap.size tRF 2 (.slice A2 k c2) k (fRow (F.take k) ac) from (ownsRow_keep HOW.out (fun b hb => hb2.block b (ownsRow_lt HOW.out hb).2)).alloc _)
           have HNC := Lib.hid (show 0 < 1 → ∃ a, (some ⟨w2.heap.size, 0, none⟩ : Option Addr) = some a ∧ ∀ j u, (fCells x (A3, c3))[j]? = some u → (w2.alloc (.cells (fCells x (A3, c3)).toArray tRF)).cell? (a.add j) = some u from fun _ => ⟨_, rfl, fun j u hu => by
             rw [plainAdd, Nat.zero_add, cell_of_row _ _ j _ _ _ (heap_alloc_new w2 _)]
             simpa using hu⟩)
           have HN1 := Lib.hid (show ∀ u ∈ fCells x (A3, c3), u.oneCell' = true by
             intro u hu
             simp only [fCells, List.mem_cons, List.not_mem_nil, or_false] at hu
             rcases hu with rfl | rfl <;> rfl)
           have hz2 : w.heap.size ≤ (w2.alloc (.cells (fCells x (A3, c3)).toArray tRF)).heap.size := by have := hb2.size; simp; omega
           clear ho2 hg2 hv2 hb2 hc3)
        | (refine step_appF rfl (.tmp 11) (.tmp 25) rfl w.heap.size (.slice A2 k c2) k (fRow (F.take k) ac) (by simp [Act.eval]) HOW2.out (some ⟨w2.heap.size, 0, none⟩) 1 1 (by simp [Act.eval]) (fCells x (A3, c3)) rfl HNC.out HN1.out (by omega) hz2 ?_
           intro v5 w5 ho5 hg5 hv5
           have HO5 := Lib.hid ho5
           have HG5 := Lib.hid (show (w2.alloc (.cells (fCells x (A3, c3)).toArray tRF)).grownBy w5 (Value.slice A2 k c2).ownBlock from hg5)
           clear ho5 hg5 hv5))
      all_goals
        go_wp2
        have hzb := HB2.out.size
        have hbk : ∀ b, b < w2.heap.size → some b ≠ (Value.slice A2 k c2).ownBlock → w5.heap[b]? = w2.heap[b]? := fun b hb hne => (HG5.out.block b (by simp; omega) hne).trans (heap_alloc_old w2 _ hb)
        have hb5 : Below w.heap.size w w5 := (((HB.out.trans (HB2.out.mono hwr)).alloc (by omega) _).grown HG5.out (by simp; omega) (fun q e => (ownsRow_lt HOW.out e).1))
        go_roundw
        case rel =>
          refine ⟨k + 1, by omega, by go_num, ?_, hb5⟩
          rw [HTK.out]
          refine RfOwn.snoc (w := wr) (A := A3) (c := c3) HAC.out HDA.out HAP.out (by rw [HKL.out]; exact HO5.out) (fun b hb h8 => (hbk b (by omega) (u8_neF HOW.out h8)).trans (HB2.out.block b hb)) ?_ (fun q hq => (ownsRow_lt HO2.out hq).1)
          refine Own.more (own_keep8 HO2.out (fun b hb => hbk b (ownsRow_lt HO2.out hb).2 (fun e => ?_))) hwr
          have h1 := (ownsRow_lt HO2.out hb).1
          have h2 := (ownsRow_lt HOW.out e.symm).2
          omega
        case measure => simp [intOf]; omega
    · have hke : k = F.length := by omega
      have HKE := Lib.hid hke
      clear hke
      go_wp2
      go_ret
      have h1 := HW.out
      rw [HKE.out, List.take_length] at h1
      exact ⟨_, rfl, h1, HB.out⟩
end Go.Proofs.Ytcfnfphnjkllcaa.Dk
