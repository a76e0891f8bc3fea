/- slices.Delete of one letter, and package post's Take, as contracts of calls. -/
import Derived.Test.YtenaecpmmbigdaaPoG
import Derived.Laws.CopyRow
namespace Go.Proofs.Ytenaecpmmbigdaa.Po
open Go.RowKit Go.Maps By Mp

theorem letsElem : Try.prog.elem tLets = tLet := by simp [Program.elem, Try.underlying51]
theorem letsUnder : Try.prog.underlying tLets = some (.slice (Try.prog.elem tLets)) := by simp [Program.elem, Try.underlying51]
theorem letSize (w : World) : (sizeOf tLet).run Try.prog w = .ok 3 w := by kernel_rfl
def cut3 (b c k : Nat) : Addr := if c = k then ⟨b, 0, none⟩ else ⟨b, k * 3, none⟩
theorem run_lo3 (w : World) (b n c k : Nat) (hk : k ≤ c) : (Instr.slice tLets (.slice (some ⟨b, 0, none⟩) n c) none (some (.int .i64 (k : Int))) none).run Try.prog w = .ok (.slice (some ⟨b, 0, none⟩) k c) w := by
  rw [run_slice_h w _ _ _ _ letsUnder .i64 _ (by omega) (by omega), letsElem, letSize]
  simp [Result.andThen, sliced, Addr.add]
theorem run_hi3 (w : World) (b n c k : Nat) (J : Int) (hJ : J = k) (hk : k ≤ n) : (Instr.slice tLets (.slice (some ⟨b, 0, none⟩) n c) (some (.int .i64 J)) none none).run Try.prog w = .ok (.slice (some (cut3 b c k)) (n - k) (c - k)) w := by
  subst hJ
  rw [run_slice_l w _ _ _ _ letsUnder .i64 _ (by omega) (by omega), letsElem, letSize]
  unfold cut3
  by_cases h : c = k
  · simp [Result.andThen, sliced, h]
  · simp [Result.andThen, sliced, h, plainAdd]
theorem run_mid3 (w : World) (b n c k : Nat) (h1 : k < n) (h2 : n ≤ c) : (Instr.slice tLets (.slice (some ⟨b, 0, none⟩) k c) (some (.int .i64 (k : Int))) (some (.int .i64 (n : Int))) none).run Try.prog w = .ok (.slice (some ⟨b, k * 3, none⟩) (n - k) (c - k)) w := by
  rw [run_slice_lh w _ _ _ _ letsUnder .i64 .i64 _ _ (by omega) (by omega) (by omega), letsElem, letSize]
  have h : ¬ (c = k) := by omega
  simp [Result.andThen, sliced, h, plainAdd]
theorem run_max3 (w : World) (b n c k : Nat) (J : Int) (hJ : J = k + 1) (h1 : k + 1 ≤ n) (h2 : n ≤ c) : ∃ v, (Instr.slice tLets (.slice (some ⟨b, 0, none⟩) n c) (some (.int .i64 (k : Int))) (some (.int .i64 J)) (some (.int .i64 (n : Int)))).run Try.prog w = .ok v w := by
  subst hJ
  rw [run_slice_lhm w _ _ _ _ letsUnder .i64 .i64 .i64 _ _ _ (by omega) (by omega) (by omega) (by omega), letsElem, letSize]
  exact ⟨_, rfl⟩
theorem ownsRow_take {w : World} {base : Nat} {e : TypeId} {sz n m cap : Nat} {g : Nat} {xs : List Value} (h : w.ownsRow base e sz (.slice (some ⟨g, 0, none⟩) n cap) n xs) (hm : m ≤ n) : w.ownsRow base e sz (.slice (some ⟨g, 0, none⟩) m cap) m (xs.take (m * sz)) := by
  have hms : m * sz ≤ n * sz := Nat.mul_le_mul_right _ hm
  refine ⟨by rw [List.length_take, h.1]; omega, ?_⟩
  rcases h.2 with ⟨h1, h2⟩ | ⟨q, cap', cur, hv, hb, hg, hn, hc, hs, ht⟩
  · cases h1
  · injection hv with e1 e2 e3
    subst e3
    refine .inr ⟨q, cap, cur, by rw [e1], hb, hg, by omega, hc, hs, ?_⟩
    rw [← ht, List.take_take]
    congr 1
    omega
theorem step_fits {tes te : TypeId} {z : Value} {sz by_ : Nat} (ht : Try.prog.underlying tes = some (.slice te)) (hinfo : (Try.prog.info? te).map (fun i => (i.zero, i.size, i.bytes)) = some (some z, sz, by_))
    {ops : Array Oper} {o : Oper} {a : Act} {w : World} {K : Act → World → Prop} {Q : Exit → Act → World → Prop} {E : Prop} (hgd : o.guard = none) (s x : Operand) (hop : o.op = .call { callee := .builtin .append, args := #[s, x], argTypes := #[tes, tes] })
    (base g n cap : Nat) (xs : List Value) (hs : a.eval s = .slice (some ⟨g, 0, none⟩) n cap) (hown : w.ownsRow base te sz (.slice (some ⟨g, 0, none⟩) n cap) n xs) (ad : Addr) (m c : Nat) (hx : a.eval x = .slice (some ad) m c) (news : List Value) (hl : news.length = m * sz)
    (hnews : ∀ j u, news[j]? = some u → w.cell? (ad.add j) = some u) (h1 : ∀ u ∈ news, u.oneCell' = true)
    (hroom : n + m ≤ cap) (nm : Nat) (hnm : nm = n + m)
    (hK : ∀ w', w'.ownsRow base te sz (.slice (some ⟨g, 0, none⟩) nm cap) nm (xs ++ news) → w.grownBy w' (some g) → K (a.put o.dst (.slice (some ⟨g, 0, none⟩) nm cap)) w') : if Region.wanted o (yielded ops a.tmps) = true then Oper.wp Try.prog o a w K Q else E := by
  have hw : Region.wanted o (yielded ops a.tmps) = true := by simp [Region.wanted, hgd]
  rw [if_pos hw]
  subst hnm
  obtain ⟨i0, hi, hz0, hz1, hz2⟩ := info_parts hinfo
  obtain ⟨w', hrun, h2, h3⟩ := run_append_fits (P := Try.prog) w base tes o.type te i0 sz ht hi hz1 g n cap xs hown ad m c news hl hnews h1 hroom
  exact wp_app_run s x _ hop hs hx hrun (hK w' h2 h3)
abbrev zeroCs : List Value := [.int .i64 0, .int .i64 0, .string ⟨#[]⟩]
theorem letZero (w : World) : (zeroValue tLet).run Try.prog w = .ok (.agg #[.int .i64 0, .int .i64 0, .string ⟨#[]⟩]) w := by kernel_rfl
/-- clear of the one letter behind those that are left. -/
theorem run_clear1 {w : World} (ty : TypeId) (g off cap : Nat) (cur : Array Value) (hg : w.heap[g]? = some (.cells cur tLet (0, 0))) (hfit : off + 3 ≤ cur.size) :
    (Builtin.clear_ #[tLets] ty #[.slice (some ⟨g, off, none⟩) 1 cap]).run Try.prog w = .ok (.tuple #[]) (w.setRow g (cur.toList.take off ++ (zeroCs ++ cur.toList.drop (off + 3))).toArray) := by
  have hst := run_storeCells_at Try.prog g off tLet zeroCs 0 cur w hg (by show off + 0 + 3 ≤ cur.size; omega) (fun v hv => by
    simp only [zeroCs, List.mem_cons, List.not_mem_nil, or_false] at hv
    rcases hv with rfl | rfl | rfl <;> rfl)
  have ez : (Builtin.zeroCells (Value.agg #[.int .i64 0, .int .i64 0, .string ⟨#[]⟩]).cells 1).toList = zeroCs := by kernel_rfl
  simp [Builtin.clear_, run_underlying Try.underlying51, ez, hst, Result.andThen]
theorem lRow_erase (l : List L8) (k : Nat) (hk : k < l.length) : (lRow l).take (k * 3) ++ lRow (l.drop (k + 1)) = lRow (l.eraseIdx k) := by
  rw [← lRow_take l k (by omega), ← lRow_app, List.eraseIdx_eq_take_drop_succ]
def DelPost (b c m : Nat) (l : List L8) (w : World) (e : Ending) (w' : World) : Prop :=
  e = .returned (.slice (some ⟨b, 0, none⟩) m c) ∧ w'.ownsRow 0 tLet 3 (.slice (some ⟨b, 0, none⟩) m c) m (lRow l) ∧ Kept (fun q => q = b) w w'
theorem cleared {w w5 : World} {b c m : Nat} {l : List L8} {cur : Array Value} (ho : w5.ownsRow 0 tLet 3 (.slice (some ⟨b, 0, none⟩) m c) m (lRow l)) (hg : w.grownBy w5 (some b)) (hrow : w5.heap[b]? = some (.cells cur tLet (0, 0))) (hc : cur.size = c * 3) (hm : m < c) :
    DelPost b c m l w (.returned (.slice (some ⟨b, 0, none⟩) m c)) (w5.setRow b (cur.toList.take (m * 3) ++ (zeroCs ++ cur.toList.drop (m * 3 + 3))).toArray) := by
  have hl : (cur.toList.take (m * 3)).length = m * 3 := by rw [List.length_take, Array.length_toList, hc]; omega
  refine ⟨rfl, ⟨ho.1, .inr ⟨b, c, _, rfl, Nat.zero_le _, setRow_heap w5 b cur _ tLet _ hrow, by omega, ?_, ?_, ?_⟩⟩, ⟨hg.os, hg.tape, hg.output, by rw [show (w5.setRow b _).heap.size = w5.heap.size by simp [World.setRow]]; exact hg.size, fun q hq hn => (setRow_other w5 b q _ hn).trans (hg.block q hq (fun e => hn (Option.some.inj e)))⟩⟩
  · rcases ho.2 with ⟨h1, _⟩ | ⟨g, cap, cur', hv, h1, h2, h3, h4, h5, h6⟩
    · cases h1
    · injection hv with e1 e2 e3
      rw [e3]; exact h4
  · simp [hl, hc]; omega
  · rw [List.take_append_of_le_length (by rw [hl]; exact Nat.le_refl _), List.take_of_length_le (by rw [hl]; exact Nat.le_refl _)]
    rcases ho.2 with ⟨h1, _⟩ | ⟨g, cap, cur', hv, h1, h2, h3, h4, h5, h6⟩
    · cases h1
    · injection hv with e1 e2 e3
      injection e1 with e1
      injection e1 with e1
      rw [← e1, hrow] at h2
      injection h2 with h2
      injection h2 with h2
      rw [h2]; exact h6
set_option maxHeartbeats 1600000 in
theorem delete_any (b c k m N : Nat) (l : List L8) (J : Int) (w : World) (hN : N = m + 1) (hm : l.length = m + 1) (hk : k ≤ m) (hJ : J = (k : Int) + 1) (hown : w.ownsRow 0 tLet 3 (.slice (some ⟨b, 0, none⟩) N c) N (lRow l)) :
    Calls Try.prog 29 #[.slice (some ⟨b, 0, none⟩) N c, .int .i64 (k : Int), .int .i64 J] w (DelPost b c m (l.eraseIdx k) w) := by
  obtain ⟨cur0, hrow0, hnc⟩ : ∃ cur, w.heap[b]? = some (.cells cur tLet (0, 0)) ∧ m + 1 ≤ c := by
    rcases hown.2 with ⟨h1, _⟩ | ⟨g, cap, cur, hv, h1, h2, h3, h4, h5, h6⟩
    · cases h1
    · injection hv with e1 e2 e3
      injection e1 with e1
      injection e1 with e1
      rw [e1, e3]; exact ⟨cur, h2, by omega⟩
  obtain ⟨t, ht⟩ : ∃ t, m = k + t := ⟨m - k, by omega⟩
  obtain ⟨v0, h0⟩ := run_max3 w b N c k J hJ (by omega) (by omega)
  have h1 := fun w' : World => run_lo3 w' b N c k (by omega)
  have h2 : ∀ w' : World, (Instr.slice tLets (.slice (some ⟨b, 0, none⟩) N c) (some (.int .i64 J)) none none).run Try.prog w' = .ok (.slice (some (cut3 b c (k + 1))) t (c - (k + 1))) w' := fun w' => by
    have h := run_hi3 w' b N c (k + 1) J (by omega) (by omega)
    rwa [show N - (k + 1) = t by omega] at h
  have h3 : ∀ w' : World, (Instr.slice tLets (.slice (some ⟨b, 0, none⟩) m c) (some (.int .i64 (m : Int))) (some (.int .i64 (N : Int))) none).run Try.prog w' = .ok (.slice (some ⟨b, m * 3, none⟩) 1 (c - m)) w' := fun w' => by
    have h := run_mid3 w' b N c m (by omega) (by omega)
    rwa [show N - m = 1 by omega] at h
  have hne : ((k : Int) == J) = false := beq_eq_false_iff_ne.2 (by omega)
  have HOT := Lib.hid (show w.drew.ownsRow 0 tLet 3 (.slice (some ⟨b, 0, none⟩) k c) k ((lRow l).take (k * 3)) from ownsRow_take hown (by omega))
  have HNW := Lib.hid (show ∀ j u, (lRow (l.drop (k + 1)))[j]? = some u → w.drew.cell? ((cut3 b c (k + 1)).add j) = some u from fun j u hu => by
    rw [lRow_drop l (k + 1) (by omega), List.getElem?_drop] at hu
    have hjl := (List.getElem?_eq_some_iff.1 hu).1
    rw [lRow_length, hm] at hjl
    have hcc : ¬ (c = k + 1) := by omega
    unfold cut3
    rw [if_neg hcc, plainAdd]
    have := World.ownsRow.cells hown (g := b) rfl _ u hu
    rwa [plainAdd, Nat.zero_add] at this)
  have HN1 := Lib.hid (lRow_one (l.drop (k + 1)))
  have HNL := Lib.hid (show (lRow (l.drop (k + 1))).length = t * 3 by rw [lRow_length, List.length_drop]; omega)
  have HRM := Lib.hid (show k + t ≤ c by omega)
  have HM := Lib.hid ht
  have HE := Lib.hid (lRow_erase l k (by omega))
  have HC := Lib.hid hnc
  clear hown hrow0 hnc hm hk hJ ht hN
  go_enter Try.func29, Try.ntmps29
  go_upto_region 5 with fail
  go_region_law (refine step_fits Try.underlying51 letInfo rfl (.tmp 22) (.tmp 25) rfl 0 b k c _ rfl HOT.out (cut3 b c (k + 1)) t _ rfl _ HNL.out HNW.out HN1.out HRM.out m HM.out ?_; intro w5 ho5 hg5
                 rw [HE.out] at ho5
                 have HO5 := Lib.hid ho5
                 have HG5 := Lib.hid (show w.drew.grownBy w5 (some b) from hg5)
                 clear ho5 hg5)
  all_goals
    obtain ⟨cur, hcur, hcs⟩ : ∃ cur, w5.heap[b]? = some (.cells cur tLet (0, 0)) ∧ cur.size = c * 3 := by
      rcases HO5.out.2 with ⟨h1, _⟩ | ⟨g, cap, cur, hv, h1, h2, h3, h4, h5, h6⟩
      · cases h1
      · injection hv with e1 e2 e3
        injection e1 with e1
        injection e1 with e1
        rw [e1, e3]; exact ⟨cur, h2, h5⟩
    have HCU := Lib.hid hcur
    have HCS := Lib.hid hcs
    have hcl := run_clear1 0 b (m * 3) (c - m) cur hcur (by have := HC.out; omega)
    clear hcur hcs
    go_wp2
    go_ret
    exact cleared HO5.out ⟨HG5.out.os, HG5.out.tape, HG5.out.output, HG5.out.size, HG5.out.block⟩ HCU.out HCS.out (by have := HC.out; omega)
end Go.Proofs.Ytenaecpmmbigdaa.Po
