/- slices.Delete and slices.Clone of the log's entries, as contracts of calls. | sort.Search over the closure of Hint; Hint, Shrink, Copy of package rlog, as contracts of calls. | Hint, Shrink, Copy of package rlog, as contracts of calls. -/
import Derived.Test.YtdbaajgkcjpnoaaGreatQb
/-! slices.Delete and slices.Clone of the log's entries, as contracts of calls. -/
namespace Go.Proofs.YtdbaajgkcjpnoaaGreat.Rg
open Go.RowKit By CoP Co Mo Kd

def cut4 (b c k : Nat) : Addr := if c = k then ⟨b, 0, none⟩ else ⟨b, k * 4, none⟩
theorem cutA_4 (b c k : Nat) : cutA (some ⟨b, 0, none⟩) c k 4 = some (cut4 b c k) := by
  unfold cutA cut4
  dsimp only
  split
  · rfl
  · rw [plainAdd, Nat.zero_add]
theorem run_mid4 (w : World) (b n c k : Nat) (h1 : k < n) (h2 : n ≤ c) : (Instr.slice tEnts (.slice (some ⟨b, 0, none⟩) k c) (some (.int .i64 (k : Int))) (some (.int .i64 (n : Int))) none).run Tryz.prog w = .ok (.slice (some ⟨b, k * 4, none⟩) (n - k) (c - k)) w := by
  rw [run_slice_lh w _ _ _ _ entsUnder .i64 .i64 _ _ (by omega) (by omega) (by omega), entsElem, entSize]
  have h : ¬ (c = k) := by omega
  simp [Result.andThen, sliced, h, plainAdd]
theorem run_max4 (w : World) (A : Option Addr) (n c i j : Nat) (h1 : i ≤ j) (h2 : j ≤ n) (h3 : n ≤ c) : ∃ v, (Instr.slice tEnts (.slice A n c) (some (.int .i64 (i : Int))) (some (.int .i64 (j : Int))) (some (.int .i64 (n : Int)))).run Tryz.prog w = .ok v w := by
  rw [run_slice_lhm w _ _ _ _ entsUnder .i64 .i64 .i64 _ _ _ (by omega) (by omega) (by omega) (by omega), entsElem, entSize]
  exact ⟨_, rfl⟩
abbrev zeroE : Value := .agg #[.int .u64 0, .int .i64 0, .int .i64 0, .string ⟨#[]⟩]
def zeroT (t : Nat) : List Value := (Builtin.zeroCells zeroE.cells t).toList
theorem zeroT_length (t : Nat) : (zeroT t).length = t * 4 := by
  unfold zeroT
  rw [Array.length_toList, size_zeroCells]; rfl
theorem zeroT_one (t : Nat) : ∀ u ∈ zeroT t, u.oneCell' = true := by
  intro u hu
  unfold zeroT Builtin.zeroCells at hu
  rw [Array.toList_map, List.mem_map] at hu
  obtain ⟨i, _, rfl⟩ := hu
  have h4 : zeroE.cells.size = 4 := rfl
  rw [h4]
  have h : i % 4 = 0 ∨ i % 4 = 1 ∨ i % 4 = 2 ∨ i % 4 = 3 := by omega
  rcases h with h | h | h | h <;> rw [h] <;> rfl
theorem entZero (w : World) : (zeroValue tEnt).run Tryz.prog w = .ok zeroE w := by kernel_rfl
/-- clear of those behind. -/
theorem run_clearT {w : World} (ty : TypeId) (g off t cap : Nat) (cur : Array Value) (hg : w.heap[g]? = some (.cells cur tEnt (0, 0))) (hfit : off + t * 4 ≤ cur.size) (ht : 0 < t) :
    (Builtin.clear_ #[tEnts] ty #[.slice (some ⟨g, off, none⟩) t cap]).run Tryz.prog w = .ok (.tuple #[]) (w.setRow g (cur.toList.take off ++ (zeroT t ++ cur.toList.drop (off + t * 4))).toArray) := by
  have hst := run_storeCells_at Tryz.prog g off tEnt (zeroT t) 0 cur w hg (by rw [zeroT_length]; omega) (zeroT_one t)
  rw [zeroT_length] at hst
  have ez : (Builtin.zeroCells zeroE.cells t).toList = zeroT t := rfl
  have hz := entZero w
  generalize zeroT t = zt at *
  obtain ⟨t', rfl⟩ : ∃ t', t = t' + 1 := ⟨t - 1, by omega⟩
  simp [Builtin.clear_, run_underlying Tryz.underlying65, hz, ez, hst, Result.andThen]
theorem eRow_cut (l : List En) (i j : Nat) (hi : i ≤ l.length) : (eRow l).take (i * 4) ++ eRow (l.drop j) = eRow (l.take i ++ l.drop j) := by
  rw [← eRow_take l i hi, ← eRow_app]
/-- The list without a part, in the same memory. -/
def DelPost (v : Value) (l : List En) (w : World) (e : Ending) (w' : World) : Prop :=
  ∃ v', e = .returned v' ∧ v'.ownBlock = v.ownBlock ∧ w'.ownsRow 0 tEnt 4 v' l.length (eRow l) ∧ Kept (fun q => v.ownBlock = some q) w w'
theorem cleared {w w5 : World} {b n c m t : Nat} {l : List En} {cur : Array Value} (hl : l.length = m) (ho : w5.ownsRow 0 tEnt 4 (.slice (some ⟨b, 0, none⟩) m c) m (eRow l)) (hg : w.grownBy w5 (some b)) (hrow : w5.heap[b]? = some (.cells cur tEnt (0, 0))) (hc : cur.size = c * 4) (hm : m + t ≤ c) :
    DelPost (.slice (some ⟨b, 0, none⟩) n c) l w (.returned (.slice (some ⟨b, 0, none⟩) m c)) (w5.setRow b (cur.toList.take (m * 4) ++ (zeroT t ++ cur.toList.drop (m * 4 + t * 4))).toArray) := by
  have hlen : (cur.toList.take (m * 4)).length = m * 4 := by rw [List.length_take, Array.length_toList, hc]; omega
  refine ⟨_, rfl, rfl, ⟨by rw [hl]; exact ho.1, .inr ⟨b, c, _, by rw [hl], Nat.zero_le _, setRow_heap w5 b cur _ tEnt _ hrow, by omega, ?_, ?_, ?_⟩⟩, ⟨hg.os, hg.tape, hg.output, by rw [show (w5.setRow b _).heap.size = w5.heap.size by simp [World.setRow]]; exact hg.size, fun q hq hn => (setRow_other w5 b q _ (fun e => hn (by rw [e]; rfl))).trans (hg.block q hq (fun e => hn e.symm))⟩⟩
  · rcases ho.2 with ⟨h1, _⟩ | ⟨g, cap, cur', hv, h1, h2, h3, h4, h5, h6⟩
    · cases h1
    · injection hv with e1 e2 e3
      rw [e3]; exact h4
  · simp [hlen, hc, zeroT_length]; omega
  · rw [hl, List.take_append_of_le_length (by rw [hlen]; exact Nat.le_refl _), List.take_of_length_le (by rw [hlen]; exact Nat.le_refl _)]
    rcases ho.2 with ⟨h1, _⟩ | ⟨g, cap, cur', hv, h1, h2, h3, h4, h5, h6⟩
    · cases h1
    · injection hv with e1 e2 e3
      injection e1 with e1
      injection e1 with e1
      rw [← e1, hrow] at h2
      injection h2 with h2
      injection h2 with h2
      rw [h2]; exact h6
set_option maxRecDepth 100000 in
set_option maxHeartbeats 1600000 in
theorem delete_any (v : Value) (l : List En) (i j : Nat) (I J : Int) (hI : I = i) (hJ : J = j) (w : World) (hij : i ≤ j) (hj : j ≤ l.length) (hown : w.ownsRow 0 tEnt 4 v l.length (eRow l)) :
    Calls Tryz.prog 44 #[v, .int .i64 I, .int .i64 J] w (DelPost v (l.take i ++ l.drop j) w) := by
  subst hI hJ
  obtain ⟨A, c, rfl⟩ := ownsRow_form hown
  have hnc : l.length ≤ c := by
    rcases hown.2 with ⟨e, h0⟩ | ⟨g, cap, cur, hv, h1, h2, h3, h4, h5, h6⟩
    · omega
    · injection hv with e1 e2 e3
      omega
  obtain ⟨n, hn⟩ : ∃ n, n = l.length := ⟨_, rfl⟩
  rw [← hn] at hown hnc hj ⊢
  obtain ⟨v0, h0⟩ := run_max4 w A n c i j hij hj hnc
  by_cases heq : i = j
  · subst heq
    have e : l.take i ++ l.drop i = l := List.take_append_drop i l
    rw [e]
    have HO := Lib.hid (show DelPost (.slice A n c) l w (.returned (.slice A n c)) w from ⟨_, rfl, rfl, by rw [← hn]; exact hown, Kept.refl _ _⟩)
    have heq' : ((i : Int) == (i : Int)) = true := beq_self_eq_true _
    clear hown hn e
    by_cases hin : n = i
    · subst hin
      go_enter Tryz.func44, Tryz.ntmps44
      go_wp2
      go_ret
      exact HO.out
    · go_enter Tryz.func44, Tryz.ntmps44
      go_wp2
      go_ret
      exact HO.out
  · have hne : ((i : Int) == (j : Int)) = false := beq_eq_false_iff_ne.2 (by omega)
    have hne2 : ((i : Int) = (j : Int)) = False := by simp; omega
    obtain ⟨b, rfl⟩ : ∃ b, A = some ⟨b, 0, none⟩ := by
      rcases hown.2 with ⟨e, h0⟩ | ⟨g, cap, cur, hv, h1, h2, h3, h4, h5, h6⟩
      · omega
      · injection hv with e1 e2 e3
        exact ⟨g, e1⟩
    obtain ⟨t, ht⟩ : ∃ t, t = n - j := ⟨_, rfl⟩
    obtain ⟨m, hm⟩ : ∃ m, m = i + t := ⟨_, rfl⟩
    have h1 := fun w' : World => run_to4 w' (some ⟨b, 0, none⟩) n c i _ rfl (by omega)
    have h2 := fun w' : World => run_from4 w' (some ⟨b, 0, none⟩) n c j _ rfl hj .i64
    rw [cutA_4, ← ht] at h2
    have h3 := fun w' : World => run_mid4 w' b n c m (by omega) hnc
    have HOT := Lib.hid (show w.drew.ownsRow 0 tEnt 4 (.slice (some ⟨b, 0, none⟩) i c) i ((eRow l).take (i * 4)) from ownsRow_take hown (by omega))
    have HNW := Lib.hid (show ∀ k u, (eRow (l.drop j))[k]? = some u → w.drew.cell? ((cut4 b c j).add k) = some u from fun k u hu => by
      rw [eRow_drop l j (by omega), List.getElem?_drop] at hu
      have hjl := (List.getElem?_eq_some_iff.1 hu).1
      rw [eRow_length] at hjl
      have hcc : ¬ (c = j) := by omega
      unfold cut4
      rw [if_neg hcc, plainAdd]
      have := World.ownsRow.cells hown (g := b) rfl _ u hu
      rwa [plainAdd, Nat.zero_add] at this)
    have HN1 := Lib.hid (eRow_one (l.drop j))
    have HNL := Lib.hid (show (eRow (l.drop j)).length = t * 4 by rw [eRow_length, List.length_drop, ← hn, ht])
    have HRM := Lib.hid (show i + t ≤ c by omega)
    have HM := Lib.hid hm
    have HE := Lib.hid (eRow_cut l i j (by omega))
    have HC := Lib.hid (show m < n ∧ n ≤ c ∧ (l.take i ++ l.drop j).length = m by
      refine ⟨by omega, hnc, ?_⟩
      rw [List.length_append, List.length_take, List.length_drop]
      omega)
    have hmn : (m : Int) ≤ (n : Int) := by omega
    clear hown hnc hij hj heq hm ht hn
    go_enter Tryz.func44, Tryz.ntmps44
    go_upto_region 5 with fail
    go_region_law (refine step_fits Tryz.underlying65 entInfo rfl (.tmp 22) (.tmp 25) rfl 0 b i c _ rfl HOT.out (cut4 b c j) t _ rfl _ HNL.out HNW.out HN1.out HRM.out m HM.out ?_; intro w5 ho5 hg5
                   rw [HE.out] at ho5
                   have HO5 := Lib.hid ho5
                   have HG5 := Lib.hid (show w.drew.grownBy w5 (some b) from hg5)
                   clear ho5 hg5)
    all_goals
      obtain ⟨cur, hcur, hcs⟩ : ∃ cur, w5.heap[b]? = some (.cells cur tEnt (0, 0)) ∧ cur.size = c * 4 := by
        rcases HO5.out.2 with ⟨h1, _⟩ | ⟨g, cap, cur, hv, h1, h2, h3, h4, h5, h6⟩
        · cases h1
        · injection hv with e1 e2 e3
          injection e1 with e1
          injection e1 with e1
          rw [e1, e3]; exact ⟨cur, h2, h5⟩
      have HCU := Lib.hid hcur
      have HCS := Lib.hid hcs
      have hcl := run_clearT 0 b (m * 4) (n - m) (c - m) cur hcur (by have := HC.out.1; have := HC.out.2.1; omega) (by have := HC.out.1; omega)
      clear hcur hcs
      go_wp2
      go_ret
      exact cleared HC.out.2.2 HO5.out ⟨HG5.out.os, HG5.out.tape, HG5.out.output, HG5.out.size, HG5.out.block⟩ HCU.out HCS.out (by have := HC.out.1; have := HC.out.2.1; omega)
theorem nilTestE (w : World) (a : Option Addr) (n c n' c' : Nat) : (binOp .eql tEnts (.slice a n c) (.slice none n' c')).run Tryz.prog w = .ok (.bool a.isNone) w :=
  Lib.run_eql_slice_nil w _ _ a n c n' c' Tryz.underlying65
def GivesE (l : List En) (w : World) (e : Ending) (w' : World) : Prop := ∃ v', e = .returned v' ∧ w'.ownsRow w.heap.size tEnt 4 v' l.length (eRow l) ∧ Below w.heap.size w w'
theorem own_same (w : World) : (w.alloc (.cells #[] tEnt)).ownsRow w.heap.size tEnt 4 (.slice (some ⟨w.heap.size, 0, none⟩) 0 0) 0 [] :=
  ⟨by simp, .inr ⟨w.heap.size, 0, #[], rfl, Nat.le_refl _, heap_alloc_new w _, Nat.le_refl _, by decide, by simp, by simp⟩⟩
theorem cloneE_any (v : Value) (l : List En) (w : World) (h : w.ownsRow 0 tEnt 4 v l.length (eRow l)) (hl : l.length ≤ 1073741823) : Calls Tryz.prog 28 #[v] w (GivesE l w) := by
  have q := nilTestE
  rcases h.2 with ⟨rfl, h0⟩ | ⟨g, cap, cur, rfl, -, hg, hnc, -, hcs, htk⟩
  · have hl0 : l = [] := List.length_eq_zero_iff.1 h0
    subst hl0
    clear h
    go_enter Tryz.func28, Tryz.ntmps28
    go_wp2
    go_ret
    exact ⟨_, rfl, World.ownsRow_nil _ _ _ _, Below.refl _ _⟩
  · have HH := Lib.hid h
    have HL := Lib.hid hl
    clear h hg hcs htk hl
    go_enter Tryz.func28, Tryz.ntmps28
    go_wp2_with (at_builtin; refine wpList_appG Tryz.underlying65 entInfo rfl (by decide) (by decide) rfl (.tmp 5) (.tmp 6) rfl w.heap.size _ 0 [] rfl (own_same w) (some ⟨g, 0, none⟩) l.length cap rfl (eRow l) (eRow_length l) (fun _ => ⟨_, rfl, fun j u hu => ?_⟩) (eRow_one l) (by have := HL.out; omega) (by simp) ?_)
    · refine (World.cell?_alloc_lt w _ _ (by rw [plainAdd]; exact (ownsRow_lt HH.out rfl).2)).trans (World.ownsRow.cells HH.out (g := g) rfl j u hu)
    · intro v' w1 ho1 hg1 hv1
      have HO := Lib.hid ho1
      have HB := Lib.hid (show Below w.heap.size w w1 from ((Below.refl _ _).alloc (Nat.le_refl _) _).trans (grown_below hg1 (by simp) (fun q hq => by
        have hq : some w.heap.size = some q := hq
        injection hq with hq
        omega)))
      clear ho1 hg1 hv1
      go_wp2
      go_ret
      exact ⟨v', rfl, HO.out, HB.out⟩
end Go.Proofs.YtdbaajgkcjpnoaaGreat.Rg

/-! sort.Search over the closure of Hint; Hint, Shrink, Copy of package rlog, as contracts of calls. -/
namespace Go.Proofs.YtdbaajgkcjpnoaaGreat.Rg
open Go.RowKit By CoP Co Mo Kd

def SearchPost (n : Nat) (p : Nat → Bool) (w : World) (e : Ending) (w' : World) : Prop := ∃ t : Nat, e = .returned (.int .i64 (t : Int)) ∧ t ≤ n ∧ (∀ k, k < t → p k = false) ∧ (∀ k, t ≤ k → k < n → p k = true) ∧ Below w.heap.size w w'
set_option maxRecDepth 100000 in
set_option maxHeartbeats 2000000 in
theorem search_any (n : Nat) (b0 b1 b2 : Nat) (p : Nat → Bool) (w : World) (hn : n ≤ 1099511627776) (hmono : ∀ a b, a ≤ b → b < n → p a = true → p b = true)
    (hcall : ∀ (k : Nat) (w' : World), k < n → Below w.heap.size w w' → Calls Tryz.prog 42 #[.int .i64 (k : Nat), ptr b0, ptr b1, ptr b2] w' (RetB (.bool (p k)) w')) :
    Calls Tryz.prog 41 #[.int .i64 (n : Nat), .func (.func 42) #[] #[ptr b0, ptr b1, ptr b2]] w (SearchPost n p w) := by
  have HM := Lib.hid hmono
  have HC := Lib.hid hcall
  clear hmono hcall
  go_enter Tryz.func41, Tryz.ntmps41
  go_wp2
  go_loopw [5, 6] (fun x y wr => ∃ i j : Nat, x = .int .i64 (i : Int) ∧ y = .int .i64 (j : Int) ∧ i ≤ j ∧ j ≤ n ∧ (∀ k, k < i → p k = false) ∧ (∀ k, j ≤ k → k < n → p k = true) ∧ Below w.heap.size w wr) (fun x y _ => (intOf y).toNat - (intOf x).toNat)
  case atStart => exact ⟨0, n, rfl, rfl, Nat.zero_le _, Nat.le_refl _, fun k hk => by omega, fun k h1 h2 => by omega, Below.refl _ _⟩
  case round =>
    obtain ⟨i, j, rfl, rfl, hij, hjn, hlo, hhi, hb⟩ := hrel
    have HLO := Lib.hid hlo
    have HHI := Lib.hid hhi
    have HB := Lib.hid hb
    clear hlo hhi hb
    by_cases hlt : i < j
    · obtain ⟨h, hh⟩ : ∃ h, h = (i + j) / 2 := ⟨_, rfl⟩
      have hhn : h < n := by omega
      have hij64 : (i : Int) + (j : Int) ≤ 4398046511104 := by omega
      go_upto_region 4 with fail
      rw [show ((i : Int) + (j : Int)) / 2 = (h : Int) by omega]
      have HCH := Lib.hid (HC.out h wr hhn HB.out)
      have hih : i ≤ h := by omega
      have hhj : h < j := by omega
      clear hh hij64
      go_wp2_with fail
      refine HCH.out.mono ?_
      rintro e w2 ⟨rfl, hb2⟩
      have HB2 := Lib.hid (By.ext HB.out hb2)
      clear hb2
      cases hp : p h with
      | true =>
        go_wp2
        go_roundw
        case rel => exact ⟨i, h, rfl, rfl, hih, by omega, HLO.out, fun k h1 h2 => HM.out h k h1 h2 hp, HB2.out⟩
        case measure => simp [intOf]; omega
      | false =>
        go_wp2
        go_roundw
        case rel =>
          refine ⟨h + 1, j, by go_num, rfl, hhj, hjn, fun k hk => ?_, HHI.out, HB2.out⟩
          cases hpk : p k with
          | false => rfl
          | true =>
            have := HM.out k h (by omega) hhn hpk
            rw [hp] at this
            cases this
        case measure => simp [intOf]; omega
    · have hije : i = j := by omega
      subst hije
      have HFIN := Lib.hid (show SearchPost n p w (.returned (.int .i64 (i : Int))) wr from ⟨i, rfl, hjn, HLO.out, HHI.out, HB.out⟩)
      clear hlt
      go_wp2
      go_ret
      exact HFIN.out
/-- Is the place so many behind the base too great, or its term? -/
def tooL (s : Lg) (i t : Nat) (k : Nat) : Bool := decide (i < (behindL s (k + 1)).1) || decide (t < (behindL s (k + 1)).2)
theorem behind_at {s : Lg} (h : Ok s) {k : Nat} {e : En} (hk : s.es[k]? = some e) : behindL s (k + 1) = (e.ix, e.tm) := by
  have := (h.at_ hk).1
  simp [behindL, hk]
  omega
theorem chain_terms : ∀ {l : List En} {i t : Nat}, chain i t l → ∀ {a b : Nat} {x y : En}, l[a]? = some x → l[b]? = some y → a ≤ b → x.tm ≤ y.tm
  | e :: r, i, t, h, 0, b, x, y, hx, hy, _ => by
    obtain rfl : e = x := by simpa using hx
    cases b with
    | zero => obtain rfl : e = y := by simpa using hy
              exact Nat.le_refl _
    | succ b => exact chain_term h.2.2 y (List.mem_of_getElem? (i := b) (by simpa using hy))
  | e :: r, i, t, h, a + 1, 0, x, y, hx, hy, hab => by omega
  | e :: r, i, t, h, a + 1, b + 1, x, y, hx, hy, hab => chain_terms h.2.2 (a := a) (b := b) (by simpa using hx) (by simpa using hy) (by omega)
theorem tooL_mono {s : Lg} (h : Ok s) (i t : Nat) (a b : Nat) (hab : a ≤ b) (hb : b < s.es.length) (hp : tooL s i t a = true) : tooL s i t b = true := by
  have ha := List.getElem?_eq_getElem (show a < s.es.length by omega)
  have hb' := List.getElem?_eq_getElem hb
  have h1 := (h.at_ ha).1
  have h2 := (h.at_ hb').1
  have h3 := chain_terms h.inv ha hb' hab
  unfold tooL at hp ⊢
  rw [behind_at h ha] at hp
  rw [behind_at h hb']
  simp only [Bool.or_eq_true, decide_eq_true_eq] at hp ⊢
  omega
/-- Where the search ends, the hint is. -/
theorem hint_at {s : Lg} (h : Ok s) (i t : Nat) {n : Nat} (hn : n ≤ s.es.length) (h1 : ∀ k, k < n → tooL s i t k = false) (h2 : ∀ k, n ≤ k → k < s.es.length → tooL s i t k = true) : behindL s n = hintL s i t := by
  have key : ∀ m, m ≤ s.es.length → (s.es.take m).foldl (fun p e => if e.ix ≤ i ∧ e.tm ≤ t then (e.ix, e.tm) else p) (s.ix, s.tm) = behindL s (min m n) := by
    intro m
    induction m with
    | zero => intro _; rw [Nat.zero_min]; rfl
    | succ m ih =>
      intro hm
      have hx := List.getElem?_eq_getElem (show m < s.es.length by omega)
      have ih := ih (by omega)
      have e0 : (s.es.take (m + 1)).foldl (fun p e => if e.ix ≤ i ∧ e.tm ≤ t then (e.ix, e.tm) else p) (s.ix, s.tm) =
          if s.es[m].ix ≤ i ∧ s.es[m].tm ≤ t then (s.es[m].ix, s.es[m].tm) else (s.es.take m).foldl (fun p e => if e.ix ≤ i ∧ e.tm ≤ t then (e.ix, e.tm) else p) (s.ix, s.tm) := by
        rw [List.take_add_one, hx, Option.toList_some, List.foldl_append]; rfl
      rw [e0, ih]
      by_cases hmn : m < n
      · have h3 := h1 m hmn
        unfold tooL at h3
        rw [behind_at h hx] at h3
        simp only [Bool.or_eq_false_iff, decide_eq_false_iff_not] at h3
        rw [if_pos (by omega), show min (m + 1) n = m + 1 by omega, behind_at h hx]
      · have h3 := h2 m (by omega) (by omega)
        unfold tooL at h3
        rw [behind_at h hx] at h3
        simp only [Bool.or_eq_true, decide_eq_true_eq] at h3
        rw [if_neg (by omega), show min (m + 1) n = min m n by omega]
  have := key s.es.length (Nat.le_refl _)
  rw [List.take_length, Nat.min_eq_right hn] at this
  exact this.symm
section
variable {g : Nat} {s : Lg} {v : Value} {S : Nat → Prop} (w : World)
set_option maxHeartbeats 800000 in
theorem hint1_any (h : LogIs w g s v S) (b0 b1 b2 : Nat) (i t : Nat) (c0 : w.cell? ⟨b0, 0, none⟩ = some (ptr g)) (c1 : w.cell? ⟨b1, 0, none⟩ = some (.int .u64 (i : Int))) (c2 : w.cell? ⟨b2, 0, none⟩ = some (.int .u64 (t : Int)))
    (k : Nat) (hk : k < s.es.length) (hz : b0 < w.heap.size ∧ b1 < w.heap.size ∧ b2 < w.heap.size) : Calls Tryz.prog 42 #[.int .i64 (k : Nat), ptr b0, ptr b1, ptr b2] w (RetB (.bool (tooL s i t k)) w) := by
  obtain ⟨K, hK⟩ : ∃ K : Int, K = (k : Int) := ⟨_, rfl⟩
  have HB := Lib.hid (behind_any w h (k + 1) (by omega) (K + 1) (by omega))
  have HC1 := Lib.hid (fun w' (hb : Below w.heap.size w w') => (hb.cell (p := ⟨b1, 0, none⟩) hz.2.1).trans c1)
  have HC2 := Lib.hid (fun w' (hb : Below w.heap.size w w') => (hb.cell (p := ⟨b2, 0, none⟩) hz.2.2).trans c2)
  have hend := h.ok.end_
  have hK2 : K + 1 ≤ 4611686018427387904 := by omega
  have hK0 : 0 ≤ K := by omega
  unfold tooL
  generalize behindL s (k + 1) = p at *
  obtain ⟨p1, p2⟩ := p
  unfold pairV at HB
  dsimp only at HB ⊢
  rw [← hK]
  clear h hk hz hend hK c1 c2
  by_cases h1 : i < p1
  · have h1' : (i : Int) < (p1 : Int) := by omega
    rw [decide_eq_true h1]
    go_enter Tryz.func42, Tryz.ntmps42
    go_wp2_with (go_at_call 40; refine HB.out.mono ?_; rintro e w1 ⟨rfl, hb⟩; have z1 := HC1.out w1 hb; have z2 := HC2.out w1 hb)
    go_ret
    exact ⟨rfl, hb⟩
  · have h1' : ¬ (i : Int) < (p1 : Int) := by omega
    rw [decide_eq_false h1]
    go_enter Tryz.func42, Tryz.ntmps42
    go_wp2_with (go_at_call 40; refine HB.out.mono ?_; rintro e w1 ⟨rfl, hb⟩; have z1 := HC1.out w1 hb; have z2 := HC2.out w1 hb)
    go_ret
    exact ⟨rfl, hb⟩
end
end Go.Proofs.YtdbaajgkcjpnoaaGreat.Rg

/-! Hint, Shrink, Copy of package rlog, as contracts of calls. -/
namespace Go.Proofs.YtdbaajgkcjpnoaaGreat.Rg
open Go.RowKit By CoP Co Mo Kd

def LStepK (g : Nat) (s' : Lg) (S : Nat → Prop) (w w' : World) : Prop := ∃ v' S', LogIs w' g s' v' S' ∧ (∀ b, S' b → S b ∨ w.heap.size ≤ b) ∧ Kept S w w'
theorem set3_row {w : World} {g : Nat} {a b c : Value} {t : TypeId} (h : w.heap[g]? = some (.cells #[a, b, c] t (0, 0))) (x y z : Value) : (((w.setCell ⟨g, 2, none⟩ z).setCell ⟨g, 0, none⟩ x).setCell ⟨g, 1, none⟩ y).heap[g]? = some (.cells #[x, y, z] t (0, 0)) := by
  obtain ⟨w1, e1⟩ : ∃ w1, w1 = w.setCell ⟨g, 2, none⟩ z := ⟨_, rfl⟩
  have h1 : w1.heap[g]? = some (.cells #[a, b, z] t (0, 0)) := by rw [e1]; exact heap_setCell_same w g 2 _ _ _ h
  rw [← e1]
  obtain ⟨w2, e2⟩ : ∃ w2, w2 = w1.setCell ⟨g, 0, none⟩ x := ⟨_, rfl⟩
  have h2 : w2.heap[g]? = some (.cells #[x, b, z] t (0, 0)) := by rw [e2]; exact heap_setCell_same w1 g 0 _ _ _ h1
  rw [← e2]
  exact heap_setCell_same w2 g 1 _ _ _ h2
theorem shrunk {w w1 w2 : World} {g : Nat} {s : Lg} {A A2 : Option Addr} {c c2 : Nat} {S : Nat → Prop} {i r : Nat} {l : List En} {m : Nat} (hm : m = l.length) (h : LogIs w g s (.slice A s.es.length c) S) (hok : Ok ⟨i, r, l⟩) (hb : Below w.heap.size w w1) (ho : w2.ownsRow 0 tEnt 4 (.slice A2 m c2) m (eRow l))
    (hv : (Value.slice A2 m c2).ownBlock = (Value.slice A s.es.length c).ownBlock) (hk : Kept (fun q => (Value.slice A s.es.length c).ownBlock = some q) w1 w2) (hrow : w2.heap[g]? = some (.cells #[.int .u64 (s.ix : Int), .int .u64 (s.tm : Int), .slice A s.es.length c] tLog (0, 0))) :
    LStepK g ⟨i, r, l⟩ S w (((w2.setCell ⟨g, 2, none⟩ (.slice A2 m c2)).setCell ⟨g, 0, none⟩ (.int .u64 (i : Int))).setCell ⟨g, 1, none⟩ (.int .u64 (r : Int))) := by
  subst hm
  have hold : ∀ b, b ≠ g → (((w2.setCell ⟨g, 2, none⟩ (.slice A2 l.length c2)).setCell ⟨g, 0, none⟩ (.int .u64 (i : Int))).setCell ⟨g, 1, none⟩ (.int .u64 (r : Int))).heap[b]? = w2.heap[b]? := fun b hne => by
    rw [Below.heap_setCell _ _ _ _ hne, Below.heap_setCell _ _ _ _ hne, Below.heap_setCell _ _ _ _ hne]
  have hk3 : Kept S w (((w2.setCell ⟨g, 2, none⟩ (.slice A2 l.length c2)).setCell ⟨g, 0, none⟩ (.int .u64 (i : Int))).setCell ⟨g, 1, none⟩ (.int .u64 (r : Int))) :=
    ((((Kept.of_below (M := S) hb).step hk (fun b _ e => (h.inv b e).1)).setCell (p := ⟨g, 2, none⟩) (fun _ => h.ing) _).setCell (p := ⟨g, 0, none⟩) (fun _ => h.ing) _).setCell (p := ⟨g, 1, none⟩) (fun _ => h.ing) _
  refine ⟨.slice A2 l.length c2, S, ⟨set3_row hrow _ _ _, ?_, h.ing, fun b e => h.inv b (hv ▸ e), fun b e => Nat.lt_of_lt_of_le (h.lt b e) hk3.size, hok⟩, fun b e => .inl e, hk3⟩
  exact ownsRow_keep ho (fun b e => hold b (h.inv b (hv ▸ e)).2)
section
variable {g : Nat} {s : Lg} {v : Value} {S : Nat → Prop} (w : World)
set_option maxRecDepth 100000 in
set_option maxHeartbeats 1600000 in
theorem hint_any (h : LogIs w g s v S) (i t : Nat) (hn : s.es.length ≤ 1073741823) : Calls Tryz.prog 20 #[ptr g, .int .u64 (i : Int), .int .u64 (t : Int)] w (RetB (pairV (hintL s i t)) w) := by
  have q := logTest
  obtain ⟨A, c, rfl⟩ := ownsRow_form h.own
  obtain ⟨w1, e1⟩ : ∃ w1, w1 = w.alloc (.cells #[ptr g] 24) := ⟨_, rfl⟩
  obtain ⟨w2, e2⟩ : ∃ w2, w2 = w1.alloc (.cells #[.int .u64 (i : Int)] 22) := ⟨_, rfl⟩
  obtain ⟨w3, e3⟩ : ∃ w3, w3 = w2.alloc (.cells #[.int .u64 (t : Int)] 22) := ⟨_, rfl⟩
  have z1 : w1.heap.size = w.heap.size + 1 := by rw [e1, World.size_alloc]
  have z2 : w2.heap.size = w.heap.size + 2 := by rw [e2, World.size_alloc, z1]
  have z3 : w3.heap.size = w.heap.size + 3 := by rw [e3, World.size_alloc, z2]
  have r0 : w3.heap[w.heap.size]? = some (.cells #[ptr g] 24 (0, 0)) := by rw [e3, heap_alloc_old _ _ (by omega), e2, heap_alloc_old _ _ (by omega), e1]; exact heap_alloc_new _ _
  have r1 : w3.heap[w.heap.size + 1]? = some (.cells #[.int .u64 (i : Int)] 22 (0, 0)) := by rw [e3, heap_alloc_old _ _ (by omega), e2, ← z1]; exact heap_alloc_new _ _
  have r2 : w3.heap[w.heap.size + 2]? = some (.cells #[.int .u64 (t : Int)] 22 (0, 0)) := by rw [e3, ← z2]; exact heap_alloc_new _ _
  have hb3 : Below w.heap.size w w3 := by
    rw [e3]; refine Below.alloc ?_ (by omega) _
    rw [e2]; refine Below.alloc ?_ (by omega) _
    rw [e1]; exact (Below.refl _ _).alloc (Nat.le_refl _) _
  have HALL := Lib.hid (show ∀ W, Below w3.heap.size w3 W → W.cell? ⟨w.heap.size, 0, none⟩ = some (ptr g) ∧ W.cell? ⟨w.heap.size + 1, 0, none⟩ = some (.int .u64 (i : Int)) ∧ W.cell? ⟨w.heap.size + 2, 0, none⟩ = some (.int .u64 (t : Int)) ∧ W.cell? ⟨g, 2, none⟩ = some (.slice A s.es.length c) from fun W hW => by
    have y0 := (hW.block _ (row_lt r0)).trans r0
    have y1 := (hW.block _ (row_lt r1)).trans r1
    have y2 := (hW.block _ (row_lt r2)).trans r2
    exact ⟨by rw [cell_of_row W _ 0 _ _ _ y0]; rfl, by rw [cell_of_row W _ 0 _ _ _ y1]; rfl, by rw [cell_of_row W _ 0 _ _ _ y2]; rfl, (h.below (By.ext hb3 hW)).cells.2.2⟩)
  have HS := Lib.hid (fun W (hW : Below w3.heap.size w3 W) => search_any s.es.length w.heap.size (w.heap.size + 1) (w.heap.size + 2) (tooL s i t) W (by omega) (tooL_mono h.ok i t) (fun k w' hk hb => by
    obtain ⟨d0, d1, d2, _⟩ := HALL.out w' (By.ext hW hb)
    exact hint1_any w' (h.below (By.ext hb3 (By.ext hW hb))) _ _ _ i t d0 d1 d2 k hk ⟨by have := hb.size; have := hW.size; omega, by have := hb.size; have := hW.size; omega, by have := hb.size; have := hW.size; omega⟩))
  have HBH := Lib.hid (fun W n (hW : Below w.heap.size w W) (hn : n ≤ s.es.length) => behind_any W (h.below hW) n hn _ rfl)
  have HAT := Lib.hid (fun (n : Nat) (hn : n ≤ s.es.length) h1 h2 => hint_at h.ok i t hn h1 h2)
  have HB3 := Lib.hid hb3
  clear r0 r1 r2 hb3 z1 z2 z3 h
  go_enter Tryz.func20, Tryz.ntmps20
  go_upto_region 3 with fail
  rw [← e1, ← e2, ← e3]
  clear e1 e2 e3
  have HW0 := Lib.hid (show Below w3.heap.size w3 w3.drew from (Below.refl _ _).drew)
  have HT1 := Lib.hid trivial
  go_region_held3 (fun w' => w'.cell? ⟨w.heap.size, 0, none⟩ = some (ptr g) ∧ w'.cell? ⟨w.heap.size + 1, 0, none⟩ = some (.int .u64 (i : Int)) ∧ w'.cell? ⟨w.heap.size + 2, 0, none⟩ = some (.int .u64 (t : Int)) ∧ w'.cell? ⟨g, 2, none⟩ = some (.slice A s.es.length c))
    (first
      | with_reducible assumption
      | exact HALL.out _ HW0.out
      | exact HALL.out _ HW1.out
      | exact HALL.out _ HW2.out)
    (first
      | (go_at_call 41; clear HT1; refine (HS.out _ HW0.out).mono ?_; rintro e wx ⟨n, rfl, hn1, hn2, hn3, hbx⟩
         have HAN := Lib.hid (HAT.out n hn1 hn2 hn3)
         have HN1 := Lib.hid hn1
         have HW1 := Lib.hid (By.ext HW0.out hbx)
         clear hn1 hn2 hn3 hbx)
      | (go_at_call 40; refine (HBH.out _ n (By.ext HB3.out HW1.out) HN1.out).mono ?_; rw [HAN.out]; unfold pairV; rintro e wy ⟨rfl, hby⟩
         have HW2 := Lib.hid (By.ext HW1.out hby)
         clear hby))
  go_wp2
  go_ret2
  exact ⟨rfl, By.ext HB3.out HW2.out⟩
set_option maxRecDepth 100000 in
set_option maxHeartbeats 1600000 in
theorem shrink_any (h : LogIs w g s v S) (i : Nat) : Calls Tryz.prog 26 #[ptr g, .int .u64 (i : Int)] w (fun e w' => e = .returned (.int .i64 (termR s i).2) ∧ LStepK g (shrS s i) S w w') := by
  have HT := Lib.hid (term_any w h i)
  by_cases h0 : (termR s i).2 = 0
  · have hs : shrS s i = shrinkL s i (termR s i).1 := by unfold shrS; rw [if_pos h0]
    have hok : Ok (shrinkL s i (termR s i).1) := by rw [← hs]; exact h.ok.shr i
    have hf := fits_of_term h.ok.inv h0
    obtain ⟨q1, q2, _⟩ := end_fits h.ok.inv hf
    obtain ⟨k, hk⟩ : ∃ k, i = s.ix + k := ⟨i - s.ix, by omega⟩
    have hkl : k ≤ s.es.length := by omega
    have hes : (shrinkL s i (termR s i).1).es = s.es.drop k := by
      unfold shrinkL
      dsimp only
      rw [chain_filter_gt h.ok.inv, show i - s.ix = k by omega]
    have hsh : shrinkL s i (termR s i).1 = ⟨i, (termR s i).1, s.es.drop k⟩ := by rw [← hes]; rfl
    rw [hs, h0]
    rw [hsh] at hok ⊢
    obtain ⟨r, hr⟩ : ∃ r, r = termR s i := ⟨_, rfl⟩
    rw [← hr] at HT h0 hok ⊢
    obtain ⟨r1, r2⟩ := r
    dsimp only at h0 hok ⊢
    subst h0
    unfold errV at HT
    dsimp only at HT
    obtain ⟨A, c, rfl⟩ := ownsRow_form h.own
    have hend := h.ok.end_
    have W1 : IntKind.u64.wrap ((i : Int) - (s.ix : Int)) = (k : Int) := by rw [show (i : Int) - (s.ix : Int) = (k : Int) by omega]; exact wrap_u (by omega) (by omega)
    have W3 : IntKind.i64.wrap (k : Int) = (k : Int) := by simp [IntKind.wrap, IntKind.bits, IntKind.signed]; omega
    have HD := Lib.hid (fun (w' : World) (hb : Below w.heap.size w w') => delete_any (.slice A s.es.length c) s.es 0 k 0 (k : Int) rfl rfl w' (Nat.zero_le _) hkl (h.below hb).own)
    have HH := Lib.hid h
    have HOK := Lib.hid hok
    clear h hs hok hf q1 q2 hk hkl hes hsh hr hend
    go_enter Tryz.func26, Tryz.ntmps26
    go_upto_region 4 with (go_at_call 19; refine HT.out.mono ?_; rintro e w1 ⟨rfl, hb⟩; obtain ⟨c0, c1, c2⟩ := (HH.out.below hb).cells; have HB1 := Lib.hid hb; clear hb)
    have hglt : g < w1.heap.size := Nat.lt_of_lt_of_le (HH.out.lt g HH.out.ing) HB1.out.size
    have HROW1 := Lib.hid (HH.out.below HB1.out).row
    go_region_law (go_simp; go_at_call 44; refine (HD.out _ HB1.out.drew).mono ?_; rintro e w2 ⟨v2, rfl, hv2, ho2, hk2⟩
                   rw [List.take_zero, List.nil_append, List.length_drop] at ho2
                   obtain ⟨A2, k2, rfl⟩ := ownsRow_form ho2
                   have hrow2 := (hk2.block g hglt (fun e => (HH.out.inv g e).2 rfl)).trans HROW1.out
                   have z2 : w2.cell? ⟨g, 2, none⟩ = some (.slice A s.es.length c) := by rw [cell_of_row w2 g 2 _ _ _ hrow2]; rfl
                   have f2 := frozen_of_row w2 g 2 _ _ hrow2
                   have f1 := frozen_of_row w2 g 1 _ _ hrow2
                   have f0 := frozen_of_row w2 g 0 _ _ hrow2
                   have z1 : w2.cell? ⟨g, 1, none⟩ = some (.int .u64 (s.tm : Int)) := by rw [cell_of_row w2 g 1 _ _ _ hrow2]; rfl
                   have z0 : w2.cell? ⟨g, 0, none⟩ = some (.int .u64 (s.ix : Int)) := by rw [cell_of_row w2 g 0 _ _ _ hrow2]; rfl
                   have HV2 := Lib.hid hv2
                   have HO2 := Lib.hid ho2
                   have HK2 := Lib.hid hk2
                   have HROW2 := Lib.hid hrow2
                   clear hv2 ho2 hk2 hrow2)
    all_goals
      go_wp2
      go_ret
      exact ⟨rfl, shrunk (by rw [List.length_drop]) HH.out HOK.out HB1.out HO2.out HV2.out ⟨HK2.out.os, HK2.out.tape, HK2.out.output, HK2.out.size, HK2.out.block⟩ HROW2.out⟩
  · have hs : shrS s i = s := by unfold shrS; rw [if_neg h0]
    rw [hs]
    have h0b : ((termR s i).2 == (0 : Int)) = false := beq_eq_false_iff_ne.2 h0
    have h0c : ((termR s i).2 != (0 : Int)) = true := by unfold bne; rw [h0b]; rfl
    have HH := Lib.hid h
    generalize termR s i = r at *
    obtain ⟨r1, r2⟩ := r
    unfold errV at HT
    dsimp only at HT h0 h0b h0c ⊢
    clear h hs
    go_enter Tryz.func26, Tryz.ntmps26
    go_wp2_with (go_at_call 19; refine HT.out.mono ?_; rintro e w1 ⟨rfl, hb⟩; have HB1 := Lib.hid hb; clear hb)
    go_ret
    exact ⟨rfl, v, S, HH.out.below HB1.out, fun b hb => .inl hb, Kept.of_below HB1.out⟩
/-- Gives a log of the call's own. -/
def CopyPost (s : Lg) (w : World) (e : Ending) (w' : World) : Prop := ∃ (g : Nat) (v' : Value) (S' : Nat → Prop), e = .returned (ptr g) ∧ LogIs w' g s v' S' ∧ (∀ b, S' b → w.heap.size ≤ b) ∧ Below w.heap.size w w'
theorem copied {wx : World} (hok : Ok s) (hb : Below w.heap.size w wx) (h1 : wx.ownsRow w.heap.size tEnt 4 v s.es.length (eRow s.es)) :
    CopyPost s w (.returned (ptr wx.heap.size)) (wx.alloc (.cells #[.int .u64 (s.ix : Int), .int .u64 (s.tm : Int), v] tLog)) := by
  have hz := hb.size
  refine ⟨wx.heap.size, v, fun b => w.heap.size ≤ b ∧ b < wx.heap.size + 1, rfl, ⟨heap_alloc_new wx _, ?_, ⟨hz, by omega⟩, fun b hb => ?_, fun b hb => by rw [World.size_alloc]; exact hb.2, hok⟩, fun b hb => hb.1, hb.alloc hz _⟩
  · exact ownsRow_base (ownsRow_keep h1 (fun b hb => heap_alloc_old _ _ (ownsRow_lt h1 hb).2)) (Nat.zero_le _)
  · have := ownsRow_lt h1 hb; exact ⟨⟨this.1, by omega⟩, by omega⟩
theorem copy_nil : Calls Tryz.prog 11 #[.pointer none] w (RetB (.pointer none) w) := by
  have q := logTest
  go_enter Tryz.func11, Tryz.ntmps11
  go_wp2
  go_ret
  exact ⟨rfl, Below.refl _ _⟩
theorem shrink_nil (i : Int) : Calls Tryz.prog 26 #[.pointer none, .int .u64 i] w (RetB (.int .i64 1) w) := by
  go_enter Tryz.func26, Tryz.ntmps26
  go_wp2_with (go_at_call 19; refine (term_nil _ _).mono ?_; unfold errV; rintro e w1 ⟨rfl, hb⟩)
  go_ret
  exact ⟨rfl, hb⟩
theorem from_nil (i : Int) (n : Int) : Calls Tryz.prog 25 #[.pointer none, .int .u64 i, .int .i64 n] w (RetB (.tuple #[.slice none 0 0, .int .i64 1]) w) := by
  have q := logTest
  go_enter Tryz.func25, Tryz.ntmps25
  go_wp2
  go_ret2
  exact ⟨rfl, Below.refl _ _⟩
set_option maxRecDepth 100000 in
set_option maxHeartbeats 1600000 in
theorem copy_any (h : LogIs w g s v S) (hn : s.es.length ≤ 1073741823) : Calls Tryz.prog 11 #[ptr g] w (CopyPost s w) := by
  have q := logTest
  obtain ⟨A, c, rfl⟩ := ownsRow_form h.own
  have HOK := Lib.hid h.ok
  have HALL := Lib.hid (fun w' (hb : Below w.heap.size w w') => (h.below hb).cells)
  have HC := Lib.hid (fun w' (hb : Below w.heap.size w w') => cloneE_any (.slice A s.es.length c) s.es w' (h.below hb).own hn)
  clear h
  go_enter Tryz.func11, Tryz.ntmps11
  go_upto_region 3 with fail
  have HB0 := Lib.hid (show Below w.heap.size w w.drew from (Below.refl _ _).drew)
  have HT1 := Lib.hid trivial
  go_region_held3 (fun w' => w'.cell? ⟨g, 0, none⟩ = some (.int .u64 (s.ix : Int)) ∧ w'.cell? ⟨g, 1, none⟩ = some (.int .u64 (s.tm : Int)) ∧ w'.cell? ⟨g, 2, none⟩ = some (.slice A s.es.length c))
    (first
      | with_reducible assumption
      | exact HALL.out _ HB0.out
      | exact HALL.out _ HB1.out
      | exact HALL.out _ (HB1.out.alloc HB1.out.size _))
    (first
      | (go_at_call 28; clear HT1; refine (HC.out _ HB0.out).mono ?_; rintro e wx ⟨v1, rfl, ho, hbx⟩
         obtain ⟨A1, c1, rfl⟩ := ownsRow_form ho
         have HO1 := Lib.hid (ownsRow_base ho HB0.out.size)
         have HB1 := Lib.hid (By.ext HB0.out hbx)
         clear ho hbx))
  go_wp2
  go_ret
  exact copied w HOK.out HB1.out HO1.out
end
end Go.Proofs.YtdbaajgkcjpnoaaGreat.Rg
