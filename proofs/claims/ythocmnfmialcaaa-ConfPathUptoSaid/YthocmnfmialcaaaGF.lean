/- Package scupperref03's reader: Int, Data, Whole, as contracts of calls. | Package scupperref03's reader: an entry, as a contract of a call. | Package scupperref03's reader: a list of numbers, as a contract of a call; ints of the call's own. | Package scupperref03's reader: a configuration, as a contract of a call. Written by mkin.py. | Package scupperref03's tests of lists of numbers, as contracts of calls. | Package scupperref03's test of a configuration, as a contract of a call. | Package scupperref03's reading of a configuration's bytes, as a contract of a call. | Package msg's rises, as a contract of a call. -/
import Derived.Test.YthocmnfmialcaaaGB
import Derived.Deep.QuietTactic
import Derived.BigQuiet
import Derived.Deep.RegionLaw
/-! Package scupperref03's reader: Int, Data, Whole, as contracts of calls. -/
namespace Go.Proofs.Ythocmnfmialcaaa.Mo
open Go.RowKit By CoP Co

theorem bytesR_facts (b : List UInt8) : (bytesR b).2.2 = 0 → (bytesR b).2.1 ≤ b.length := by
  have h := numR_facts b
  intro h0
  by_cases h1 : (numR b).2.2 = 0
  · by_cases h2 : b.length - (numR b).2.1 < (numR b).1
    · simp [bytesR, h1, h2] at h0
    · have := (h h1).1
      simp only [bytesR, h1, h2, ne_eq, not_true_eq_false, if_false]
      omega
  · simp [bytesR, h1] at h0
/-- Was all read, and right? -/
def pWhole : St → Bool
  | some [] => true
  | _ => false
end Go.Proofs.Ythocmnfmialcaaa.Mo

/-! Package scupperref03's reader: an entry, as a contract of a call. -/
namespace Go.Proofs.Ythocmnfmialcaaa.Mo
open Go.RowKit By CoP Co

theorem pNum_lt (s : St) : (pNum s).1 < 18446744073709551616 := by
  cases s with
  | none => simp [pNum]
  | some r =>
    by_cases h : (numR r).2.2 = 0
    · have := (numR_facts r h).2
      simp [pNum, h, this]
    · simp [pNum, h]
theorem pInt_le (most : Nat) (s : St) : (pInt most s).1 ≤ most := by
  unfold pInt
  split
  · exact Nat.zero_le _
  · omega
theorem grown_set_new {w w1 : World} {r : Option Nat} (h : w.grownBy w1 r) (p : Addr) (hp : w.heap.size ≤ p.block) (u : Value) : w.grownBy (w1.setCell p u) r :=
  ⟨h.os, h.tape, h.output, by simpa [World.setCell] using h.size, fun k hk hr => (heap_setCell_other w1 p k u (by omega)).trans (h.block k hk hr)⟩

theorem own_grown {base : Nat} {w w' : World} {v : Value} {l : List UInt8} (h : Own base w v l) {g : Nat} (hg : w.grownBy w' (some g)) (hne : some g ≠ v.ownBlock) : Own base w' v l := by
  refine ⟨h.1, ?_⟩
  rcases h.2 with hn | ⟨k, cap, cur, rfl, hb, hk, rest⟩
  · exact .inl hn
  · exact .inr ⟨k, cap, cur, rfl, hb, (hg.block k (row_lt hk) (fun e => hne (by rw [← e]; rfl))).trans hk, rest⟩

/-- It is read. -/
def pEntry (s : St) : (Nat × Nat × Nat × Int × List UInt8) × St :=
  let a0 := pNum s
  let a1 := pNum a0.2
  let a2 := pInt 3 a1.2
  let a3 := pNum a2.2
  let a4 := pData a3.2
  ((a0.1, a1.1, a2.1, wrap64 (a3.1 : Nat), a4.1), a4.2)
end Go.Proofs.Ythocmnfmialcaaa.Mo

/-! Package scupperref03's reader: a list of numbers, as a contract of a call; ints of the call's own. -/
namespace Go.Proofs.Ythocmnfmialcaaa.Mo
open Go.RowKit By CoP Co

def ivs (l : List Nat) : List Value := l.map fun (x : Nat) => .int .i64 (x : Int)
/-- Ints of the call's own, in a row. -/
def OwnI (base : Nat) (w : World) (v : Value) (l : List Nat) : Prop := w.ownsRow base 3 1 v l.length (ivs l)
theorem intInfo : (Try.prog.info? 3).map (fun i => (i.zero, i.size, i.bytes)) = some (some (.int .i64 0), 1, 8) := by kernel_rfl
theorem wpList_pushI {ops : Array Oper} {rest : List Oper} {o : Oper} {a : Act} {Q : Exit → Act → World → Prop} {w0 : World} (hgd : o.guard = none) (s x : Operand)
    (ho : o.op = .call { callee := .builtin .append, args := #[s, x], argTypes := #[22, 22] })
    {base : Nat} {v : Value} {l : List Nat} {y : Nat} (hs : a.eval s = v) (hown : OwnI base w0 v l) (hx : a.eval x = .slice (some ⟨w0.heap.size, 0, none⟩) 1 1)
    (hsz : l.length + 1 ≤ 1048577) (hbase : base ≤ w0.heap.size)
    (h : ∀ v' w', OwnI base w' v' (l ++ [y]) → (w0.alloc (.cells #[.int .i64 (y : Int)] 3)).grownBy w' v.ownBlock → wpList Try.prog ops Q rest (a.put o.dst v') w') :
    wpList Try.prog ops Q (o :: rest) a (w0.alloc (.cells #[.int .i64 (y : Int)] 3)) :=
  wpList_plain hgd fun K hK => by
    obtain ⟨i0, hi, hz0, hz1, hz2⟩ := info_parts intInfo
    have hnews := World.news_of_block (heap_alloc_new w0 (.cells #[.int .i64 (y : Int)] 3))
    obtain ⟨v', w', hrun, h2, h3, _⟩ := run_append_own (P := Try.prog) (w0.alloc (.cells #[.int .i64 (y : Int)] 3)) base 22 o.type 3 i0 (.int .i64 0) 1 8 Try.underlying22 hi hz0 hz1 hz2 rfl (by decide) v l.length (ivs l)
      (World.ownsRow.alloc hown _) ⟨w0.heap.size, 0, none⟩ 1 1 [.int .i64 (y : Int)] rfl hnews (by intro u hu; simp at hu; subst hu; rfl) (by unfold maxLen; omega) (by omega) (by rw [World.size_alloc]; omega)
    exact wp_app_run s x _ ho hs hx hrun (hK _ _ (h v' w' (by unfold OwnI; rw [List.length_append]; simpa [ivs] using h2) h3))
theorem OwnI.nil (base : Nat) (w : World) : OwnI base w (.slice none 0 0) [] := World.ownsRow_nil w base _ 1
theorem ownI_ne {base : Nat} {w : World} {v : Value} {l : List Nat} (h : OwnI base w v l) {g : Nat} {cs : Array Value} {t : TypeId} {fr : Nat × Nat} (hg : w.heap[g]? = some (.cells cs t fr)) (hne : t ≠ 3) : some g ≠ v.ownBlock := by
  rcases h.2 with ⟨rfl, _⟩ | ⟨k, cap, cur, rfl, _, hk, _⟩
  · intro e; cases e
  · intro e
    have : g = k := by simpa [Value.ownBlock] using e
    subst this
    rw [hg] at hk
    injection hk with hk
    injection hk with _ ht
    exact hne ht
theorem OwnI.lt {base : Nat} {w : World} {v : Value} {l : List Nat} (h : OwnI base w v l) : ∀ k, v.ownBlock = some k → base ≤ k ∧ k < w.heap.size := World.ownsRow.lt h
theorem ownI_grown {base : Nat} {w w' : World} {v : Value} {l : List Nat} (h : OwnI base w v l) {g : Nat} (hg : w.grownBy w' (some g)) (hne : some g ≠ v.ownBlock) : OwnI base w' v l := by
  refine ⟨h.1, ?_⟩
  rcases h.2 with hn | ⟨k, cap, cur, rfl, hb, hk, rest⟩
  · exact .inl hn
  · exact .inr ⟨k, cap, cur, rfl, hb, (hg.block k (row_lt hk) (fun e => hne (by rw [← e]; rfl))).trans hk, rest⟩
theorem OwnI.form {base : Nat} {w : World} {v : Value} {l : List Nat} (h : OwnI base w v l) : ∃ A c, v = .slice A l.length c ∧ l.length ≤ c ∧ c ≤ maxLen := by
  rcases h.2 with ⟨rfl, h0⟩ | ⟨g, cap, cur, rfl, _, _, hn, hm, _⟩
  · exact ⟨none, 0, by rw [h0], by omega, Nat.zero_le _⟩
  · exact ⟨_, cap, rfl, hn, hm⟩
theorem ownI_other {base : Nat} {w : World} {v : Value} {l : List Nat} (h : OwnI base w v l) {p : Addr} (hp : some p.block ≠ v.ownBlock) (u : Value) : OwnI base (w.setCell p u) v l := by
  refine ⟨h.1, ?_⟩
  rcases h.2 with hn | ⟨k, cap, cur, rfl, hb, hk, rest⟩
  · exact .inl hn
  · refine .inr ⟨k, cap, cur, rfl, hb, ?_, rest⟩
    rw [heap_setCell_other w p k u (fun e => hp (by simp [Value.ownBlock, e]))]
    exact hk
theorem OwnI.more {base base' : Nat} {w : World} {v : Value} {l : List Nat} (h : OwnI base w v l) (hb : base' ≤ base) : OwnI base' w v l := by
  refine ⟨h.1, ?_⟩
  rcases h.2 with hn | ⟨g, cap, cur, hv, hg, rest⟩
  · exact .inl hn
  · exact .inr ⟨g, cap, cur, hv, by omega, rest⟩

/-- So many numbers are read, until one is bad. -/
def pIdsL : Nat → St → List Nat × St
  | 0, s => ([], s)
  | _ + 1, none => ([], none)
  | k + 1, some r => ((pInt 16 (some r)).1 :: (pIdsL k (pInt 16 (some r)).2).1, (pIdsL k (pInt 16 (some r)).2).2)
def pIds (s : St) : List Nat × St := pIdsL (pInt 16 s).1 (pInt 16 s).2

theorem pIdsL_none (k : Nat) : pIdsL k none = ([], none) := by cases k <;> rfl

end Go.Proofs.Ythocmnfmialcaaa.Mo

/-! Package scupperref03's reader: a configuration, as a contract of a call. Written by mkin.py. -/
namespace Go.Proofs.Ythocmnfmialcaaa.Mo
open Go.RowKit By CoP Co

/-- It is read. -/
def pConf (s : St) : (List Nat × List Nat) × St :=
  let a0 := pIds s
  let a1 := pIds a0.2
  ((a0.1, a1.1), a1.2)
end Go.Proofs.Ythocmnfmialcaaa.Mo

/-! Package scupperref03's tests of lists of numbers, as contracts of calls. -/
namespace Go.Proofs.Ythocmnfmialcaaa.Mo
open Go.RowKit By CoP Co

set_option maxHeartbeats 400000 in
theorem has_any (A : Option Addr) (n c B : Nat) (l : List Int) (hn : n = l.length) (hm : n ≤ 140737488355328) (x : Int) (hx0 : -9223372036854775808 ≤ x) (hx1 : x ≤ 9223372036854775807) (w : World) (hr : LiesI w B A l) :
    Calls Try.prog 22 #[.slice A n c, .int .i64 x] w (Ret (.bool (decide (x ∈ l))) w) := by
  have HN := Lib.hid hn
  have HR := Lib.hid hr
  clear hn hr
  go_enter Try.func22, Try.ntmps22
  go_wp2
  go_loopw [5] (fun i wr => ∃ k : Nat, k ≤ n ∧ i = .int .i64 k ∧ wr = w ∧ x ∉ l.take k) (fun i _ => n - (intOf i).toNat)
  case atStart => exact ⟨0, Nat.zero_le _, rfl, rfl, by simp⟩
  case round =>
    obtain ⟨k, hk, rfl, rfl, hno⟩ := hrel
    have HNO := Lib.hid hno
    clear hno
    by_cases hkn : k < n
    · have hkl : k < l.length := by have := HN.out; omega
      obtain ⟨g, o, rfl, hg, hc, hy0, hy1⟩ := HR.out.at_ hkl
      have HT := Lib.hid (List.take_succ_eq_append_getElem hkl)
      have HM := Lib.hid (List.getElem_mem hkl)
      generalize l[k] = y at hc hy0 hy1 HT HM
      clear hkl
      by_cases he : y = x
      · subst he
        have HD := Lib.hid (decide_eq_true HM.out)
        go_wp2
        go_ret
        rw [HD.out]
        exact ⟨rfl, rfl⟩
      · have hno2 : x ∉ l.take (k + 1) := by
          rw [HT.out, List.mem_append, List.mem_singleton]
          exact fun h => h.elim HNO.out (fun e => he e.symm)
        have HNO2 := Lib.hid hno2
        clear hno2 HNO HT HM
        go_wp2
        go_roundw
        case rel => exact ⟨k + 1, by omega, by go_num, trivial, HNO2.out⟩
        case measure => simp [intOf]; omega
    · obtain rfl : k = n := by omega
      have hno := HNO.out
      rw [List.take_of_length_le (by have := HN.out; omega)] at hno
      have HD := Lib.hid (decide_eq_false hno)
      clear hno HNO
      go_wp2
      go_ret
      rw [HD.out]
      exact ⟨rfl, rfl⟩

/-- Gives a value; memory as it was. -/
def RetQ (v : Value) (w : World) (e : Ending) (w' : World) : Prop := e = .returned v ∧ ∃ q, w' = w.drewN q
theorem drewN2 (w : World) (q r : Nat) : (w.drewN q).drewN r = w.drewN (q + r) := by simp [World.drewN, Nat.add_assoc]
/-- From 1 to 16, and rising. -/
def risingFrom : Int → List Int → Bool
  | _, [] => true
  | p, x :: t => decide (1 ≤ x) && decide (x ≤ 16) && decide (p < x) && risingFrom x t
def risingB (l : List Int) : Bool := risingFrom 0 l
theorem risingFrom_drop (p : Int) (l : List Int) (k : Nat) (h : k < l.length) : risingFrom p (l.drop k) = (decide (1 ≤ l[k]) && decide (l[k] ≤ 16) && decide (p < l[k]) && risingFrom l[k] (l.drop (k + 1))) := by
  rw [List.drop_eq_getElem_cons h]; rfl

set_option maxHeartbeats 800000 in
theorem rising_any (A : Option Addr) (n c B : Nat) (l : List Int) (hn : n = l.length) (hm : n ≤ 140737488355328) (w : World) (hr : LiesI w B A l) :
    Calls Try.prog 29 #[.slice A n c] w (RetQ (.bool (risingB l)) w) := by
  have HN := Lib.hid hn
  have HR := Lib.hid hr
  clear hn hr
  go_enter Try.func29, Try.ntmps29
  go_wp2
  go_loopw [3] (fun i wr => ∃ (k q : Nat) (p : Int), k ≤ n ∧ i = .int .i64 k ∧ wr = w.drewN q ∧ risingB l = risingFrom p (l.drop k) ∧ ((k = 0 ∧ p = 0) ∨ (0 < k ∧ l[k - 1]? = some p))) (fun i _ => n - (intOf i).toNat)
  case atStart => exact ⟨0, 0, 0, Nat.zero_le _, rfl, rfl, rfl, .inl ⟨rfl, rfl⟩⟩
  case round =>
    obtain ⟨k, q, p, hk, rfl, rfl, hri, hp⟩ := hrel
    by_cases hkn : k < n
    · have hkl : k < l.length := by have := HN.out; omega
      rw [risingFrom_drop p l k hkl] at hri
      obtain ⟨g, o, rfl, hg, hc, hy0, hy1⟩ := HR.out.at_ hkl
      have hlk : l[k]? = some l[k] := List.getElem?_eq_getElem hkl
      have hp2 : 0 < k → w.cell? ⟨g, o + (k - 1), none⟩ = some (.int .i64 p) ∧ -9223372036854775808 ≤ p ∧ p ≤ 9223372036854775807 := fun h0 => by
        rcases hp with ⟨h1, _⟩ | ⟨_, h1⟩
        · omega
        · have hkl' : k - 1 < l.length := by omega
          obtain ⟨g2, o2, e, _, hc2, h2, h3⟩ := HR.out.at_ hkl'
          injection e with e
          injection e with e1 e2
          subst e1 e2
          have e3 : l[k - 1] = p := by rw [List.getElem?_eq_getElem hkl'] at h1; exact Option.some.inj h1
          rw [e3] at hc2 h2 h3
          exact ⟨hc2, h2, h3⟩
      generalize l[k] = y at hc hy0 hy1 hlk hri
      have HRI := Lib.hid hri
      have HLK := Lib.hid hlk
      have HP := Lib.hid hp
      clear hri hlk hp
      have hk47 : (k : Int) ≤ 140737488355328 := by omega
      by_cases h1 : y < 1
      · have hf : risingB l = false := by rw [HRI.out, decide_eq_false (by omega)]; rfl
        have HF := Lib.hid hf
        clear hf hp2
        go_wp2
        go_quiet (fail)
        go_wp2
        go_ret
        rw [HF.out]
        exact ⟨rfl, _, drewN2 _ _ _⟩
      · have hd1 : decide (y < 1) = false := decide_eq_false h1
        by_cases h16 : 16 < y
        · have hf : risingB l = false := by rw [HRI.out, decide_eq_false (p := y ≤ 16) (by omega)]; simp
          have HF := Lib.hid hf
          clear hf hp2
          go_wp2
          go_quiet (fail)
          go_wp2
          go_ret
          rw [HF.out]
          exact ⟨rfl, _, drewN2 _ _ _⟩
        · have hd16 : decide (16 < y) = false := decide_eq_false h16
          by_cases h0 : 0 < k
          · obtain ⟨hcp, hp0, hp1⟩ := hp2 h0
            obtain ⟨j, hj⟩ : ∃ j, k - 1 = j := ⟨_, rfl⟩
            rw [hj] at hcp
            have hji : (k : Int) - 1 = (j : Int) := by omega
            have hw : IntKind.i64.wrap ((k : Int) - 1) = (j : Int) := by rw [IntWalk.i64_in _ (by constructor <;> omega)]; exact hji
            have hk0 : (0 : Int) < (k : Int) := by omega
            have hjn : (j : Int) < (n : Int) := by omega
            by_cases hpy : y ≤ p
            · have hf : risingB l = false := by rw [HRI.out, decide_eq_false (p := p < y) (by omega)]; simp
              have HF := Lib.hid hf
              clear hf hp2 hj
              go_wp2
              go_quiet (fail)
              go_wp2
              go_ret
              rw [HF.out]
              exact ⟨rfl, _, drewN2 _ _ _⟩
            · have hdp : decide (y ≤ p) = false := decide_eq_false hpy
              have hf : risingB l = risingFrom y (l.drop (k + 1)) := by rw [HRI.out, decide_eq_true (p := 1 ≤ y) (by omega), decide_eq_true (p := y ≤ 16) (by omega), decide_eq_true (p := p < y) (by omega)]; simp
              have HF := Lib.hid hf
              clear hf hp2 hj
              go_wp2
              go_quiet (fail)
              go_wp2
              go_roundw
              case rel => exact ⟨k + 1, _, y, by omega, by go_num, rfl, HF.out, .inr ⟨by omega, HLK.out⟩⟩
              case measure => simp [intOf]; omega
          · obtain rfl : k = 0 := by omega
            rw [Nat.add_zero] at hc
            have hf : risingB l = risingFrom y (l.drop (0 + 1)) := by
              rcases HP.out with ⟨_, e⟩ | ⟨e, _⟩
              · rw [HRI.out, e, decide_eq_true (p := 1 ≤ y) (by omega), decide_eq_true (p := y ≤ 16) (by omega), decide_eq_true (p := 0 < y) (by omega)]; simp
              · omega
            have HF := Lib.hid hf
            clear hf hp2
            go_wp2
            go_quiet (fail)
            go_wp2
            go_roundw
            case rel => exact ⟨0 + 1, _, y, by omega, by go_num, rfl, HF.out, .inr ⟨by omega, HLK.out⟩⟩
            case measure => simp [intOf]; omega
    · obtain rfl : k = n := by omega
      have hf : risingB l = true := by rw [hri, List.drop_eq_nil_of_le (by have := HN.out; omega)]; rfl
      have HF := Lib.hid hf
      clear hf hri hp
      go_wp2
      go_ret
      rw [HF.out]
      exact ⟨rfl, _, rfl⟩
end Go.Proofs.Ythocmnfmialcaaa.Mo

/-! Package scupperref03's test of a configuration, as a contract of a call. -/
namespace Go.Proofs.Ythocmnfmialcaaa.Mo
open Go.RowKit By CoP Co

/-- Sound. -/
def confB (vs ls : List Int) : Bool := vs.all (fun v => decide (v ∉ ls)) && risingB vs && risingB ls && decide (0 < vs.length)
theorem LiesI.drewN {w : World} {B : Nat} {A : Option Addr} {l : List Int} (h : LiesI w B A l) (k : Nat) : LiesI (w.drewN k) B A l := h

set_option maxHeartbeats 800000 in
theorem confOK_any (B : Nat) (w : World) (A : Option Addr) (n c : Nat) (vs : List Int) (hn : n = vs.length) (hrv : LiesI w B A vs) (A2 : Option Addr) (m c2 : Nat) (ls : List Int) (hm : m = ls.length) (hrl : LiesI w B A2 ls)
    (hB : B ≤ w.heap.size) (hn47 : n ≤ 140737488355328) (hm47 : m ≤ 140737488355328) :
    Calls Try.prog 11 #[.agg #[.slice A n c, .slice A2 m c2]] w (fun e w' => e = .returned (.bool (confB vs ls)) ∧ Below w.heap.size w w') := by
  obtain ⟨w0, hw0⟩ : ∃ w0, w0 = w.alloc (.cells #[.slice A n c, .slice A2 m c2] 24) := ⟨_, rfl⟩
  have hb0 : Below w.heap.size w w0 := by rw [hw0]; exact (Below.refl _ _).alloc (Nat.le_refl _) _
  have hrow : w0.heap[w.heap.size]? = some (.cells #[.slice A n c, .slice A2 m c2] 24 (0, 0)) := by rw [hw0]; exact heap_alloc_new w _
  have hc0 : w0.cell? ⟨w.heap.size, 0, none⟩ = some (.slice A n c) := by rw [cell_of_row w0 _ 0 _ _ _ hrow]; rfl
  have hc1 : w0.cell? ⟨w.heap.size, 1, none⟩ = some (.slice A2 m c2) := by rw [cell_of_row w0 _ 1 _ _ _ hrow]; rfl
  have HN := Lib.hid hn
  have HM := Lib.hid hm
  have HRV := Lib.hid (hrv.below (hb0.mono hB))
  have HRL := Lib.hid (hrl.below (hb0.mono hB))
  have HB0 := Lib.hid hb0
  have hcb : confB vs ls = confB vs ls := rfl
  conv at hcb => rhs; unfold confB
  have HCB := Lib.hid hcb
  clear hn hm hrv hrl hb0 hrow hcb
  go_enter Try.func11, Try.ntmps11
  go_wp2
  rw [← hw0]
  clear hw0
  go_loopw [3] (fun i wr => ∃ (k q : Nat), k ≤ n ∧ i = .int .i64 k ∧ wr = w0.drewN q ∧ (vs.take k).all (fun v => decide (v ∉ ls)) = true) (fun i _ => n - (intOf i).toNat)
  case atStart => exact ⟨0, 0, Nat.zero_le _, rfl, rfl, rfl⟩
  case round =>
    obtain ⟨k, q, hk, rfl, rfl, hal⟩ := hrel
    by_cases hkn : k < n
    · have hkl : k < vs.length := by have := HN.out; omega
      obtain ⟨g, o, rfl, hg, hc, hy0, hy1⟩ := HRV.out.at_ hkl
      have hT := List.take_succ_eq_append_getElem hkl
      have hMem := List.getElem_mem hkl
      generalize vs[k] = y at hc hy0 hy1 hT hMem
      have HT := Lib.hid hT
      have HAL := Lib.hid hal
      have HMEM := Lib.hid hMem
      clear hT hal hkl hMem
      by_cases hin : y ∈ ls
      · have HIN := Lib.hid (decide_eq_true hin)
        have hf : confB vs ls = false := by
          rw [HCB.out]
          have : vs.all (fun v => decide (v ∉ ls)) = false := by
            rw [List.all_eq_false]
            exact ⟨y, HMEM.out, by simp [hin]⟩
          rw [this]; simp
        have HF := Lib.hid hf
        clear hf hin
        go_wp2
        go_region_law (go_simp; go_at_call 22; refine (has_any A2 m c2 B ls HM.out hm47 y hy0 hy1 _ (HRL.out.drewN _)).mono ?_; rintro e w2 ⟨rfl, rfl⟩; rw [HIN.out])
        all_goals
          go_wp2
          go_ret
          rw [HF.out]
          exact ⟨rfl, below_drewN HB0.out _⟩
      · have HIN := Lib.hid (decide_eq_false hin)
        have hal2 : (vs.take (k + 1)).all (fun v => decide (v ∉ ls)) = true := by
          rw [HT.out, List.all_append, HAL.out]; simp [hin]
        have HAL2 := Lib.hid hal2
        clear hal2 hin
        go_wp2
        go_region_law (go_simp; go_at_call 22; refine (has_any A2 m c2 B ls HM.out hm47 y hy0 hy1 _ (HRL.out.drewN _)).mono ?_; rintro e w2 ⟨rfl, rfl⟩; rw [HIN.out])
        all_goals
          go_wp2
          go_roundw
          case rel => exact ⟨k + 1, _, by omega, by go_num, rfl, HAL2.out⟩
          case measure => simp [intOf]; omega
    · obtain rfl : k = n := by omega
      have hcb := HCB.out
      rw [List.take_of_length_le (by have := HN.out; omega)] at hal
      rw [hal] at hcb
      have HCB2 := Lib.hid hcb
      clear hal hcb HCB
      have HV := fun w' hr => rising_any A k c B vs HN.out hn47 w' hr
      have HL := fun w' hr => rising_any A2 m c2 B ls HM.out hm47 w' hr
      have HKN := Lib.hid HN.out
      clear HN
      generalize risingB vs = bv at HV HCB2
      generalize risingB ls = bl at HL HCB2
      cases bv with
      | false =>
        have hf : confB vs ls = false := by rw [HCB2.out]; rfl
        have HF := Lib.hid hf
        clear hf
        go_wp2_with fail
        refine (HV _ (HRV.out.drewN _)).mono ?_
        rintro e w2 ⟨rfl, q2, rfl⟩
        go_wp2
        go_ret
        rw [HF.out]
        exact ⟨rfl, below_drewN HB0.out _⟩
      | true =>
        cases bl with
        | false =>
          have hf : confB vs ls = false := by rw [HCB2.out]; rfl
          have HF := Lib.hid hf
          clear hf
          go_wp2_with fail
          refine (HV _ (HRV.out.drewN _)).mono ?_
          rintro e w2 ⟨rfl, q2, rfl⟩
          go_wp2_with fail
          refine (HL _ (HRL.out.drewN _)).mono ?_
          rintro e w3 ⟨rfl, q3, rfl⟩
          go_wp2
          go_ret
          rw [HF.out]
          exact ⟨rfl, below_drewN HB0.out _⟩
        | true =>
          have hf : confB vs ls = decide (0 < k) := by rw [HCB2.out, ← HKN.out]; simp
          have HF := Lib.hid hf
          clear hf
          go_wp2_with fail
          refine (HV _ (HRV.out.drewN _)).mono ?_
          rintro e w2 ⟨rfl, q2, rfl⟩
          go_wp2_with fail
          refine (HL _ (HRL.out.drewN _)).mono ?_
          rintro e w3 ⟨rfl, q3, rfl⟩
          go_wp2
          go_ret
          rw [HF.out]
          exact ⟨rfl, below_drewN HB0.out _⟩
end Go.Proofs.Ythocmnfmialcaaa.Mo

/-! Package scupperref03's reading of a configuration's bytes, as a contract of a call. -/
namespace Go.Proofs.Ythocmnfmialcaaa.Mo
open Go.RowKit By CoP Co

theorem pIdsL_le (k : Nat) (s : St) : ∀ x ∈ (pIdsL k s).1, x ≤ 16 := by
  induction k generalizing s with
  | zero => intro x hx; simp [pIdsL] at hx
  | succ k ih =>
    cases s with
    | none => intro x hx; simp [pIdsL] at hx
    | some r =>
      intro x hx
      simp only [pIdsL, List.mem_cons] at hx
      rcases hx with rfl | hx
      · exact pInt_le 16 _
      · exact ih _ x hx
theorem pIdsL_len (k : Nat) (s : St) : (pIdsL k s).1.length ≤ k := by
  induction k generalizing s with
  | zero => simp [pIdsL]
  | succ k ih =>
    cases s with
    | none => simp [pIdsL]
    | some r => simp only [pIdsL, List.length_cons]; have := ih (pInt 16 (some r)).2; omega
theorem pIds_len (s : St) : (pIds s).1.length ≤ 16 := Nat.le_trans (pIdsL_len _ _) (pInt_le 16 s)
/-- As ints. -/
def asI (l : List Nat) : List Int := l.map fun (x : Nat) => (x : Int)
theorem OwnI.lies {base : Nat} {w : World} {A : Option Addr} {n c : Nat} {l : List Nat} (h : OwnI base w (.slice A n c) l) (hl : ∀ x ∈ l, x ≤ 16) : LiesI w w.heap.size A (asI l) := fun hn => by
  have hlt := h.lt
  have hcs := fun g e => World.ownsRow.cells h (g := g) e
  rcases h.2 with ⟨e, h0⟩ | ⟨g, cap, cur, e, hb, hk, rest⟩
  · simp only [asI, List.length_map] at hn; omega
  · injection e with e1 e2 e3
    subst e1
    refine ⟨g, 0, rfl, row_lt hk, fun j x hx => ?_⟩
    simp only [asI, List.getElem?_map, Option.map_eq_some_iff] at hx
    obtain ⟨y, hy, rfl⟩ := hx
    have h2 := hcs g rfl j (.int .i64 (y : Int)) (by simp [ivs, hy])
    have h3 := hl y (List.mem_of_getElem? hy)
    rw [plainAdd] at h2
    exact ⟨h2, by omega, by omega⟩

end Go.Proofs.Ythocmnfmialcaaa.Mo

/-! Package msg's rises, as a contract of a call. -/
namespace Go.Proofs.Ythocmnfmialcaaa.Mo
open Go.RowKit By CoP Co

/-- Rising. -/
def ascFrom : Int → List Int → Bool
  | _, [] => true
  | p, x :: t => decide (p < x) && ascFrom x t
def ascB : List Int → Bool
  | [] => true
  | x :: t => ascFrom x t
theorem ascFrom_drop (p : Int) (l : List Int) (k : Nat) (h : k < l.length) : ascFrom p (l.drop k) = (decide (p < l[k]) && ascFrom l[k] (l.drop (k + 1))) := by
  rw [List.drop_eq_getElem_cons h]; rfl

set_option maxHeartbeats 800000 in
theorem rises_any (A : Option Addr) (n c B : Nat) (l : List Int) (hn : n = l.length) (hm : n ≤ 140737488355328) (w : World) (hr : LiesI w B A l) :
    Calls Try.prog 72 #[.slice A n c] w (RetQ (.bool (ascB l)) w) := by
  have HN := Lib.hid hn
  have HR := Lib.hid hr
  clear hn hr
  go_enter Try.func72, Try.ntmps72
  go_wp2
  go_loopw [3] (fun i wr => ∃ (k q : Nat), 1 ≤ k ∧ k ≤ n + 1 ∧ i = .int .i64 k ∧ wr = w.drewN q ∧ (k < n → ∃ p, ascB l = ascFrom p (l.drop k) ∧ l[k - 1]? = some p) ∧ (n ≤ k → ascB l = true)) (fun i _ => n + 1 - (intOf i).toNat)
  case atStart =>
    refine ⟨1, 0, Nat.le_refl _, by omega, rfl, rfl, fun h => ?_, fun h => ?_⟩
    · have hx := HN.out
      cases l with
      | nil => simp at hx; omega
      | cons x t => exact ⟨x, rfl, rfl⟩
    · have hx := HN.out
      cases l with
      | nil => rfl
      | cons x t =>
        cases t with
        | nil => rfl
        | cons y u => simp at hx; omega
  case round =>
    obtain ⟨k, q, hk1, hkm, rfl, rfl, hlo, hhi⟩ := hrel
    by_cases hkn : k < n
    · have hkl : k < l.length := by have := HN.out; omega
      obtain ⟨p, hri, hp⟩ := hlo hkn
      rw [ascFrom_drop p l k hkl] at hri
      obtain ⟨g, o, rfl, hg, hc, hy0, hy1⟩ := HR.out.at_ hkl
      have hlk : l[k]? = some l[k] := List.getElem?_eq_getElem hkl
      have hkl' : k - 1 < l.length := by omega
      obtain ⟨g2, o2, e, _, hcp, hp0, hp1⟩ := HR.out.at_ hkl'
      injection e with e
      injection e with e1 e2
      subst e1 e2
      have e3 : l[k - 1] = p := by rw [List.getElem?_eq_getElem hkl'] at hp; exact Option.some.inj hp
      rw [e3] at hcp hp0 hp1
      generalize l[k] = y at hc hy0 hy1 hlk hri
      have HRI := Lib.hid hri
      have HLK := Lib.hid hlk
      clear hri hlk hp hlo hhi e3
      have hk47 : (k : Int) ≤ 140737488355328 := by omega
      obtain ⟨j, hj⟩ : ∃ j, k - 1 = j := ⟨_, rfl⟩
      rw [hj] at hcp
      have hji : (k : Int) - 1 = (j : Int) := by omega
      have hw : IntKind.i64.wrap ((k : Int) - 1) = (j : Int) := by rw [IntWalk.i64_in _ (by constructor <;> omega)]; exact hji
      have hjn : (j : Int) < (n : Int) := by omega
      have hkn' : (k : Int) < (n : Int) := by omega
      by_cases hpy : y ≤ p
      · have hf : ascB l = false := by rw [HRI.out, decide_eq_false (p := p < y) (by omega)]; rfl
        have HF := Lib.hid hf
        clear hf hj
        go_wp2
        go_quiet (fail)
        go_wp2
        go_ret
        rw [HF.out]
        exact ⟨rfl, _, drewN2 _ _ _⟩
      · have hf : ascB l = ascFrom y (l.drop (k + 1)) := by rw [HRI.out, decide_eq_true (p := p < y) (by omega)]; simp
        have hdp : decide (y ≤ p) = false := decide_eq_false hpy
        have HF := Lib.hid hf
        clear hf hj
        go_wp2
        go_quiet (fail)
        go_wp2
        go_roundw
        case rel => exact ⟨k + 1, _, by omega, by omega, by go_num, rfl, fun _ => ⟨y, HF.out, HLK.out⟩, fun h => by rw [HF.out, List.drop_eq_nil_of_le (by have := HN.out; omega)]; rfl⟩
        case measure => simp [intOf]; omega
    · have hend := hhi (by omega)
      have HE := Lib.hid hend
      clear hlo hhi hend
      have hkn' : ¬ (k : Int) < (n : Int) := by omega
      go_wp2
      go_ret
      rw [HE.out]
      exact ⟨rfl, q, rfl⟩
end Go.Proofs.Ythocmnfmialcaaa.Mo
