/- Package scupperref03's reader: Int, Data, Whole, as contracts of calls. | Package scupperref03's reader: an entry, as a contract of a call. | Package scupperref03's reader: a list of numbers, as a contract of a call; ints of the call's own. | Package scupperref03's reader: a configuration, as a contract of a call. Written by mkin.py. | Package scupperref03's tests of lists of numbers, as contracts of calls. | Package scupperref03's test of a configuration, as a contract of a call. | Package scupperref03's reading of a configuration's bytes, as a contract of a call. | Package msg's rises, as a contract of a call. -/
import Derived.Test.YtdbaajgkcjpnoaaGreatGB
import Derived.Deep.QuietTactic
import Derived.BigQuiet
import Derived.Deep.RegionLaw
/-! Package scupperref03's reader: Int, Data, Whole, as contracts of calls. -/
namespace Go.Proofs.YtdbaajgkcjpnoaaGreat.Mo
open Go.RowKit By CoP Co

set_option maxHeartbeats 400000 in
theorem inInt_any (B g : Nat) (b : List UInt8) (s : St) (most : Nat) (hm : most ≤ 4294967296) (w : World) (h : InAt B g w b s) :
    Calls Tryz.prog 104 #[.pointer (some ⟨g, 0, none⟩), .int .u64 (most : Nat)] w (Reads (.int .i64 ((pInt most s).1 : Nat)) B g b (pInt most s).2 w) := by
  have hcall := inNum_any B g b s w h
  have hp : pInt most s = pInt most s := rfl
  conv at hp => rhs; unfold pInt
  generalize pNum s = N at hcall hp
  obtain ⟨v, s1⟩ := N
  have hcall2 : Calls Tryz.prog 111 #[.pointer (some ⟨g, 0, none⟩)] w (Reads (.int .u64 (v : Nat)) B g b s1 w) := hcall
  have HC := Lib.hid hcall2
  simp only at hp
  clear hcall hcall2 h
  by_cases hv : most < v
  · rw [if_pos hv] at hp
    have HP := Lib.hid hp
    have hvi : (most : Int) < (v : Int) := by omega
    clear hp hv
    go_enter Tryz.func104, Tryz.ntmps104
    go_wp2_with fail
    refine HC.out.mono ?_
    rintro e w1 ⟨rfl, hin, hgr⟩
    obtain ⟨A, c, at_, bad, hBg, hbc, hbm, hrow, hr, hat, hst⟩ := hin
    have hf1 : w1.frozen? ⟨g, 2, none⟩ = false := frozen_of_row w1 g 2 _ _ hrow
    have hk1 : w1.cell? ⟨g, 2, none⟩ = some (.bool bad) := by rw [cell_of_row w1 g 2 _ _ _ hrow]; rfl
    have hgs := row_lt hrow
    have HROW := Lib.hid hrow
    have HR := Lib.hid hr
    have HG := Lib.hid hgr
    clear hrow hr hgr
    go_wp2
    go_ret
    rw [HP.out]
    refine ⟨rfl, ⟨A, c, at_, true, hBg, hbc, hbm, ?_, ?_, hat, .inl ⟨rfl, rfl⟩⟩, ?_⟩
    · have h := heap_setCell_same _ g 2 _ _ (.bool true) HROW.out
      simpa using h
    · exact lies_grown HR.out (by omega) (grown_set g 2 _) hBg
    · exact grown_trans HG.out (grown_set g 2 _)
  · rw [if_neg hv] at hp
    have HP := Lib.hid hp
    have hvi : ¬ ((most : Int) < (v : Int)) := by omega
    have hv63 : (v : Int) ≤ 4294967296 := by omega
    clear hp hv
    go_enter Tryz.func104, Tryz.ntmps104
    go_wp2_with fail
    refine HC.out.mono ?_
    rintro e w1 ⟨rfl, hin, hgr⟩
    go_wp2
    go_ret
    rw [HP.out]
    exact ⟨rfl, hin, hgr⟩

/-- Gives bytes of the call's own; the reader goes on; all else as it was. -/
def ReadsD (l : List UInt8) (B g : Nat) (b : List UInt8) (s : St) (w : World) (e : Ending) (w' : World) : Prop := ∃ v, e = .returned v ∧ Own w.heap.size w' v l ∧ InAt B g w' b s ∧ w.grownBy w' (some g)
theorem bytesR_facts (b : List UInt8) : (bytesR b).2.2 = 0 → (bytesR b).2.1 ≤ b.length := by
  have h := numR_facts b
  intro h0
  by_cases h1 : (numR b).2.2 = 0
  · by_cases h2 : b.length - (numR b).2.1 < (numR b).1
    · simp [bytesR, h1, h2] at h0
    · have := (h h1).1
      simp only [bytesR, h1, h2, ne_eq, not_true_eq_false, if_false]
      omega
  · simp [bytesR, h1] at h0
/-- Was all read, and right? -/
def pWhole : St → Bool
  | some [] => true
  | _ => false
set_option maxHeartbeats 400000 in
theorem inWhole_any (B g : Nat) (b : List UInt8) (s : St) (w : World) (h : InAt B g w b s) :
    Calls Tryz.prog 52 #[.pointer (some ⟨g, 0, none⟩)] w (Reads (.bool (pWhole s)) B g b s w) := by
  obtain ⟨A, c, at_, bad, hBg, hbc, hbm, hrow, hr, hat, hst⟩ := h
  have hc0 : w.cell? ⟨g, 0, none⟩ = some (.slice A b.length c) := by rw [cell_of_row w g 0 _ _ _ hrow]; rfl
  have hc1 : w.cell? ⟨g, 1, none⟩ = some (.int .i64 (at_ : Nat)) := by rw [cell_of_row w g 1 _ _ _ hrow]; rfl
  have hc2 : w.cell? ⟨g, 2, none⟩ = some (.bool bad) := by rw [cell_of_row w g 2 _ _ _ hrow]; rfl
  rcases hst with ⟨rfl, rfl⟩ | ⟨rfl, rfl⟩
  · have HROW := Lib.hid hrow
    clear hrow
    go_enter Tryz.func52, Tryz.ntmps52
    go_wp2
    go_quiet (fail)
    go_wp2
    · go_ret
      exact ⟨rfl, ⟨A, c, at_, true, hBg, hbc, hbm, HROW.out, hr.drewN _, hat, .inl ⟨rfl, rfl⟩⟩, ⟨rfl, rfl, rfl, Nat.le_refl _, fun _ _ _ => rfl⟩⟩
  · have HROW := Lib.hid hrow
    have hpw : pWhole (some (b.drop at_)) = decide ((at_ : Int) = (b.length : Int)) := by
      by_cases he : at_ = b.length
      · rw [List.drop_eq_nil_of_le (by omega), decide_eq_true (by omega)]; rfl
      · have hl : b.drop at_ ≠ [] := by rw [ne_eq, List.drop_eq_nil_iff]; omega
        rw [decide_eq_false (by omega)]
        match hb : b.drop at_ with
        | [] => exact absurd hb hl
        | _ :: _ => rfl
    have HPW := Lib.hid hpw
    clear hrow hpw
    go_enter Tryz.func52, Tryz.ntmps52
    go_wp2
    go_quiet (fail)
    go_wp2
    · go_ret
      refine ⟨by rw [HPW.out]; rfl, ⟨A, c, at_, false, hBg, hbc, hbm, HROW.out, hr.drewN _, hat, .inr ⟨rfl, rfl⟩⟩, ⟨rfl, rfl, rfl, Nat.le_refl _, fun _ _ _ => rfl⟩⟩
end Go.Proofs.YtdbaajgkcjpnoaaGreat.Mo

/-! Package scupperref03's reader: an entry, as a contract of a call. -/
namespace Go.Proofs.YtdbaajgkcjpnoaaGreat.Mo
open Go.RowKit By CoP Co

theorem pNum_lt (s : St) : (pNum s).1 < 18446744073709551616 := by
  cases s with
  | none => simp [pNum]
  | some r =>
    by_cases h : (numR r).2.2 = 0
    · have := (numR_facts r h).2
      simp [pNum, h, this]
    · simp [pNum, h]
theorem pInt_le (most : Nat) (s : St) : (pInt most s).1 ≤ most := by
  unfold pInt
  split
  · exact Nat.zero_le _
  · omega
theorem InAt.kept {B g : Nat} {w w' : World} {b : List UInt8} {s : St} (h : InAt B g w b s) (hk : ∀ k, k < w.heap.size → (k = g ∨ k < B) → w'.heap[k]? = w.heap[k]?) : InAt B g w' b s := by
  obtain ⟨A, c, at_, bad, hBg, hbc, hbm, hrow, hr, hst⟩ := h
  have hgs := row_lt hrow
  exact ⟨A, c, at_, bad, hBg, hbc, hbm, (hk g hgs (.inl rfl)).trans hrow, hr.keep fun p hp => World.cell?_of_block (w := w) (hk _ (by omega) (.inr hp)), hst⟩
theorem InAt.alloc {B g : Nat} {w : World} {b : List UInt8} {s : St} (h : InAt B g w b s) (o : Obj) : InAt B g (w.alloc o) b s := h.kept fun _ hk _ => heap_alloc_old w o hk
theorem InAt.set {B g : Nat} {w : World} {b : List UInt8} {s : St} (h : InAt B g w b s) (p : Addr) (hp : p.block ≠ g) (hB : B ≤ p.block) (u : Value) : InAt B g (w.setCell p u) b s :=
  h.kept fun k _ hk => heap_setCell_other w p k u (fun e => hk.elim (fun e' => hp (by omega)) (fun e' => by omega))

theorem grown_set_new {w w1 : World} {r : Option Nat} (h : w.grownBy w1 r) (p : Addr) (hp : w.heap.size ≤ p.block) (u : Value) : w.grownBy (w1.setCell p u) r :=
  ⟨h.os, h.tape, h.output, by simpa [World.setCell] using h.size, fun k hk hr => (heap_setCell_other w1 p k u (by omega)).trans (h.block k hk hr)⟩

theorem InAt.row {B g : Nat} {w : World} {b : List UInt8} {s : St} (h : InAt B g w b s) : ∃ cs, w.heap[g]? = some (.cells cs 98 (0, 0)) ∧ w.cell? ⟨g, 2, none⟩ = some (.bool s.isNone) := by
  obtain ⟨A, c, at_, bad, hBg, hbc, hbm, hrow, hr, hat, hst⟩ := h
  refine ⟨_, hrow, ?_⟩
  rw [cell_of_row w g 2 _ _ _ hrow]
  rcases hst with ⟨rfl, rfl⟩ | ⟨rfl, rfl⟩ <;> rfl

theorem own_grown {base : Nat} {w w' : World} {v : Value} {l : List UInt8} (h : Own base w v l) {g : Nat} (hg : w.grownBy w' (some g)) (hne : some g ≠ v.ownBlock) : Own base w' v l := by
  refine ⟨h.1, ?_⟩
  rcases h.2 with hn | ⟨k, cap, cur, rfl, hb, hk, rest⟩
  · exact .inl hn
  · exact .inr ⟨k, cap, cur, rfl, hb, (hg.block k (row_lt hk) (fun e => hne (by rw [← e]; rfl))).trans hk, rest⟩

/-- It is read. -/
def pEntry (s : St) : (Nat × Nat × Nat × Int × List UInt8) × St :=
  let a0 := pNum s
  let a1 := pNum a0.2
  let a2 := pInt 3 a1.2
  let a3 := pNum a2.2
  let a4 := pData a3.2
  ((a0.1, a1.1, a2.1, wrap64 (a3.1 : Nat), a4.1), a4.2)
end Go.Proofs.YtdbaajgkcjpnoaaGreat.Mo

/-! Package scupperref03's reader: a list of numbers, as a contract of a call; ints of the call's own. -/
namespace Go.Proofs.YtdbaajgkcjpnoaaGreat.Mo
open Go.RowKit By CoP Co

def ivs (l : List Nat) : List Value := l.map fun (x : Nat) => .int .i64 (x : Int)
/-- Ints of the call's own, in a row. -/
def OwnI (base : Nat) (w : World) (v : Value) (l : List Nat) : Prop := w.ownsRow base 3 1 v l.length (ivs l)
theorem intInfo : (Tryz.prog.info? 3).map (fun i => (i.zero, i.size, i.bytes)) = some (some (.int .i64 0), 1, 8) := by kernel_rfl
theorem wpList_pushI {ops : Array Oper} {rest : List Oper} {o : Oper} {a : Act} {Q : Exit → Act → World → Prop} {w0 : World} (hgd : o.guard = none) (s x : Operand)
    (ho : o.op = .call { callee := .builtin .append, args := #[s, x], argTypes := #[85, 85] })
    {base : Nat} {v : Value} {l : List Nat} {y : Nat} (hs : a.eval s = v) (hown : OwnI base w0 v l) (hx : a.eval x = .slice (some ⟨w0.heap.size, 0, none⟩) 1 1)
    (hsz : l.length + 1 ≤ 1048577) (hbase : base ≤ w0.heap.size)
    (h : ∀ v' w', OwnI base w' v' (l ++ [y]) → (w0.alloc (.cells #[.int .i64 (y : Int)] 3)).grownBy w' v.ownBlock → wpList Tryz.prog ops Q rest (a.put o.dst v') w') :
    wpList Tryz.prog ops Q (o :: rest) a (w0.alloc (.cells #[.int .i64 (y : Int)] 3)) :=
  wpList_plain hgd fun K hK => by
    obtain ⟨i0, hi, hz0, hz1, hz2⟩ := info_parts intInfo
    have hnews := World.news_of_block (heap_alloc_new w0 (.cells #[.int .i64 (y : Int)] 3))
    obtain ⟨v', w', hrun, h2, h3, _⟩ := run_append_own (P := Tryz.prog) (w0.alloc (.cells #[.int .i64 (y : Int)] 3)) base 85 o.type 3 i0 (.int .i64 0) 1 8 Tryz.underlying85 hi hz0 hz1 hz2 rfl (by decide) v l.length (ivs l)
      (World.ownsRow.alloc hown _) ⟨w0.heap.size, 0, none⟩ 1 1 [.int .i64 (y : Int)] rfl hnews (by intro u hu; simp at hu; subst hu; rfl) (by unfold maxLen; omega) (by omega) (by rw [World.size_alloc]; omega)
    exact wp_app_run s x _ ho hs hx hrun (hK _ _ (h v' w' (by unfold OwnI; rw [List.length_append]; simpa [ivs] using h2) h3))
theorem OwnI.nil (base : Nat) (w : World) : OwnI base w (.slice none 0 0) [] := World.ownsRow_nil w base _ 1
theorem ownI_ne {base : Nat} {w : World} {v : Value} {l : List Nat} (h : OwnI base w v l) {g : Nat} {cs : Array Value} {t : TypeId} {fr : Nat × Nat} (hg : w.heap[g]? = some (.cells cs t fr)) (hne : t ≠ 3) : some g ≠ v.ownBlock := by
  rcases h.2 with ⟨rfl, _⟩ | ⟨k, cap, cur, rfl, _, hk, _⟩
  · intro e; cases e
  · intro e
    have : g = k := by simpa [Value.ownBlock] using e
    subst this
    rw [hg] at hk
    injection hk with hk
    injection hk with _ ht
    exact hne ht
theorem OwnI.lt {base : Nat} {w : World} {v : Value} {l : List Nat} (h : OwnI base w v l) : ∀ k, v.ownBlock = some k → base ≤ k ∧ k < w.heap.size := World.ownsRow.lt h
theorem ownI_grown {base : Nat} {w w' : World} {v : Value} {l : List Nat} (h : OwnI base w v l) {g : Nat} (hg : w.grownBy w' (some g)) (hne : some g ≠ v.ownBlock) : OwnI base w' v l := by
  refine ⟨h.1, ?_⟩
  rcases h.2 with hn | ⟨k, cap, cur, rfl, hb, hk, rest⟩
  · exact .inl hn
  · exact .inr ⟨k, cap, cur, rfl, hb, (hg.block k (row_lt hk) (fun e => hne (by rw [← e]; rfl))).trans hk, rest⟩
theorem OwnI.form {base : Nat} {w : World} {v : Value} {l : List Nat} (h : OwnI base w v l) : ∃ A c, v = .slice A l.length c ∧ l.length ≤ c ∧ c ≤ maxLen := by
  rcases h.2 with ⟨rfl, h0⟩ | ⟨g, cap, cur, rfl, _, _, hn, hm, _⟩
  · exact ⟨none, 0, by rw [h0], by omega, Nat.zero_le _⟩
  · exact ⟨_, cap, rfl, hn, hm⟩
theorem ownI_other {base : Nat} {w : World} {v : Value} {l : List Nat} (h : OwnI base w v l) {p : Addr} (hp : some p.block ≠ v.ownBlock) (u : Value) : OwnI base (w.setCell p u) v l := by
  refine ⟨h.1, ?_⟩
  rcases h.2 with hn | ⟨k, cap, cur, rfl, hb, hk, rest⟩
  · exact .inl hn
  · refine .inr ⟨k, cap, cur, rfl, hb, ?_, rest⟩
    rw [heap_setCell_other w p k u (fun e => hp (by simp [Value.ownBlock, e]))]
    exact hk
theorem OwnI.more {base base' : Nat} {w : World} {v : Value} {l : List Nat} (h : OwnI base w v l) (hb : base' ≤ base) : OwnI base' w v l := by
  refine ⟨h.1, ?_⟩
  rcases h.2 with hn | ⟨g, cap, cur, hv, hg, rest⟩
  · exact .inl hn
  · exact .inr ⟨g, cap, cur, hv, by omega, rest⟩

/-- So many numbers are read, until one is bad. -/
def pIdsL : Nat → St → List Nat × St
  | 0, s => ([], s)
  | _ + 1, none => ([], none)
  | k + 1, some r => ((pInt 16 (some r)).1 :: (pIdsL k (pInt 16 (some r)).2).1, (pIdsL k (pInt 16 (some r)).2).2)
def pIds (s : St) : List Nat × St := pIdsL (pInt 16 s).1 (pInt 16 s).2

theorem pIdsL_none (k : Nat) : pIdsL k none = ([], none) := by cases k <;> rfl

set_option maxHeartbeats 800000 in
theorem inIds_any (B g : Nat) (b : List UInt8) (s : St) (w : World) (h : InAt B g w b s) (hBw : B ≤ w.heap.size) :
    Calls Tryz.prog 69 #[.pointer (some ⟨g, 0, none⟩)] w (fun e w' => ∃ v, e = .returned v ∧ OwnI w.heap.size w' v (pIds s).1 ∧ InAt B g w' b (pIds s).2 ∧ w.grownBy w' (some g)) := by
  have hgs : g < w.heap.size := by obtain ⟨_, hrow, _⟩ := h.row; exact row_lt hrow
  have hcall := inInt_any B g b s 16 (by decide) w h
  have hle := pInt_le 16 s
  have hpi : pIds s = pIdsL (pInt 16 s).1 (pInt 16 s).2 := rfl
  generalize pInt 16 s = N at hcall hle hpi
  obtain ⟨n, s0⟩ := N
  have hcall2 : Calls Tryz.prog 104 #[.pointer (some ⟨g, 0, none⟩), .int .u64 16] w (Reads (.int .i64 (n : Nat)) B g b s0 w) := hcall
  have HC := Lib.hid hcall2
  have HPI := Lib.hid hpi
  simp only at hle
  clear hcall hcall2 hpi h
  go_enter Tryz.func69, Tryz.ntmps69
  go_wp2_with fail
  refine HC.out.mono ?_
  rintro e w1 ⟨rfl, hin1, hgr1⟩
  have HIN1 := Lib.hid hin1
  have HG1 := Lib.hid hgr1
  clear hin1 hgr1
  go_wp2
  go_loopw [3, 5] (fun v i wr => ∃ (k : Nat) (l : List Nat) (s1 : St), k ≤ n ∧ i = .int .i64 k ∧ l.length = k ∧ OwnI w.heap.size wr v l ∧ InAt B g wr b s1 ∧ w.grownBy wr (some g) ∧ pIds s = (l ++ (pIdsL (n - k) s1).1, (pIdsL (n - k) s1).2)) (fun _ i _ => n - (intOf i).toNat)
  case atStart => exact ⟨0, [], s0, Nat.zero_le _, rfl, rfl, OwnI.nil _ _, HIN1.out, HG1.out, by simpa using HPI.out⟩
  case round =>
    obtain ⟨k, l, s1, hk, rfl, hlk, hown, hin, hgr, hps⟩ := hrel
    obtain ⟨cs, hrow, hbad⟩ := hin.row
    have hz := hgr.size
    have HOWN := Lib.hid hown
    have HIN := Lib.hid hin
    have HGR := Lib.hid hgr
    have HPS := Lib.hid hps
    have HROW := Lib.hid hrow
    clear hown hin hgr hps hrow
    by_cases hkn : k < n
    · cases s1 with
      | none =>
        have hd : decide ((k : Int) < (n : Int)) = true := decide_eq_true (by omega)
        have hps := HPS.out
        rw [pIdsL_none, List.append_nil] at hps
        have HPS2 := Lib.hid hps
        clear hps HPS
        go_wp2
        go_ret
        rw [HPS2.out]
        exact ⟨_, rfl, HOWN.out, HIN.out, HGR.out⟩
      | some r =>
        have hd : decide ((k : Int) < (n : Int)) = true := decide_eq_true (by omega)
        have hps := HPS.out
        rw [show n - k = (n - (k + 1)) + 1 by omega] at hps
        simp only [pIdsL] at hps
        have hxl := pInt_le 16 (some r)
        have HPS2 := Lib.hid hps
        clear hps HPS
        go_wp2_with fail
        refine (inInt_any B g b (some r) 16 (by decide) _ HIN.out).mono ?_
        rintro e w2 ⟨rfl, hin2, hgr2⟩
        generalize pInt 16 (some r) = N at hxl HPS2 hin2
        obtain ⟨x, s2⟩ := N
        simp only at hxl HPS2 hin2 ⊢
        have hown2 := ownI_grown HOWN.out hgr2 (ownI_ne HOWN.out HROW.out (by decide))
        have hgr3 := grown_trans HGR.out hgr2
        have hz2 := hgr3.size
        obtain ⟨cs2, hrow2, _⟩ := hin2.row
        have hne2 := ownI_ne hown2 hrow2 (by decide)
        have HOWN2 := Lib.hid hown2
        have HIN2 := Lib.hid hin2
        have HGR3 := Lib.hid hgr3
        have HNE2 := Lib.hid hne2
        clear hown2 hin2 hgr3 hne2 hgr2 HIN hrow2
        go_wp2_with (at_builtin; refine wpList_pushI (y := x) rfl (.tmp 23) (.tmp 25) rfl rfl HOWN2.out rfl (by omega) (by omega) ?_)
        intro v' w3 ho3 hg3
        have hlt := HOWN2.out.lt
        have hold : ∀ q, q < w2.heap.size → (q = g ∨ q < w.heap.size) → w3.heap[q]? = w2.heap[q]? := fun q hq hq2 => by
          rw [hg3.block q (by rw [World.size_alloc]; omega) (fun e => by
            rcases hq2 with rfl | hq2
            · exact HNE2.out e
            · have := (hlt q e.symm).1; omega), heap_alloc_old _ _ hq]
        have HIN3 := Lib.hid (HIN2.out.kept fun q hq hq2 => hold q hq (hq2.imp id fun h => by omega))
        have hgr4 : w.grownBy w3 (some g) := ⟨hg3.os.trans HGR3.out.os, hg3.tape.trans HGR3.out.tape, hg3.output.trans HGR3.out.output, by have := hg3.size; rw [World.size_alloc] at this; omega, fun q hq hne => (hold q (by omega) (.inr hq)).trans (HGR3.out.block q hq hne)⟩
        have HGR4 := Lib.hid hgr4
        have HO3 := Lib.hid ho3
        clear ho3 hg3 hlt hold hgr4
        go_wp2
        go_roundw
        case rel => exact ⟨k + 1, l ++ [x], s2, by omega, by go_num, by rw [List.length_append, hlk]; rfl, HO3.out, HIN3.out, HGR4.out, by rw [HPS2.out, List.append_assoc]; rfl⟩
        case measure => simp [intOf]; omega
    · obtain rfl : k = n := by omega
      have hd : decide ((k : Int) < (k : Int)) = false := decide_eq_false (by omega)
      have hps := HPS.out
      rw [Nat.sub_self] at hps
      simp only [pIdsL, List.append_nil] at hps
      have HPS2 := Lib.hid hps
      clear hps HPS
      go_wp2
      go_ret
      rw [HPS2.out]
      exact ⟨_, rfl, HOWN.out, HIN.out, HGR.out⟩
end Go.Proofs.YtdbaajgkcjpnoaaGreat.Mo

/-! Package scupperref03's reader: a configuration, as a contract of a call. Written by mkin.py. -/
namespace Go.Proofs.YtdbaajgkcjpnoaaGreat.Mo
open Go.RowKit By CoP Co

/-- It is read. -/
def pConf (s : St) : (List Nat × List Nat) × St :=
  let a0 := pIds s
  let a1 := pIds a0.2
  ((a0.1, a1.1), a1.2)
set_option maxHeartbeats 800000 in
theorem inConf_any (B g : Nat) (b : List UInt8) (s : St) (w : World) (h : InAt B g w b s) (hBw : B ≤ w.heap.size) :
    Calls Tryz.prog 51 #[.pointer (some ⟨g, 0, none⟩)] w (fun e w' => ∃ v0 v1, e = .returned (.agg #[v0, v1]) ∧ OwnI w.heap.size w' v0 (pConf s).1.1 ∧ OwnI w.heap.size w' v1 (pConf s).1.2 ∧ InAt B g w' b (pConf s).2 ∧ w.grownBy w' (some g)) := by
  have hg0 : g < w.heap.size := by obtain ⟨_, _, _, _, _, _, _, hrow, _⟩ := h; exact row_lt hrow
  have hBg : B ≤ g := by obtain ⟨_, _, _, _, hBg, _⟩ := h; exact hBg
  have hgX : g ≠ w.heap.size + 1 := by omega
  have hsX : (some (w.heap.size + 1) : Option Nat) ≠ some g := fun e => hgX (Option.some.inj e).symm
  have hsR : (some w.heap.size : Option Nat) ≠ some g := fun e => by have := Option.some.inj e; omega
  have hRX : w.heap.size ≠ w.heap.size + 1 := by omega
  have HIN0 := Lib.hid ((h.alloc (.cells #[.slice none 0 0, .slice none 0 0] 87)).alloc (.cells #[.slice none 0 0, .slice none 0 0] 87))
  have HX0 := Lib.hid (heap_alloc2_new w (.cells #[.slice none 0 0, .slice none 0 0] 87) (.cells #[.slice none 0 0, .slice none 0 0] 87))
  have HR0 := Lib.hid (heap_alloc2_old w (.cells #[.slice none 0 0, .slice none 0 0] 87) (.cells #[.slice none 0 0, .slice none 0 0] 87))
  have HG0 := Lib.hid (grown_of_below (((Below.refl w.heap.size w).alloc (Nat.le_refl _) (.cells #[.slice none 0 0, .slice none 0 0] 87)).alloc (((Below.refl w.heap.size w).alloc (Nat.le_refl _) (.cells #[.slice none 0 0, .slice none 0 0] 87)).size) (.cells #[.slice none 0 0, .slice none 0 0] 87)) (some g))
  clear h
  go_enter Tryz.func51, Tryz.ntmps51
  go_wp2_with fail
  refine (inIds_any B g b s _ HIN0.out (by have := HG0.out.size; omega)).mono ?_
  obtain ⟨_, hrin0, _⟩ := HIN0.out.row
  rintro e w1 ⟨v0, rfl, ho0, hin1, hgr1⟩
  obtain ⟨A0, c0, rfl, _, _⟩ := ho0.form
  have HO0 := Lib.hid (ho0.more HG0.out.size)
  clear ho0
  obtain ⟨p0, hp0⟩ : ∃ p, pIds s = p := ⟨_, rfl⟩
  rw [hp0] at hin1 HO0
  simp only [hp0]
  have HP0 := Lib.hid hp0
  obtain ⟨s1, hs1⟩ : ∃ s', s' = p0.2 := ⟨_, rfl⟩
  rw [← hs1] at hin1
  have HS1 := Lib.hid hs1
  clear hs1 hp0
  have hX1 := (hgr1.block (w.heap.size + 1) (row_lt HX0.out) hsX).trans HX0.out
  have hR1 := (hgr1.block w.heap.size (row_lt HR0.out) hsR).trans HR0.out
  have hk10 : w1.cell? ⟨w.heap.size + 1, 0, none⟩ = some (.slice none 0 0) := by rw [cell_of_row w1 (w.heap.size + 1) 0 _ _ _ hX1]; rfl
  have hf1 : w1.frozen? ⟨w.heap.size + 1, 0, none⟩ = false := frozen_of_row w1 (w.heap.size + 1) 0 _ _ hX1
  have hXX1 : (w1.setCell ⟨w.heap.size + 1, 0, none⟩ (.slice A0 p0.1.length c0)).heap[w.heap.size + 1]? = some (.cells #[.slice A0 p0.1.length c0, .slice none 0 0] 87 (0, 0)) := by
    have h := heap_setCell_same w1 (w.heap.size + 1) 0 _ _ (.slice A0 p0.1.length c0) hX1
    simpa using h
  have HX1 := Lib.hid hXX1
  have HR1 := Lib.hid ((heap_setCell_other w1 ⟨w.heap.size + 1, 0, none⟩ w.heap.size (.slice A0 p0.1.length c0) hRX).trans hR1)
  have HO0 := Lib.hid (ownI_other (p := ⟨w.heap.size + 1, 0, none⟩) HO0.out (ownI_ne HO0.out hX1 (by decide)) (.slice A0 p0.1.length c0))
  have HIN1 := Lib.hid (hin1.set ⟨w.heap.size + 1, 0, none⟩ (Ne.symm hgX) (by show B ≤ w.heap.size + 1; omega) (.slice A0 p0.1.length c0))
  have HG1 := Lib.hid (grown_set_new (grown_trans HG0.out hgr1) ⟨w.heap.size + 1, 0, none⟩ (by show w.heap.size ≤ w.heap.size + 1; omega) (.slice A0 p0.1.length c0))
  clear hXX1 hin1 hgr1 hX1 hR1 hrin0
  go_wp2_with fail
  refine (inIds_any B g b s1 _ HIN1.out (by have := HG1.out.size; omega)).mono ?_
  obtain ⟨_, hrin1, _⟩ := HIN1.out.row
  rintro e w2 ⟨v1, rfl, ho1, hin2, hgr2⟩
  obtain ⟨A1, c1, rfl, _, _⟩ := ho1.form
  have HO1 := Lib.hid (ho1.more HG1.out.size)
  clear ho1
  obtain ⟨p1, hp1⟩ : ∃ p, pIds s1 = p := ⟨_, rfl⟩
  rw [hp1] at hin2 HO1
  simp only [hp1]
  have HP1 := Lib.hid hp1
  obtain ⟨s2, hs2⟩ : ∃ s', s' = p1.2 := ⟨_, rfl⟩
  rw [← hs2] at hin2
  have HS2 := Lib.hid hs2
  clear hs2 hp1
  have hX2 := (hgr2.block (w.heap.size + 1) (row_lt HX1.out) hsX).trans HX1.out
  have hR2 := (hgr2.block w.heap.size (row_lt HR1.out) hsR).trans HR1.out
  have hk20 : w2.cell? ⟨w.heap.size + 1, 0, none⟩ = some (.slice A0 p0.1.length c0) := by rw [cell_of_row w2 (w.heap.size + 1) 0 _ _ _ hX2]; rfl
  have hk21 : w2.cell? ⟨w.heap.size + 1, 1, none⟩ = some (.slice none 0 0) := by rw [cell_of_row w2 (w.heap.size + 1) 1 _ _ _ hX2]; rfl
  have hf2 : w2.frozen? ⟨w.heap.size + 1, 1, none⟩ = false := frozen_of_row w2 (w.heap.size + 1) 1 _ _ hX2
  have hq0 : w2.cell? ⟨w.heap.size, 0, none⟩ = some (.slice none 0 0) := by rw [cell_of_row w2 w.heap.size 0 _ _ _ hR2]; rfl
  have hz0 : w2.frozen? ⟨w.heap.size, 0, none⟩ = false := frozen_of_row w2 w.heap.size 0 _ _ hR2
  have hq1 : w2.cell? ⟨w.heap.size, 1, none⟩ = some (.slice none 0 0) := by rw [cell_of_row w2 w.heap.size 1 _ _ _ hR2]; rfl
  have hz1 : w2.frozen? ⟨w.heap.size, 1, none⟩ = false := frozen_of_row w2 w.heap.size 1 _ _ hR2
  have hXX2 : (w2.setCell ⟨w.heap.size + 1, 1, none⟩ (.slice A1 p1.1.length c1)).heap[w.heap.size + 1]? = some (.cells #[.slice A0 p0.1.length c0, .slice A1 p1.1.length c1] 87 (0, 0)) := by
    have h := heap_setCell_same w2 (w.heap.size + 1) 1 _ _ (.slice A1 p1.1.length c1) hX2
    simpa using h
  have HX2 := Lib.hid hXX2
  have HR2 := Lib.hid ((heap_setCell_other w2 ⟨w.heap.size + 1, 1, none⟩ w.heap.size (.slice A1 p1.1.length c1) hRX).trans hR2)
  have HO0 := Lib.hid (ownI_grown HO0.out hgr2 (ownI_ne HO0.out hrin1 (by decide)))
  have HO0 := Lib.hid (ownI_other (p := ⟨w.heap.size + 1, 1, none⟩) HO0.out (ownI_ne HO0.out hX2 (by decide)) (.slice A1 p1.1.length c1))
  have HO1 := Lib.hid (ownI_other (p := ⟨w.heap.size + 1, 1, none⟩) HO1.out (ownI_ne HO1.out hX2 (by decide)) (.slice A1 p1.1.length c1))
  have HIN2 := Lib.hid (hin2.set ⟨w.heap.size + 1, 1, none⟩ (Ne.symm hgX) (by show B ≤ w.heap.size + 1; omega) (.slice A1 p1.1.length c1))
  have HG2 := Lib.hid (grown_set_new (grown_trans HG1.out hgr2) ⟨w.heap.size + 1, 1, none⟩ (by show w.heap.size ≤ w.heap.size + 1; omega) (.slice A1 p1.1.length c1))
  clear hXX2 hin2 hgr2 hX2 hR2 hrin1
  go_wp2
  have hpe : pConf s = ((p0.1, p1.1), s2) := by
    unfold pConf
    simp only [HP0.out, ← HS1.out, HP1.out, ← HS2.out]
  rw [hpe]
  have hRg : w.heap.size ≠ g := by omega
  have r0 := heap_setCell_same _ w.heap.size 0 _ _ (.slice A0 p0.1.length c0) HR2.out
  have r1 := heap_setCell_same _ w.heap.size 1 _ _ (.slice A1 p1.1.length c1) r0
  have o00 := ownI_other (p := ⟨w.heap.size, 0, none⟩) HO0.out (ownI_ne HO0.out HR2.out (by decide)) (.slice A0 p0.1.length c0)
  have o01 := ownI_other (p := ⟨w.heap.size, 1, none⟩) o00 (ownI_ne o00 r0 (by decide)) (.slice A1 p1.1.length c1)
  have o10 := ownI_other (p := ⟨w.heap.size, 0, none⟩) HO1.out (ownI_ne HO1.out HR2.out (by decide)) (.slice A0 p0.1.length c0)
  have o11 := ownI_other (p := ⟨w.heap.size, 1, none⟩) o10 (ownI_ne o10 r0 (by decide)) (.slice A1 p1.1.length c1)
  have hin := ((HIN2.out.set ⟨w.heap.size, 0, none⟩ hRg hBw (.slice A0 p0.1.length c0)).set ⟨w.heap.size, 1, none⟩ hRg hBw (.slice A1 p1.1.length c1))
  have hgr := (grown_set_new (grown_set_new HG2.out ⟨w.heap.size, 0, none⟩ (Nat.le_refl _) (.slice A0 p0.1.length c0)) ⟨w.heap.size, 1, none⟩ (Nat.le_refl _) (.slice A1 p1.1.length c1))
  have hrow : _ = some (Obj.cells #[.slice A0 p0.1.length c0, .slice A1 p1.1.length c1] 87 (0, 0)) := r1
  exact bodyPost_ret (v := .agg #[.slice A0 p0.1.length c0, .slice A1 p1.1.length c1]) (results_cell_row rfl _ _ w.heap.size 87 #[.slice A0 p0.1.length c0, .slice A1 p1.1.length c1] (0, 0) _ rfl hrow Tryz.underlying87 rfl (by kernel_rfl)) rfl ⟨_, _, rfl, o01, o11, hin, hgr⟩
end Go.Proofs.YtdbaajgkcjpnoaaGreat.Mo

/-! Package scupperref03's tests of lists of numbers, as contracts of calls. -/
namespace Go.Proofs.YtdbaajgkcjpnoaaGreat.Mo
open Go.RowKit By CoP Co

set_option maxHeartbeats 400000 in
theorem has_any (A : Option Addr) (n c B : Nat) (l : List Int) (hn : n = l.length) (hm : n ≤ 140737488355328) (x : Int) (hx0 : -9223372036854775808 ≤ x) (hx1 : x ≤ 9223372036854775807) (w : World) (hr : LiesI w B A l) :
    Calls Tryz.prog 70 #[.slice A n c, .int .i64 x] w (Ret (.bool (decide (x ∈ l))) w) := by
  have HN := Lib.hid hn
  have HR := Lib.hid hr
  clear hn hr
  go_enter Tryz.func70, Tryz.ntmps70
  go_wp2
  go_loopw [5] (fun i wr => ∃ k : Nat, k ≤ n ∧ i = .int .i64 k ∧ wr = w ∧ x ∉ l.take k) (fun i _ => n - (intOf i).toNat)
  case atStart => exact ⟨0, Nat.zero_le _, rfl, rfl, by simp⟩
  case round =>
    obtain ⟨k, hk, rfl, rfl, hno⟩ := hrel
    have HNO := Lib.hid hno
    clear hno
    by_cases hkn : k < n
    · have hkl : k < l.length := by have := HN.out; omega
      obtain ⟨g, o, rfl, hg, hc, hy0, hy1⟩ := HR.out.at_ hkl
      have HT := Lib.hid (List.take_succ_eq_append_getElem hkl)
      have HM := Lib.hid (List.getElem_mem hkl)
      generalize l[k] = y at hc hy0 hy1 HT HM
      clear hkl
      by_cases he : y = x
      · subst he
        have HD := Lib.hid (decide_eq_true HM.out)
        go_wp2
        go_ret
        rw [HD.out]
        exact ⟨rfl, rfl⟩
      · have hno2 : x ∉ l.take (k + 1) := by
          rw [HT.out, List.mem_append, List.mem_singleton]
          exact fun h => h.elim HNO.out (fun e => he e.symm)
        have HNO2 := Lib.hid hno2
        clear hno2 HNO HT HM
        go_wp2
        go_roundw
        case rel => exact ⟨k + 1, by omega, by go_num, trivial, HNO2.out⟩
        case measure => simp [intOf]; omega
    · obtain rfl : k = n := by omega
      have hno := HNO.out
      rw [List.take_of_length_le (by have := HN.out; omega)] at hno
      have HD := Lib.hid (decide_eq_false hno)
      clear hno HNO
      go_wp2
      go_ret
      rw [HD.out]
      exact ⟨rfl, rfl⟩

/-- Gives a value; memory as it was. -/
def RetQ (v : Value) (w : World) (e : Ending) (w' : World) : Prop := e = .returned v ∧ ∃ q, w' = w.drewN q
theorem drewN2 (w : World) (q r : Nat) : (w.drewN q).drewN r = w.drewN (q + r) := by simp [World.drewN, Nat.add_assoc]
/-- From 1 to 16, and rising. -/
def risingFrom : Int → List Int → Bool
  | _, [] => true
  | p, x :: t => decide (1 ≤ x) && decide (x ≤ 16) && decide (p < x) && risingFrom x t
def risingB (l : List Int) : Bool := risingFrom 0 l
theorem risingFrom_drop (p : Int) (l : List Int) (k : Nat) (h : k < l.length) : risingFrom p (l.drop k) = (decide (1 ≤ l[k]) && decide (l[k] ≤ 16) && decide (p < l[k]) && risingFrom l[k] (l.drop (k + 1))) := by
  rw [List.drop_eq_getElem_cons h]; rfl

set_option maxHeartbeats 800000 in
theorem rising_any (A : Option Addr) (n c B : Nat) (l : List Int) (hn : n = l.length) (hm : n ≤ 140737488355328) (w : World) (hr : LiesI w B A l) :
    Calls Tryz.prog 71 #[.slice A n c] w (RetQ (.bool (risingB l)) w) := by
  have HN := Lib.hid hn
  have HR := Lib.hid hr
  clear hn hr
  go_enter Tryz.func71, Tryz.ntmps71
  go_wp2
  go_loopw [3] (fun i wr => ∃ (k q : Nat) (p : Int), k ≤ n ∧ i = .int .i64 k ∧ wr = w.drewN q ∧ risingB l = risingFrom p (l.drop k) ∧ ((k = 0 ∧ p = 0) ∨ (0 < k ∧ l[k - 1]? = some p))) (fun i _ => n - (intOf i).toNat)
  case atStart => exact ⟨0, 0, 0, Nat.zero_le _, rfl, rfl, rfl, .inl ⟨rfl, rfl⟩⟩
  case round =>
    obtain ⟨k, q, p, hk, rfl, rfl, hri, hp⟩ := hrel
    by_cases hkn : k < n
    · have hkl : k < l.length := by have := HN.out; omega
      rw [risingFrom_drop p l k hkl] at hri
      obtain ⟨g, o, rfl, hg, hc, hy0, hy1⟩ := HR.out.at_ hkl
      have hlk : l[k]? = some l[k] := List.getElem?_eq_getElem hkl
      have hp2 : 0 < k → w.cell? ⟨g, o + (k - 1), none⟩ = some (.int .i64 p) ∧ -9223372036854775808 ≤ p ∧ p ≤ 9223372036854775807 := fun h0 => by
        rcases hp with ⟨h1, _⟩ | ⟨_, h1⟩
        · omega
        · have hkl' : k - 1 < l.length := by omega
          obtain ⟨g2, o2, e, _, hc2, h2, h3⟩ := HR.out.at_ hkl'
          injection e with e
          injection e with e1 e2
          subst e1 e2
          have e3 : l[k - 1] = p := by rw [List.getElem?_eq_getElem hkl'] at h1; exact Option.some.inj h1
          rw [e3] at hc2 h2 h3
          exact ⟨hc2, h2, h3⟩
      generalize l[k] = y at hc hy0 hy1 hlk hri
      have HRI := Lib.hid hri
      have HLK := Lib.hid hlk
      have HP := Lib.hid hp
      clear hri hlk hp
      have hk47 : (k : Int) ≤ 140737488355328 := by omega
      by_cases h1 : y < 1
      · have hf : risingB l = false := by rw [HRI.out, decide_eq_false (by omega)]; rfl
        have HF := Lib.hid hf
        clear hf hp2
        go_wp2
        go_quiet (fail)
        go_wp2
        go_ret
        rw [HF.out]
        exact ⟨rfl, _, drewN2 _ _ _⟩
      · have hd1 : decide (y < 1) = false := decide_eq_false h1
        by_cases h16 : 16 < y
        · have hf : risingB l = false := by rw [HRI.out, decide_eq_false (p := y ≤ 16) (by omega)]; simp
          have HF := Lib.hid hf
          clear hf hp2
          go_wp2
          go_quiet (fail)
          go_wp2
          go_ret
          rw [HF.out]
          exact ⟨rfl, _, drewN2 _ _ _⟩
        · have hd16 : decide (16 < y) = false := decide_eq_false h16
          by_cases h0 : 0 < k
          · obtain ⟨hcp, hp0, hp1⟩ := hp2 h0
            obtain ⟨j, hj⟩ : ∃ j, k - 1 = j := ⟨_, rfl⟩
            rw [hj] at hcp
            have hji : (k : Int) - 1 = (j : Int) := by omega
            have hw : IntKind.i64.wrap ((k : Int) - 1) = (j : Int) := by rw [IntWalk.i64_in _ (by constructor <;> omega)]; exact hji
            have hk0 : (0 : Int) < (k : Int) := by omega
            have hjn : (j : Int) < (n : Int) := by omega
            by_cases hpy : y ≤ p
            · have hf : risingB l = false := by rw [HRI.out, decide_eq_false (p := p < y) (by omega)]; simp
              have HF := Lib.hid hf
              clear hf hp2 hj
              go_wp2
              go_quiet (fail)
              go_wp2
              go_ret
              rw [HF.out]
              exact ⟨rfl, _, drewN2 _ _ _⟩
            · have hdp : decide (y ≤ p) = false := decide_eq_false hpy
              have hf : risingB l = risingFrom y (l.drop (k + 1)) := by rw [HRI.out, decide_eq_true (p := 1 ≤ y) (by omega), decide_eq_true (p := y ≤ 16) (by omega), decide_eq_true (p := p < y) (by omega)]; simp
              have HF := Lib.hid hf
              clear hf hp2 hj
              go_wp2
              go_quiet (fail)
              go_wp2
              go_roundw
              case rel => exact ⟨k + 1, _, y, by omega, by go_num, rfl, HF.out, .inr ⟨by omega, HLK.out⟩⟩
              case measure => simp [intOf]; omega
          · obtain rfl : k = 0 := by omega
            rw [Nat.add_zero] at hc
            have hf : risingB l = risingFrom y (l.drop (0 + 1)) := by
              rcases HP.out with ⟨_, e⟩ | ⟨e, _⟩
              · rw [HRI.out, e, decide_eq_true (p := 1 ≤ y) (by omega), decide_eq_true (p := y ≤ 16) (by omega), decide_eq_true (p := 0 < y) (by omega)]; simp
              · omega
            have HF := Lib.hid hf
            clear hf hp2
            go_wp2
            go_quiet (fail)
            go_wp2
            go_roundw
            case rel => exact ⟨0 + 1, _, y, by omega, by go_num, rfl, HF.out, .inr ⟨by omega, HLK.out⟩⟩
            case measure => simp [intOf]; omega
    · obtain rfl : k = n := by omega
      have hf : risingB l = true := by rw [hri, List.drop_eq_nil_of_le (by have := HN.out; omega)]; rfl
      have HF := Lib.hid hf
      clear hf hri hp
      go_wp2
      go_ret
      rw [HF.out]
      exact ⟨rfl, _, rfl⟩
end Go.Proofs.YtdbaajgkcjpnoaaGreat.Mo

/-! Package scupperref03's test of a configuration, as a contract of a call. -/
namespace Go.Proofs.YtdbaajgkcjpnoaaGreat.Mo
open Go.RowKit By CoP Co

/-- Sound. -/
def confB (vs ls : List Int) : Bool := vs.all (fun v => decide (v ∉ ls)) && risingB vs && risingB ls && decide (0 < vs.length)
theorem LiesI.drewN {w : World} {B : Nat} {A : Option Addr} {l : List Int} (h : LiesI w B A l) (k : Nat) : LiesI (w.drewN k) B A l := h

set_option maxHeartbeats 800000 in
theorem confOK_any (B : Nat) (w : World) (A : Option Addr) (n c : Nat) (vs : List Int) (hn : n = vs.length) (hrv : LiesI w B A vs) (A2 : Option Addr) (m c2 : Nat) (ls : List Int) (hm : m = ls.length) (hrl : LiesI w B A2 ls)
    (hB : B ≤ w.heap.size) (hn47 : n ≤ 140737488355328) (hm47 : m ≤ 140737488355328) :
    Calls Tryz.prog 53 #[.agg #[.slice A n c, .slice A2 m c2]] w (fun e w' => e = .returned (.bool (confB vs ls)) ∧ Below w.heap.size w w') := by
  obtain ⟨w0, hw0⟩ : ∃ w0, w0 = w.alloc (.cells #[.slice A n c, .slice A2 m c2] 87) := ⟨_, rfl⟩
  have hb0 : Below w.heap.size w w0 := by rw [hw0]; exact (Below.refl _ _).alloc (Nat.le_refl _) _
  have hrow : w0.heap[w.heap.size]? = some (.cells #[.slice A n c, .slice A2 m c2] 87 (0, 0)) := by rw [hw0]; exact heap_alloc_new w _
  have hc0 : w0.cell? ⟨w.heap.size, 0, none⟩ = some (.slice A n c) := by rw [cell_of_row w0 _ 0 _ _ _ hrow]; rfl
  have hc1 : w0.cell? ⟨w.heap.size, 1, none⟩ = some (.slice A2 m c2) := by rw [cell_of_row w0 _ 1 _ _ _ hrow]; rfl
  have HN := Lib.hid hn
  have HM := Lib.hid hm
  have HRV := Lib.hid (hrv.below (hb0.mono hB))
  have HRL := Lib.hid (hrl.below (hb0.mono hB))
  have HB0 := Lib.hid hb0
  have hcb : confB vs ls = confB vs ls := rfl
  conv at hcb => rhs; unfold confB
  have HCB := Lib.hid hcb
  clear hn hm hrv hrl hb0 hrow hcb
  go_enter Tryz.func53, Tryz.ntmps53
  go_wp2
  rw [← hw0]
  clear hw0
  go_loopw [3] (fun i wr => ∃ (k q : Nat), k ≤ n ∧ i = .int .i64 k ∧ wr = w0.drewN q ∧ (vs.take k).all (fun v => decide (v ∉ ls)) = true) (fun i _ => n - (intOf i).toNat)
  case atStart => exact ⟨0, 0, Nat.zero_le _, rfl, rfl, rfl⟩
  case round =>
    obtain ⟨k, q, hk, rfl, rfl, hal⟩ := hrel
    by_cases hkn : k < n
    · have hkl : k < vs.length := by have := HN.out; omega
      obtain ⟨g, o, rfl, hg, hc, hy0, hy1⟩ := HRV.out.at_ hkl
      have hT := List.take_succ_eq_append_getElem hkl
      have hMem := List.getElem_mem hkl
      generalize vs[k] = y at hc hy0 hy1 hT hMem
      have HT := Lib.hid hT
      have HAL := Lib.hid hal
      have HMEM := Lib.hid hMem
      clear hT hal hkl hMem
      by_cases hin : y ∈ ls
      · have HIN := Lib.hid (decide_eq_true hin)
        have hf : confB vs ls = false := by
          rw [HCB.out]
          have : vs.all (fun v => decide (v ∉ ls)) = false := by
            rw [List.all_eq_false]
            exact ⟨y, HMEM.out, by simp [hin]⟩
          rw [this]; simp
        have HF := Lib.hid hf
        clear hf hin
        go_wp2
        go_region_law (go_simp; go_at_call 70; refine (has_any A2 m c2 B ls HM.out hm47 y hy0 hy1 _ (HRL.out.drewN _)).mono ?_; rintro e w2 ⟨rfl, rfl⟩; rw [HIN.out])
        all_goals
          go_wp2
          go_ret
          rw [HF.out]
          exact ⟨rfl, below_drewN HB0.out _⟩
      · have HIN := Lib.hid (decide_eq_false hin)
        have hal2 : (vs.take (k + 1)).all (fun v => decide (v ∉ ls)) = true := by
          rw [HT.out, List.all_append, HAL.out]; simp [hin]
        have HAL2 := Lib.hid hal2
        clear hal2 hin
        go_wp2
        go_region_law (go_simp; go_at_call 70; refine (has_any A2 m c2 B ls HM.out hm47 y hy0 hy1 _ (HRL.out.drewN _)).mono ?_; rintro e w2 ⟨rfl, rfl⟩; rw [HIN.out])
        all_goals
          go_wp2
          go_roundw
          case rel => exact ⟨k + 1, _, by omega, by go_num, rfl, HAL2.out⟩
          case measure => simp [intOf]; omega
    · obtain rfl : k = n := by omega
      have hcb := HCB.out
      rw [List.take_of_length_le (by have := HN.out; omega)] at hal
      rw [hal] at hcb
      have HCB2 := Lib.hid hcb
      clear hal hcb HCB
      have HV := fun w' hr => rising_any A k c B vs HN.out hn47 w' hr
      have HL := fun w' hr => rising_any A2 m c2 B ls HM.out hm47 w' hr
      have HKN := Lib.hid HN.out
      clear HN
      generalize risingB vs = bv at HV HCB2
      generalize risingB ls = bl at HL HCB2
      cases bv with
      | false =>
        have hf : confB vs ls = false := by rw [HCB2.out]; rfl
        have HF := Lib.hid hf
        clear hf
        go_wp2_with fail
        refine (HV _ (HRV.out.drewN _)).mono ?_
        rintro e w2 ⟨rfl, q2, rfl⟩
        go_wp2
        go_ret
        rw [HF.out]
        exact ⟨rfl, below_drewN HB0.out _⟩
      | true =>
        cases bl with
        | false =>
          have hf : confB vs ls = false := by rw [HCB2.out]; rfl
          have HF := Lib.hid hf
          clear hf
          go_wp2_with fail
          refine (HV _ (HRV.out.drewN _)).mono ?_
          rintro e w2 ⟨rfl, q2, rfl⟩
          go_wp2_with fail
          refine (HL _ (HRL.out.drewN _)).mono ?_
          rintro e w3 ⟨rfl, q3, rfl⟩
          go_wp2
          go_ret
          rw [HF.out]
          exact ⟨rfl, below_drewN HB0.out _⟩
        | true =>
          have hf : confB vs ls = decide (0 < k) := by rw [HCB2.out, ← HKN.out]; simp
          have HF := Lib.hid hf
          clear hf
          go_wp2_with fail
          refine (HV _ (HRV.out.drewN _)).mono ?_
          rintro e w2 ⟨rfl, q2, rfl⟩
          go_wp2_with fail
          refine (HL _ (HRL.out.drewN _)).mono ?_
          rintro e w3 ⟨rfl, q3, rfl⟩
          go_wp2
          go_ret
          rw [HF.out]
          exact ⟨rfl, below_drewN HB0.out _⟩
end Go.Proofs.YtdbaajgkcjpnoaaGreat.Mo

/-! Package scupperref03's reading of a configuration's bytes, as a contract of a call. -/
namespace Go.Proofs.YtdbaajgkcjpnoaaGreat.Mo
open Go.RowKit By CoP Co

theorem pIdsL_le (k : Nat) (s : St) : ∀ x ∈ (pIdsL k s).1, x ≤ 16 := by
  induction k generalizing s with
  | zero => intro x hx; simp [pIdsL] at hx
  | succ k ih =>
    cases s with
    | none => intro x hx; simp [pIdsL] at hx
    | some r =>
      intro x hx
      simp only [pIdsL, List.mem_cons] at hx
      rcases hx with rfl | hx
      · exact pInt_le 16 _
      · exact ih _ x hx
theorem pIdsL_len (k : Nat) (s : St) : (pIdsL k s).1.length ≤ k := by
  induction k generalizing s with
  | zero => simp [pIdsL]
  | succ k ih =>
    cases s with
    | none => simp [pIdsL]
    | some r => simp only [pIdsL, List.length_cons]; have := ih (pInt 16 (some r)).2; omega
theorem pIds_len (s : St) : (pIds s).1.length ≤ 16 := Nat.le_trans (pIdsL_len _ _) (pInt_le 16 s)
/-- As ints. -/
def asI (l : List Nat) : List Int := l.map fun (x : Nat) => (x : Int)
theorem OwnI.lies {base : Nat} {w : World} {A : Option Addr} {n c : Nat} {l : List Nat} (h : OwnI base w (.slice A n c) l) (hl : ∀ x ∈ l, x ≤ 16) : LiesI w w.heap.size A (asI l) := fun hn => by
  have hlt := h.lt
  have hcs := fun g e => World.ownsRow.cells h (g := g) e
  rcases h.2 with ⟨e, h0⟩ | ⟨g, cap, cur, e, hb, hk, rest⟩
  · simp only [asI, List.length_map] at hn; omega
  · injection e with e1 e2 e3
    subst e1
    refine ⟨g, 0, rfl, row_lt hk, fun j x hx => ?_⟩
    simp only [asI, List.getElem?_map, Option.map_eq_some_iff] at hx
    obtain ⟨y, hy, rfl⟩ := hx
    have h2 := hcs g rfl j (.int .i64 (y : Int)) (by simp [ivs, hy])
    have h3 := hl y (List.mem_of_getElem? hy)
    rw [plainAdd] at h2
    exact ⟨h2, by omega, by omega⟩

set_option maxHeartbeats 1600000 in
theorem toConf_any (w : World) (A : Option Addr) (n c : Nat) (b : List UInt8) (hn : n = b.length) (hnc : n ≤ c) (hm : n ≤ 140737488355328) (hr : Lies w w.heap.size A b) :
    Calls Tryz.prog 48 #[.slice A n c] w (fun e w' => ∃ v0 v1, e = .returned (.tuple #[.agg #[v0, v1], .bool (pWhole (pConf (some b)).2 && confB (asI (pConf (some b)).1.1) (asI (pConf (some b)).1.2))]) ∧
      OwnI w.heap.size w' v0 (pConf (some b)).1.1 ∧ OwnI w.heap.size w' v1 (pConf (some b)).1.2 ∧ Below w.heap.size w w') := by
  subst hn
  obtain ⟨w0, hw0⟩ : ∃ w0, w0 = (w.alloc (.cells #[.slice none 0 0, .slice none 0 0] 87)).alloc (.cells #[.slice A b.length c, .int .i64 0, .bool false] 98) := ⟨_, rfl⟩
  have hb0 : Below w.heap.size w w0 := by rw [hw0]; exact ((Below.refl _ _).alloc (Nat.le_refl _) _).alloc (((Below.refl _ _).alloc (Nat.le_refl _) _).size) _
  have hin0 : InAt w.heap.size (w.heap.size + 1) w0 b (some b) := by
    refine ⟨A, c, 0, false, Nat.le_succ _, hnc, hm, ?_, hr.below hb0, Nat.zero_le _, .inr ⟨rfl, rfl⟩⟩
    rw [hw0]; exact heap_alloc2_new w _ _
  have hrr0 : w0.heap[w.heap.size]? = some (.cells #[.slice none 0 0, .slice none 0 0] 87 (0, 0)) := by rw [hw0]; exact heap_alloc2_old w _ _
  have hcall := inConf_any w.heap.size (w.heap.size + 1) b (some b) w0 hin0 hb0.size
  have hl0 : ∀ x ∈ (pConf (some b)).1.1, x ≤ 16 := pIdsL_le _ _
  have hl1 : ∀ x ∈ (pConf (some b)).1.2, x ≤ 16 := pIdsL_le _ _
  have hs0 : (pConf (some b)).1.1.length ≤ 16 := pIds_len _
  have hs1 : (pConf (some b)).1.2.length ≤ 16 := pIds_len _
  generalize pConf (some b) = P at hcall hl0 hl1 hs0 hs1 ⊢
  obtain ⟨⟨vs, ls⟩, st⟩ := P
  simp only at hcall hl0 hl1 hs0 hs1 ⊢
  have HC := Lib.hid hcall
  have HL0 := Lib.hid hl0
  have HL1 := Lib.hid hl1
  have HB0 := Lib.hid hb0
  have HRR0 := Lib.hid hrr0
  clear hcall hl0 hl1 hb0 hrr0 hin0 hr
  go_enter Tryz.func48, Tryz.ntmps48
  go_wp2_with fail
  rw [← hw0]
  refine HC.out.mono ?_
  rintro e w1 ⟨v0, v1, rfl, ho0, ho1, hin1, hgr1⟩
  clear hw0
  obtain ⟨A0, c0, rfl, hc0, hM0⟩ := ho0.form
  obtain ⟨A1, c1, rfl, hc1, hM1⟩ := ho1.form
  obtain ⟨X, hX⟩ : ∃ X, X = w1.heap.size := ⟨_, rfl⟩
  obtain ⟨w2, hw2⟩ : ∃ w2, w2 = w1.alloc (.cells #[.slice A0 vs.length c0, .slice A1 ls.length c1] 87) := ⟨_, rfl⟩
  have hz0 := HB0.out.size
  have hz1 := hgr1.size
  have hlt0 := row_lt HRR0.out
  have hx2 : w2.heap[X]? = some (.cells #[.slice A0 vs.length c0, .slice A1 ls.length c1] 87 (0, 0)) := by rw [hw2, hX]; exact heap_alloc_new w1 _
  have hr2 : w2.heap[w.heap.size]? = some (.cells #[.slice none 0 0, .slice none 0 0] 87 (0, 0)) := by
    rw [hw2, heap_alloc_old w1 _ (by omega), hgr1.block w.heap.size hlt0 (fun e => by have := Option.some.inj e; omega)]; exact HRR0.out
  have hin2 : InAt w.heap.size (w.heap.size + 1) w2 b st := by rw [hw2]; exact hin1.alloc _
  have ho02 : OwnI w0.heap.size w2 (.slice A0 vs.length c0) vs := by rw [hw2]; exact World.ownsRow.alloc ho0 _
  have ho12 : OwnI w0.heap.size w2 (.slice A1 ls.length c1) ls := by rw [hw2]; exact World.ownsRow.alloc ho1 _
  have hb2 : Below w.heap.size w w2 := by
    rw [hw2]
    exact ((HB0.out).grown hgr1 hz0 (fun k e => by have := Option.some.inj e; omega)).alloc (by omega) _
  have hca : w2.cell? ⟨X, 0, none⟩ = some (.slice A0 vs.length c0) := by rw [cell_of_row w2 _ 0 _ _ _ hx2]; rfl
  have hcb : w2.cell? ⟨X, 1, none⟩ = some (.slice A1 ls.length c1) := by rw [cell_of_row w2 _ 1 _ _ _ hx2]; rfl
  have HX2 := Lib.hid hx2
  have HR2 := Lib.hid hr2
  have HIN2 := Lib.hid hin2
  have HO0 := Lib.hid ho02
  have HO1 := Lib.hid ho12
  have HB2 := Lib.hid hb2
  clear hx2 hr2 hin2 ho02 ho12 hb2 ho0 ho1 hin1 hgr1 HRR0 HB0
  go_wp2
  rw [← hw2]
  clear hw2
  subst hX
  have hXg : (some w1.heap.size : Option Nat) ≠ some (w.heap.size + 1) := fun e => by
    have e' := Option.some.inj e
    obtain ⟨_, h1, _⟩ := HIN2.out.row
    have h2 := HX2.out
    rw [e', h1] at h2
    injection h2 with h2
    injection h2 with _ h3
    exact absurd h3 (by decide)
  have hRg : (some w.heap.size : Option Nat) ≠ some (w.heap.size + 1) := fun e => by have := Option.some.inj e; omega
  obtain ⟨_, hri2, _⟩ := HIN2.out.row
  have HRI2 := Lib.hid hri2
  clear hri2
  have hW := inWhole_any w.heap.size (w.heap.size + 1) b st w2.drew HIN2.out
  obtain ⟨ok, hpw⟩ : ∃ x, pWhole st = x := ⟨_, rfl⟩
  rw [hpw] at hW
  have HPW := Lib.hid hpw
  have HW := Lib.hid hW
  clear hpw hW
  cases ok with
  | false =>
    go_region_law (go_simp; go_at_call 52; refine HW.out.mono ?_; rintro e w3 ⟨rfl, hin3, hgr3⟩
                   have hgr3' : w2.grownBy w3 (some (w.heap.size + 1)) := ⟨hgr3.os, hgr3.tape, hgr3.output, hgr3.size, hgr3.block⟩
                   have hx3 := (hgr3'.block w1.heap.size (row_lt HX2.out) hXg).trans HX2.out
                   have hr3 := (hgr3'.block w.heap.size (row_lt HR2.out) hRg).trans HR2.out
                   have hca3 : w3.cell? ⟨w1.heap.size, 0, none⟩ = some (.slice A0 vs.length c0) := by rw [cell_of_row w3 _ 0 _ _ _ hx3]; rfl
                   have hcb3 : w3.cell? ⟨w1.heap.size, 1, none⟩ = some (.slice A1 ls.length c1) := by rw [cell_of_row w3 _ 1 _ _ _ hx3]; rfl
                   have hra3 : w3.cell? ⟨w.heap.size, 0, none⟩ = some (.slice none 0 0) := by rw [cell_of_row w3 _ 0 _ _ _ hr3]; rfl
                   have hrb3 : w3.cell? ⟨w.heap.size, 1, none⟩ = some (.slice none 0 0) := by rw [cell_of_row w3 _ 1 _ _ _ hr3]; rfl
                   have hfa3 : w3.frozen? ⟨w.heap.size, 0, none⟩ = false := frozen_of_row w3 _ 0 _ _ hr3
                   have hfb3 : w3.frozen? ⟨w.heap.size, 1, none⟩ = false := frozen_of_row w3 _ 1 _ _ hr3
                   have HR3 := Lib.hid hr3
                   have HO03 := Lib.hid (ownI_grown HO0.out hgr3' (ownI_ne HO0.out HRI2.out (by decide)))
                   have HO13 := Lib.hid (ownI_grown HO1.out hgr3' (ownI_ne HO1.out HRI2.out (by decide)))
                   have HB3 := Lib.hid (HB2.out.grown hgr3' HB2.out.size (fun k e => by have := Option.some.inj e; omega))
                   clear hin3 hgr3 hgr3' hx3 hr3)
    all_goals
      go_wp2
      have r0 := heap_setCell_same w3 w.heap.size 0 _ _ (.slice A0 vs.length c0) HR3.out
      have r1 := heap_setCell_same _ w.heap.size 1 _ _ (.slice A1 ls.length c1) r0
      have o0 := ownI_other (p := ⟨w.heap.size, 1, none⟩) (ownI_other (p := ⟨w.heap.size, 0, none⟩) HO03.out (ownI_ne HO03.out HR3.out (by decide)) (.slice A0 vs.length c0)) (ownI_ne (ownI_other (p := ⟨w.heap.size, 0, none⟩) HO03.out (ownI_ne HO03.out HR3.out (by decide)) (.slice A0 vs.length c0)) r0 (by decide)) (.slice A1 ls.length c1)
      have o1 := ownI_other (p := ⟨w.heap.size, 1, none⟩) (ownI_other (p := ⟨w.heap.size, 0, none⟩) HO13.out (ownI_ne HO13.out HR3.out (by decide)) (.slice A0 vs.length c0)) (ownI_ne (ownI_other (p := ⟨w.heap.size, 0, none⟩) HO13.out (ownI_ne HO13.out HR3.out (by decide)) (.slice A0 vs.length c0)) r0 (by decide)) (.slice A1 ls.length c1)
      have hbz := (HB3.out.setCell (p := ⟨w.heap.size, 0, none⟩) (Nat.le_refl _) (.slice A0 vs.length c0)).setCell (p := ⟨w.heap.size, 1, none⟩) (Nat.le_refl _) (.slice A1 ls.length c1)
      have hrow : _ = some (Obj.cells #[.slice A0 vs.length c0, .slice A1 ls.length c1] 87 (0, 0)) := r1
      have hqa := cell_of_row _ w.heap.size 0 _ _ _ hrow
      have hqb := cell_of_row _ w.heap.size 1 _ _ _ hrow
      exact bodyPost_ret (v := .tuple #[.agg #[.slice A0 vs.length c0, .slice A1 ls.length c1], .bool false]) (by simp [results, Tryz.results48, asAddr, go_sem, hqa, hqb]) rfl ⟨_, _, by rw [HPW.out, Bool.false_and], o0.more hz0, o1.more hz0, hbz⟩
  | true =>
    obtain ⟨cb, hcb2⟩ : ∃ x, confB (asI vs) (asI ls) = x := ⟨_, rfl⟩
    have HCB := Lib.hid hcb2
    clear hcb2
    go_region_law (first
      | (go_simp; go_at_call 52; refine HW.out.mono ?_; rintro e w3 ⟨rfl, hin3, hgr3⟩
         have hgr3' : w2.grownBy w3 (some (w.heap.size + 1)) := ⟨hgr3.os, hgr3.tape, hgr3.output, hgr3.size, hgr3.block⟩
         have hx3 := (hgr3'.block w1.heap.size (row_lt HX2.out) hXg).trans HX2.out
         have hr3 := (hgr3'.block w.heap.size (row_lt HR2.out) hRg).trans HR2.out
         have hca3 : w3.cell? ⟨w1.heap.size, 0, none⟩ = some (.slice A0 vs.length c0) := by rw [cell_of_row w3 _ 0 _ _ _ hx3]; rfl
         have hcb3 : w3.cell? ⟨w1.heap.size, 1, none⟩ = some (.slice A1 ls.length c1) := by rw [cell_of_row w3 _ 1 _ _ _ hx3]; rfl
         have hra3 : w3.cell? ⟨w.heap.size, 0, none⟩ = some (.slice none 0 0) := by rw [cell_of_row w3 _ 0 _ _ _ hr3]; rfl
         have hrb3 : w3.cell? ⟨w.heap.size, 1, none⟩ = some (.slice none 0 0) := by rw [cell_of_row w3 _ 1 _ _ _ hr3]; rfl
         have hfa3 : w3.frozen? ⟨w.heap.size, 0, none⟩ = false := frozen_of_row w3 _ 0 _ _ hr3
         have hfb3 : w3.frozen? ⟨w.heap.size, 1, none⟩ = false := frozen_of_row w3 _ 1 _ _ hr3
         have HR3 := Lib.hid hr3
         have HO03 := Lib.hid (ownI_grown HO0.out hgr3' (ownI_ne HO0.out HRI2.out (by decide)))
         have HO13 := Lib.hid (ownI_grown HO1.out hgr3' (ownI_ne HO1.out HRI2.out (by decide)))
         have HB3 := Lib.hid (HB2.out.grown hgr3' HB2.out.size (fun k e => by have := Option.some.inj e; omega))
         have HX3 := Lib.hid hx3
         clear hin3 hgr3 hgr3' hx3 hr3)
      | (go_simp; go_at_call 53
         have hok := confOK_any w3.heap.size w3 A0 vs.length c0 (asI vs) (by simp [asI]) (HO03.out.lies HL0.out) A1 ls.length c1 (asI ls) (by simp [asI]) (HO13.out.lies HL1.out) (Nat.le_refl _) (by omega) (by omega)
         rw [HCB.out] at hok
         refine hok.mono ?_; rintro e w4 ⟨rfl, hb4⟩
         have hr4 := (hb4.block w.heap.size (row_lt HR3.out)).trans HR3.out
         have hx4 := (hb4.block w1.heap.size (row_lt HX3.out)).trans HX3.out
         have hca4 : w4.cell? ⟨w1.heap.size, 0, none⟩ = some (.slice A0 vs.length c0) := by rw [cell_of_row w4 _ 0 _ _ _ hx4]; rfl
         have hcb4 : w4.cell? ⟨w1.heap.size, 1, none⟩ = some (.slice A1 ls.length c1) := by rw [cell_of_row w4 _ 1 _ _ _ hx4]; rfl
         have hra4 : w4.cell? ⟨w.heap.size, 0, none⟩ = some (.slice none 0 0) := by rw [cell_of_row w4 _ 0 _ _ _ hr4]; rfl
         have hrb4 : w4.cell? ⟨w.heap.size, 1, none⟩ = some (.slice none 0 0) := by rw [cell_of_row w4 _ 1 _ _ _ hr4]; rfl
         have hfa4 : w4.frozen? ⟨w.heap.size, 0, none⟩ = false := frozen_of_row w4 _ 0 _ _ hr4
         have hfb4 : w4.frozen? ⟨w.heap.size, 1, none⟩ = false := frozen_of_row w4 _ 1 _ _ hr4
         have HR4 := Lib.hid hr4
         have HO04 := Lib.hid (ownI_grown HO03.out (grown_of_below hb4 (some w.heap.size)) (ownI_ne HO03.out HR3.out (by decide)))
         have HO14 := Lib.hid (ownI_grown HO13.out (grown_of_below hb4 (some w.heap.size)) (ownI_ne HO13.out HR3.out (by decide)))
         have HB4 := Lib.hid (HB3.out.trans (hb4.mono HB3.out.size))
         clear hr4 hx4 hb4 hok))
    all_goals
      go_wp2
      have r0 := heap_setCell_same w4 w.heap.size 0 _ _ (.slice A0 vs.length c0) HR4.out
      have r1 := heap_setCell_same _ w.heap.size 1 _ _ (.slice A1 ls.length c1) r0
      have o0 := ownI_other (p := ⟨w.heap.size, 1, none⟩) (ownI_other (p := ⟨w.heap.size, 0, none⟩) HO04.out (ownI_ne HO04.out HR4.out (by decide)) (.slice A0 vs.length c0)) (ownI_ne (ownI_other (p := ⟨w.heap.size, 0, none⟩) HO04.out (ownI_ne HO04.out HR4.out (by decide)) (.slice A0 vs.length c0)) r0 (by decide)) (.slice A1 ls.length c1)
      have o1 := ownI_other (p := ⟨w.heap.size, 1, none⟩) (ownI_other (p := ⟨w.heap.size, 0, none⟩) HO14.out (ownI_ne HO14.out HR4.out (by decide)) (.slice A0 vs.length c0)) (ownI_ne (ownI_other (p := ⟨w.heap.size, 0, none⟩) HO14.out (ownI_ne HO14.out HR4.out (by decide)) (.slice A0 vs.length c0)) r0 (by decide)) (.slice A1 ls.length c1)
      have hbz := (HB4.out.setCell (p := ⟨w.heap.size, 0, none⟩) (Nat.le_refl _) (.slice A0 vs.length c0)).setCell (p := ⟨w.heap.size, 1, none⟩) (Nat.le_refl _) (.slice A1 ls.length c1)
      have hrow : _ = some (Obj.cells #[.slice A0 vs.length c0, .slice A1 ls.length c1] 87 (0, 0)) := r1
      have hqa := cell_of_row _ w.heap.size 0 _ _ _ hrow
      have hqb := cell_of_row _ w.heap.size 1 _ _ _ hrow
      exact bodyPost_ret (v := .tuple #[.agg #[.slice A0 vs.length c0, .slice A1 ls.length c1], .bool cb]) (by simp [results, Tryz.results48, asAddr, go_sem, hqa, hqb]) rfl ⟨_, _, by rw [HPW.out, HCB.out, Bool.true_and], o0.more hz0, o1.more hz0, hbz⟩
end Go.Proofs.YtdbaajgkcjpnoaaGreat.Mo

/-! Package msg's rises, as a contract of a call. -/
namespace Go.Proofs.YtdbaajgkcjpnoaaGreat.Mo
open Go.RowKit By CoP Co

/-- Rising. -/
def ascFrom : Int → List Int → Bool
  | _, [] => true
  | p, x :: t => decide (p < x) && ascFrom x t
def ascB : List Int → Bool
  | [] => true
  | x :: t => ascFrom x t
theorem ascFrom_drop (p : Int) (l : List Int) (k : Nat) (h : k < l.length) : ascFrom p (l.drop k) = (decide (p < l[k]) && ascFrom l[k] (l.drop (k + 1))) := by
  rw [List.drop_eq_getElem_cons h]; rfl

set_option maxHeartbeats 800000 in
theorem rises_any (A : Option Addr) (n c B : Nat) (l : List Int) (hn : n = l.length) (hm : n ≤ 140737488355328) (w : World) (hr : LiesI w B A l) :
    Calls Tryz.prog 127 #[.slice A n c] w (RetQ (.bool (ascB l)) w) := by
  have HN := Lib.hid hn
  have HR := Lib.hid hr
  clear hn hr
  go_enter Tryz.func127, Tryz.ntmps127
  go_wp2
  go_loopw [3] (fun i wr => ∃ (k q : Nat), 1 ≤ k ∧ k ≤ n + 1 ∧ i = .int .i64 k ∧ wr = w.drewN q ∧ (k < n → ∃ p, ascB l = ascFrom p (l.drop k) ∧ l[k - 1]? = some p) ∧ (n ≤ k → ascB l = true)) (fun i _ => n + 1 - (intOf i).toNat)
  case atStart =>
    refine ⟨1, 0, Nat.le_refl _, by omega, rfl, rfl, fun h => ?_, fun h => ?_⟩
    · have hx := HN.out
      cases l with
      | nil => simp at hx; omega
      | cons x t => exact ⟨x, rfl, rfl⟩
    · have hx := HN.out
      cases l with
      | nil => rfl
      | cons x t =>
        cases t with
        | nil => rfl
        | cons y u => simp at hx; omega
  case round =>
    obtain ⟨k, q, hk1, hkm, rfl, rfl, hlo, hhi⟩ := hrel
    by_cases hkn : k < n
    · have hkl : k < l.length := by have := HN.out; omega
      obtain ⟨p, hri, hp⟩ := hlo hkn
      rw [ascFrom_drop p l k hkl] at hri
      obtain ⟨g, o, rfl, hg, hc, hy0, hy1⟩ := HR.out.at_ hkl
      have hlk : l[k]? = some l[k] := List.getElem?_eq_getElem hkl
      have hkl' : k - 1 < l.length := by omega
      obtain ⟨g2, o2, e, _, hcp, hp0, hp1⟩ := HR.out.at_ hkl'
      injection e with e
      injection e with e1 e2
      subst e1 e2
      have e3 : l[k - 1] = p := by rw [List.getElem?_eq_getElem hkl'] at hp; exact Option.some.inj hp
      rw [e3] at hcp hp0 hp1
      generalize l[k] = y at hc hy0 hy1 hlk hri
      have HRI := Lib.hid hri
      have HLK := Lib.hid hlk
      clear hri hlk hp hlo hhi e3
      have hk47 : (k : Int) ≤ 140737488355328 := by omega
      obtain ⟨j, hj⟩ : ∃ j, k - 1 = j := ⟨_, rfl⟩
      rw [hj] at hcp
      have hji : (k : Int) - 1 = (j : Int) := by omega
      have hw : IntKind.i64.wrap ((k : Int) - 1) = (j : Int) := by rw [IntWalk.i64_in _ (by constructor <;> omega)]; exact hji
      have hjn : (j : Int) < (n : Int) := by omega
      have hkn' : (k : Int) < (n : Int) := by omega
      by_cases hpy : y ≤ p
      · have hf : ascB l = false := by rw [HRI.out, decide_eq_false (p := p < y) (by omega)]; rfl
        have HF := Lib.hid hf
        clear hf hj
        go_wp2
        go_quiet (fail)
        go_wp2
        go_ret
        rw [HF.out]
        exact ⟨rfl, _, drewN2 _ _ _⟩
      · have hf : ascB l = ascFrom y (l.drop (k + 1)) := by rw [HRI.out, decide_eq_true (p := p < y) (by omega)]; simp
        have hdp : decide (y ≤ p) = false := decide_eq_false hpy
        have HF := Lib.hid hf
        clear hf hj
        go_wp2
        go_quiet (fail)
        go_wp2
        go_roundw
        case rel => exact ⟨k + 1, _, by omega, by omega, by go_num, rfl, fun _ => ⟨y, HF.out, HLK.out⟩, fun h => by rw [HF.out, List.drop_eq_nil_of_le (by have := HN.out; omega)]; rfl⟩
        case measure => simp [intOf]; omega
    · have hend := hhi (by omega)
      have HE := Lib.hid hend
      clear hlo hhi hend
      have hkn' : ¬ (k : Int) < (n : Int) := by omega
      go_wp2
      go_ret
      rw [HE.out]
      exact ⟨rfl, q, rfl⟩
end Go.Proofs.YtdbaajgkcjpnoaaGreat.Mo
