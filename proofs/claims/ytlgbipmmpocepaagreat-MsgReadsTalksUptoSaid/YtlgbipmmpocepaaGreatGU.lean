/- Commands, replies, what edges ask and are told: the reference's reader and the kind say the same. | Messages: what the reference reads of them, and the kind, say the same; a round of reading entries. Plain facts, no walk. | Messages, commands, replies, asks, what edges are told: the reference's reader and the kind say the same of what is sound; zero values; equal structs. Plain facts, no walk. -/
import Derived.Test.YtlgbipmmpocepaaGreatGT
import Derived.Test.YtlgbipmmpocepaaGreatKvD
import Derived.Test.YtlgbipmmpocepaaGreatKpD
import Derived.Test.YtlgbipmmpocepaaGreatKpE
import Derived.Test.YtlgbipmmpocepaaGreatKuB
import Derived.Test.YtlgbipmmpocepaaGreatKpB
/-! Commands, replies, what edges ask and are told: the reference's reader and the kind say the same. -/
namespace Go.Proofs.YtlgbipmmpocepaaGreat.Kd
open Go.RowKit By CoP Co Mo

theorem ties_loose {k : Kd} {p : Rdr} {Q : Data → Prop} (h : Ties k p Q) : Ties (looseK k) p Q := ⟨h.bad, fun e => h.give e, fun e q => h.take e q⟩
theorem ties_op (lo : Int) : Ties (intK lo 5) (pIntD 5) (fun d => (intK 0 5).sound d = true) :=
  ⟨(ties_int (lo := 0) (hi := 5) (most := 5) (by omega) (by omega) (by omega)).bad, fun e => (ties_int (lo := 0) (hi := 5) (most := 5) (by omega) (by omega) (by omega)).give e, fun e h => (ties_int (lo := 0) (hi := 5) (most := 5) (by omega) (by omega) (by omega)).take e h⟩
theorem ties_command : Ties commandK pCommandD (fun d => ∃ ds, d = .agg ds ∧ HoldAll [fun _ => True, fun _ => True, fun d => (intK 0 5).sound d = true, fun _ => True, fun _ => True, fun _ => True, fun _ => True] ds) :=
  ties_rec (ks := commandF) (ps := [pNumD, pNumD, pIntD 5, pDataD, pI64D, pI64D, pNumD]) (qs := [fun _ => True, fun _ => True, fun d => (intK 0 5).sound d = true, fun _ => True, fun _ => True, fun _ => True, fun _ => True])
    ⟨ties_num _ _, ties_num _ _, ties_op 1, ties_text _, ties_i64 _ _, ties_i64 _ _, ties_num _ _, trivial⟩ _
theorem ties_reply : Ties replyK pReplyD (fun d => ∃ ds, d = .agg ds ∧ HoldAll [fun _ => True, fun _ => True, fun d => (intK 0 20).sound d = true, fun _ => True, fun _ => True, fun _ => True] ds) :=
  ties_rec (ks := replyF) (ps := [pNumD, pNumD, pIntD 20, pNumD, pI64D, pI64D]) (qs := [fun _ => True, fun _ => True, fun d => (intK 0 20).sound d = true, fun _ => True, fun _ => True, fun _ => True])
    ⟨ties_num _ _, ties_num _ _, ties_int (by omega) (by omega) (by omega), ties_num _ _, ties_i64 _ _, ties_i64 _ _, trivial⟩ _
def QCmd : Data → Prop := fun d => ∃ ds, d = .agg ds ∧ HoldAll [fun _ => True, fun _ => True, fun d => (intK 0 5).sound d = true, fun _ => True, fun _ => True, fun _ => True, fun _ => True] ds
def QRep : Data → Prop := fun d => ∃ ds, d = .agg ds ∧ HoldAll [fun _ => True, fun _ => True, fun d => (intK 0 20).sound d = true, fun _ => True, fun _ => True, fun _ => True] ds
theorem ties_ask : Ties askK pAskD (fun d => ∃ ds, d = .agg ds ∧ HoldAll [fun _ => True, fun _ => True, fun _ => True, QCmd, fun _ => True] ds) :=
  ties_rec (ks := askF) (ps := [pFlagD, pFlagD, pNumD, pCommandD, pDataD]) (qs := [fun _ => True, fun _ => True, fun _ => True, QCmd, fun _ => True])
    ⟨ties_flag, ties_flag, ties_num _ _, ties_loose ties_command, ties_text _, trivial⟩ askT
theorem ties_told : Ties toldK pToldD (fun d => ∃ ds, d = .agg ds ∧ HoldAll [fun _ => True, fun _ => True, fun d => (intK 0 16).sound d = true, QRep, fun _ => True, fun _ => True] ds) :=
  ties_rec (ks := toldF) (ps := [pNumD, pFlagD, pIntD 16, pReplyD, pI64D, pI64D]) (qs := [fun _ => True, fun _ => True, fun d => (intK 0 16).sound d = true, QRep, fun _ => True, fun _ => True])
    ⟨ties_num _ _, ties_flag, ties_int (by omega) (by omega) (by omega), ties_reply, ties_i64 _ _, ties_i64 _ _, trivial⟩ _
end Go.Proofs.YtlgbipmmpocepaaGreat.Kd

/-! Messages: what the reference reads of them, and the kind, say the same; a round of reading entries. Plain facts, no walk. -/
namespace Go.Proofs.YtlgbipmmpocepaaGreat.Kd
open Go.RowKit By CoP Co Mo

/-- So many, until one is bad. -/
def pRun (p : Rdr) : Nat → St → List Data × St
  | 0, s => ([], s)
  | _ + 1, none => ([], none)
  | n + 1, some r => ((p (some r)).1 :: (pRun p n (p (some r)).2).1, (pRun p n (p (some r)).2).2)
theorem pRun_none (p : Rdr) (n : Nat) : pRun p n none = ([], none) := by cases n <;> rfl
def pEntsD : Rdr := fun s => (.agg (pRun pEntryD (pInt 8 s).1 (pInt 8 s).2).1, (pRun pEntryD (pInt 8 s).1 (pInt 8 s).2).2)
def pMsgD : Rdr := pRec [pIntD 9, pIntD 16, pIntD 16, pNumD, pNumD, pNumD, pNumD, pNumD, pFlagD, pEntsD, pConfD, pIntD 65536, pDataD]
theorem pRun_give {k : Kd} {p : Rdr} {Q : Data → Prop} (h : Ties k p Q) : ∀ (n : Nat) {r : List UInt8} {ds : List Data} {r' : List UInt8}, pRun p n (some r) = (ds, some r') → ∃ u, getMany k n r = some (ds, u) ∧ r' = r.drop u := by
  intro n
  induction n with
  | zero =>
    intro r ds r' e
    have e' : (([] : List Data), some r) = (ds, some r') := e
    injection e' with e1 e2
    injection e2 with e2
    subst e1 e2
    exact ⟨0, rfl, rfl⟩
  | succ n ih =>
    intro r ds r' e
    have e' : ((p (some r)).1 :: (pRun p n (p (some r)).2).1, (pRun p n (p (some r)).2).2) = (ds, some r') := e
    injection e' with e1 e2
    cases hs : (p (some r)).2 with
    | none =>
      rw [hs, pRun_none] at e2
      cases e2
    | some r1 =>
      obtain ⟨u, g1, rfl⟩ := h.give (r := r) (d := (p (some r)).1) (r' := r1) (by rw [← hs])
      rw [hs] at e1 e2
      obtain ⟨v, g2, rfl⟩ := ih (r := r.drop u) (ds := (pRun p n (some (r.drop u))).1) (r' := r') (by rw [← e2])
      refine ⟨u + v, ?_, by rw [List.drop_drop]⟩
      simp only [getMany, g1, g2]
      rw [← e1]
theorem pRun_take {k : Kd} {p : Rdr} {Q : Data → Prop} (h : Ties k p Q) : ∀ (n : Nat) {r : List UInt8} {ds : List Data} {u : Nat}, getMany k n r = some (ds, u) → (∀ d ∈ ds, Q d) → pRun p n (some r) = (ds, some (r.drop u)) := by
  intro n
  induction n with
  | zero =>
    intro r ds u e _
    have e' : some (([] : List Data), 0) = some (ds, u) := e
    injection e' with e'
    injection e' with e1 e2
    subst e1 e2
    rfl
  | succ n ih =>
    intro r ds u e hq
    simp only [getMany] at e
    split at e
    · cases e
    · rename_i d u1 g1
      split at e
      · cases e
      · rename_i ds2 v g2
        injection e with e
        injection e with e1 e2
        subst e1 e2
        have p1 := h.take g1 (hq d (List.mem_cons_self ..))
        have p2 := ih g2 (fun x hx => hq x (List.mem_cons_of_mem _ hx))
        show ((p (some r)).1 :: (pRun p n (p (some r)).2).1, (pRun p n (p (some r)).2).2) = _
        rw [p1]
        simp only
        rw [p2, List.drop_drop]
def QEnt : Data → Prop := fun d => ∃ ds, d = .agg ds ∧ HoldAll [fun _ => True, fun _ => True, fun d => (intK 1 3).sound d = true, fun _ => True, fun _ => True] ds
theorem ties_ents : Ties entsK pEntsD (fun d => ∃ ds, d = .agg ds ∧ ∀ x ∈ ds, QEnt x) where
  bad := by
    show (pRun pEntryD (pInt 8 none).1 (pInt 8 none).2).2 = none
    have e : (pInt 8 none).2 = none := by simp [pInt, pNum]
    rw [e, pRun_none]
  give := by
    intro r d r' e
    have e' : (Data.agg (pRun pEntryD (pInt 8 (some r)).1 (pInt 8 (some r)).2).1, (pRun pEntryD (pInt 8 (some r)).1 (pInt 8 (some r)).2).2) = (d, some r') := e
    injection e' with e1 e2
    obtain ⟨n, hn⟩ : ∃ n, (pInt 8 (some r)).1 = n := ⟨_, rfl⟩
    cases hs : (pInt 8 (some r)).2 with
    | none =>
      rw [hs, pRun_none] at e2
      cases e2
    | some r1 =>
      obtain ⟨h, hn2, hle, rfl⟩ := pInt_some (most := 8) (r := r) (r' := r1) (n := n) (by rw [← hn, ← hs])
      rw [hn, hs] at e1 e2
      obtain ⟨v, g, rfl⟩ := pRun_give ties_entry n (r := r.drop (numR r).2.1) (ds := (pRun pEntryD n (some (r.drop (numR r).2.1))).1) (r' := r') (by rw [← e2])
      refine ⟨(numR r).2.1 + v, ?_, by rw [List.drop_drop]⟩
      show (listK entryK 8).get r = _
      rw [listK_get_ok h (by omega), ← hn2, g, ← e1]
      rfl
  take := by
    rintro r d u g ⟨ds, rfl, hq⟩
    have g' : (listK entryK 8).get r = some (.agg ds, u) := g
    by_cases h : (numR r).2.2 = 0
    · by_cases hm : ((numR r).1 : Int) ≤ 8
      · rw [listK_get_ok h hm, Option.map_eq_some_iff] at g'
        obtain ⟨⟨ds2, v⟩, g2, e⟩ := g'
        injection e with e1 e2
        injection e1 with e1
        simp only at e1 e2
        subst e1 e2
        have h2 := pRun_take ties_entry (numR r).1 g2 hq
        have hp := pInt_of (most := 8) h (by omega)
        show (Data.agg (pRun pEntryD (pInt 8 (some r)).1 (pInt 8 (some r)).2).1, (pRun pEntryD (pInt 8 (some r)).1 (pInt 8 (some r)).2).2) = _
        rw [hp]
        simp only
        rw [h2, List.drop_drop]
      · rw [listK_get_bad (.inr (by omega))] at g'
        cases g'
    · rw [listK_get_bad (.inl h)] at g'
      cases g'
theorem inAt_len {B g : Nat} {w : World} {b : List UInt8} {s : St} (h : InAt B g w b s) : stLen s ≤ b.length := by
  obtain ⟨A, c, at_, bad, _, _, _, _, _, _, h6⟩ := h
  rcases h6 with ⟨_, rfl⟩ | ⟨_, rfl⟩
  · exact Nat.zero_le _
  · show (b.drop at_).length ≤ _
    rw [List.length_drop]; omega
theorem pEntry_lim (s : St) : (pEntry s).1.1 < 18446744073709551616 ∧ (pEntry s).1.2.1 < 18446744073709551616 ∧ (pEntry s).1.2.2.1 ≤ 3 ∧ (-9223372036854775808 ≤ (pEntry s).1.2.2.2.1 ∧ (pEntry s).1.2.2.2.1 ≤ 9223372036854775807) ∧ (pEntry s).1.2.2.2.2.length ≤ stLen s :=
  ⟨pNum_lt _, pNum_lt _, pInt_le' 3 _, wrap_in _, Nat.le_trans (pData_len _) (Nat.le_trans (pNum_len _) (Nat.le_trans (pInt_len _ _) (Nat.le_trans (pNum_len _) (pNum_len _))))⟩
theorem pEntryD_eq (s : St) : pEntryD s = (entryD (pEntry s).1.1 (pEntry s).1.2.1 ((pEntry s).1.2.2.1 : Nat) (pEntry s).1.2.2.2.1 (pEntry s).1.2.2.2.2, (pEntry s).2) := rfl
theorem pRun_len (n : Nat) (s : St) : (pRun pEntryD n s).1.length ≤ n := by
  induction n generalizing s with
  | zero => exact Nat.le_refl _
  | succ n ih =>
    cases s with
    | none => exact Nat.zero_le _
    | some r => exact Nat.succ_le_succ (ih _)
theorem ents_round {w9 wr w2 w3 : World} {g X j e : Nat} {Z Y : Obj} {A0 A3 : Option Addr} {c0 c3 : Nat} {rows us : List Value} {ds : List Data} {d : Data} (hg : g < w9.heap.size) (hX : X < w9.heap.size) (hz : w9.heap.size ≤ wr.heap.size)
    (hown : wr.ownsRow w9.heap.size e 5 (.slice A0 j c0) j rows) (hdl : ds.length = j) (hit : Items entryK w9 wr (.slice A0 j c0) rows ds) (hg2 : wr.grownBy w2 (some g)) (hrep : entryK.rep w2 (New wr w2) us d)
    (hg3 : ((w2.alloc Z).alloc Y).grownBy w3 (Value.slice A0 j c0).ownBlock) (ho3 : w3.ownsRow w9.heap.size e 5 (.slice A3 (j + 1) c3) (j + 1) (rows ++ us))
    (hb3 : (Value.slice A3 (j + 1) c3).ownBlock = (Value.slice A0 j c0).ownBlock ∨ (Value.slice A3 (j + 1) c3).ownBlock = some ((w2.alloc Z).heap.size + 1)) :
    (w3.setCell ⟨X, 9, none⟩ (.slice A3 (j + 1) c3)).ownsRow w9.heap.size e 5 (.slice A3 (j + 1) c3) (j + 1) (rows ++ us) ∧ Items entryK w9 (w3.setCell ⟨X, 9, none⟩ (.slice A3 (j + 1) c3)) (.slice A3 (j + 1) c3) (rows ++ us) (ds ++ [d]) ∧
      w2.heap.size ≤ w3.heap.size ∧ (∀ q, q < w9.heap.size → w3.heap[q]? = w2.heap[q]?) := by
  have hlt := hown.lt
  have hz2 := hg2.size
  have hz3 := hg3.size
  rw [World.size_alloc, World.size_alloc] at hz3
  have hz4 : (w3.setCell ⟨X, 9, none⟩ (.slice A3 (j + 1) c3)).heap.size = w3.heap.size := size_setCell' _ _ _
  have hold3 : ∀ b, b < w2.heap.size → some b ≠ (Value.slice A0 j c0).ownBlock → w3.heap[b]? = w2.heap[b]? := fun b h1 h2 =>
    (hg3.block b (by rw [World.size_alloc, World.size_alloc]; omega) h2).trans ((heap_alloc_old (w2.alloc Z) Y (by rw [World.size_alloc]; omega)).trans (heap_alloc_old w2 Z h1))
  have hold : ∀ b, w9.heap.size ≤ b → b < w2.heap.size → some b ≠ (Value.slice A0 j c0).ownBlock → (w3.setCell ⟨X, 9, none⟩ (.slice A3 (j + 1) c3)).heap[b]? = w2.heap[b]? := fun b h1 h2 h3 =>
    (heap_setCell_other w3 ⟨X, 9, none⟩ b _ (by show b ≠ X; omega)).trans (hold3 b h2 h3)
  have hne : ∀ b, b < w2.heap.size → some b ≠ (Value.slice A0 j c0).ownBlock → some b ≠ (Value.slice A3 (j + 1) c3).ownBlock := fun b h2 h3 e => by
    rcases hb3 with e2 | e2
    · exact h3 (e.trans e2)
    · have h4 := Option.some.inj (e.trans e2)
      rw [World.size_alloc] at h4
      omega
  refine ⟨ho3.kept (grown_set X 9 _) (.inr fun e => by have := (ho3.lt X e).1; omega), ?_, by omega, fun q hq => hold3 q (by omega) (fun e => by have := (hlt q e.symm).1; omega)⟩
  have hsz : entryK.size = 5 := rfl
  refine Items.push entryK_ok hit (by rw [hown.1, hdl, hsz]) (by omega) (fun b h1 h2 => ?_) ?_ ?_
  · exact (hold b h1.1 (by have := h1.2; omega) h2).trans (hg2.block b h1.2 (fun e => by have := Option.some.inj e; have := h1.1; omega))
  · rcases hb3 with e | e
    · exact .inl e
    · exact .inr ⟨_, by rw [World.size_alloc]; omega, e⟩
  · have hq : ∀ b, New wr w2 b → some b ≠ (Value.slice A0 j c0).ownBlock := fun b h1 e => by
      have h2 := (hlt b e.symm).2
      have h3 := h1.1
      omega
    exact entryK_ok.keep hrep (fun b h1 => hold b (by have := h1.1; omega) h1.2 (hq b h1)) (fun b h1 => ⟨⟨by have := h1.1; omega, by have := h1.2; omega⟩, hne b h1.2 (hq b h1)⟩)
end Go.Proofs.YtlgbipmmpocepaaGreat.Kd

/-! Messages, commands, replies, asks, what edges are told: the reference's reader and the kind say the same of what is sound; zero values; equal structs. Plain facts, no walk. -/
namespace Go.Proofs.YtlgbipmmpocepaaGreat.Kd
open Go.RowKit By CoP Co Mo

/-! Configurations that are sound, or none. -/
theorem ids_get_nil {r : List UInt8} {u : Nat} (h : idsK.get r = some (.agg [], u)) : pIds (some r) = ([], some (r.drop u)) := by
  have g' : (listK (intK 1 16) 16).get r = some (.agg [], u) := h
  by_cases h0 : (numR r).2.2 = 0
  · by_cases hm : ((numR r).1 : Int) ≤ 16
    · rw [listK_get_ok h0 hm, Option.map_eq_some_iff] at g'
      obtain ⟨⟨ds2, v⟩, g2, e⟩ := g'
      injection e with e1 e2
      injection e1 with e1
      simp only at e1 e2
      subst e1
      have hp := pInt_of (most := 16) h0 (by omega)
      show pIdsL (pInt 16 (some r)).1 (pInt 16 (some r)).2 = _
      rw [hp]
      simp only
      cases hn : (numR r).1 with
      | zero =>
        rw [hn] at g2
        have g3 : some (([] : List Data), 0) = some ([], v) := g2
        injection g3 with g3
        injection g3 with _ g3
        subst g3
        rw [← e2]
        rfl
      | succ n =>
        rw [hn] at g2
        simp only [getMany] at g2
        split at g2
        · cases g2
        · split at g2
          · cases g2
          · injection g2 with g2
            injection g2 with g2 _
            cases g2
    · rw [listK_get_bad (.inr (by omega))] at g'
      cases g'
  · rw [listK_get_bad (.inl h0)] at g'
    cases g'
theorem get_noConf {r : List UInt8} {d : Data} {u : Nat} (h : confK.get r = some (d, u)) (hs : noConf d = true) : pConfD (some r) = (d, some (r.drop u)) := by
  have g : (recK confF confT).get r = some (d, u) := h
  simp only [recK, Option.map_eq_some_iff] at g
  obtain ⟨⟨ds, v⟩, g, e⟩ := g
  injection e with e1 e2
  simp only at e1 e2
  subst e1 e2
  simp only [confF, getAll] at g
  split at g
  · cases g
  · rename_i d1 u1 g1
    split at g
    · cases g
    · rename_i x y g2
      split at g2
      · cases g2
      · rename_i d2 u2 g3
        injection g2 with g2
        injection g2 with e3 e4
        injection g with g
        injection g with e5 e6
        subst e3 e4 e5 e6
        unfold noConf at hs
        split at hs
        · rename_i vs ls e
          injection e with e
          injection e with e1 e
          injection e with e2 _
          subst e1 e2
          rw [Bool.and_eq_true, List.isEmpty_iff, List.isEmpty_iff] at hs
          obtain ⟨rfl, rfl⟩ := hs
          have p1 := ids_get_nil g1
          have p2 := ids_get_nil g3
          rw [List.drop_drop] at p2
          show (confD (asI (pIds (some r)).1) (asI (pIds (pIds (some r)).2).1), (pIds (pIds (some r)).2).2) = _
          rw [p1]
          simp only
          rw [p2]
          rfl
        · cases hs
def QConf : Data → Prop := fun d => confK.sound d = true ∨ noConf d = true
theorem ties_confL : Ties (looseK confK) pConfD QConf :=
  ⟨ties_conf.bad, fun e => ties_conf.give e, fun e q => q.elim (fun h => ties_conf.take e h) (fun h => get_noConf e h)⟩
def QEnts : Data → Prop := fun d => ∃ ds, d = .agg ds ∧ ∀ x ∈ ds, QEnt x
theorem ties_msg : Ties msgK pMsgD (fun d => ∃ ds, d = .agg ds ∧ HoldAll [fun d => (intK 1 9).sound d = true, fun d => (intK 1 16).sound d = true, fun d => (intK 1 16).sound d = true, fun _ => True, fun _ => True, fun _ => True, fun _ => True, fun _ => True, fun _ => True, QEnts, QConf, fun d => (intK 0 65536).sound d = true, fun _ => True] ds) :=
  ties_rec (ks := msgF) (ps := [pIntD 9, pIntD 16, pIntD 16, pNumD, pNumD, pNumD, pNumD, pNumD, pFlagD, pEntsD, pConfD, pIntD 65536, pDataD])
    (qs := [fun d => (intK 1 9).sound d = true, fun d => (intK 1 16).sound d = true, fun d => (intK 1 16).sound d = true, fun _ => True, fun _ => True, fun _ => True, fun _ => True, fun _ => True, fun _ => True, QEnts, QConf, fun d => (intK 0 65536).sound d = true, fun _ => True])
    ⟨ties_int (by omega) (by omega) (by omega), ties_int (by omega) (by omega) (by omega), ties_int (by omega) (by omega) (by omega), ties_num _ _, ties_num _ _, ties_num _ _, ties_num _ _, ties_num _ _, ties_flag, ties_ents, ties_confL, ties_int (by omega) (by omega) (by omega), ties_bytes _, trivial⟩ msgT

/-! What is sound holds what the ties ask. -/
theorem getMany_each {k : Kd} : ∀ (n : Nat) {b : List UInt8} {ds : List Data} {u : Nat}, getMany k n b = some (ds, u) → ∀ x ∈ ds, ∃ b' u', k.get b' = some (x, u') := by
  intro n
  induction n with
  | zero =>
    intro b ds u e x hx
    have e' : some (([] : List Data), 0) = some (ds, u) := e
    injection e' with e'
    injection e' with e1 _
    subst e1
    cases hx
  | succ n ih =>
    intro b ds u e x hx
    simp only [getMany] at e
    split at e
    · cases e
    · rename_i d u1 g1
      split at e
      · cases e
      · rename_i ds2 v g2
        injection e with e
        injection e with e1 _
        subst e1
        rcases List.mem_cons.1 hx with rfl | hx
        · exact ⟨_, _, g1⟩
        · exact ih g2 x hx
theorem ask_ents {b : List UInt8} {d : Data} {u : Nat} (g : entsK.get b = some (d, u)) (hs : entsK.sound d = true) : QEnts d := by
  have g' : (listK entryK 8).get b = some (d, u) := g
  by_cases h0 : (numR b).2.2 = 0
  · by_cases hm : ((numR b).1 : Int) ≤ 8
    · rw [listK_get_ok h0 hm, Option.map_eq_some_iff] at g'
      obtain ⟨⟨ds2, v⟩, g2, e⟩ := g'
      injection e with e1 _
      simp only at e1
      subst e1
      have hs' : (decide ((ds2.length : Int) ≤ 8) && ds2.all entryK.sound) = true := hs
      rw [Bool.and_eq_true, List.all_eq_true] at hs'
      refine ⟨ds2, rfl, fun x hx => ?_⟩
      obtain ⟨b', u', g3⟩ := getMany_each _ g2 x hx
      exact ask_entry g3 (hs'.2 x hx)
    · rw [listK_get_bad (.inr (by omega))] at g'
      cases g'
  · rw [listK_get_bad (.inl h0)] at g'
    cases g'
theorem hold13 {q1 q2 q3 q4 q5 q6 q7 q8 q9 q10 q11 q12 q13 : Data → Prop} {ds : List Data} (h : HoldAll [q1, q2, q3, q4, q5, q6, q7, q8, q9, q10, q11, q12, q13] ds) :
    ∃ d1 d2 d3 d4 d5 d6 d7 d8 d9 d10 d11 d12 d13, ds = [d1, d2, d3, d4, d5, d6, d7, d8, d9, d10, d11, d12, d13] ∧ q1 d1 ∧ q2 d2 ∧ q3 d3 ∧ q4 d4 ∧ q5 d5 ∧ q6 d6 ∧ q7 d7 ∧ q8 d8 ∧ q9 d9 ∧ q10 d10 ∧ q11 d11 ∧ q12 d12 ∧ q13 d13 := by
  match ds, h with
  | [d1, d2, d3, d4, d5, d6, d7, d8, d9, d10, d11, d12, d13], ⟨h1, h2, h3, h4, h5, h6, h7, h8, h9, h10, h11, h12, h13, _⟩ =>
    exact ⟨d1, d2, d3, d4, d5, d6, d7, d8, d9, d10, d11, d12, d13, rfl, h1, h2, h3, h4, h5, h6, h7, h8, h9, h10, h11, h12, h13⟩
theorem ask_msg {b : List UInt8} {d : Data} {u : Nat} (g : msgK.get b = some (d, u)) (hs : msgK.sound d = true) :
    ∃ ds, d = .agg ds ∧ HoldAll [fun d => (intK 1 9).sound d = true, fun d => (intK 1 16).sound d = true, fun d => (intK 1 16).sound d = true, fun _ => True, fun _ => True, fun _ => True, fun _ => True, fun _ => True, fun _ => True, QEnts, QConf, fun d => (intK 0 65536).sound d = true, fun _ => True] ds := by
  obtain ⟨ds, rfl, h⟩ := ask_rec (ks := msgF) (qs := [fun d => (intK 1 9).sound d = true, fun d => (intK 1 16).sound d = true, fun d => (intK 1 16).sound d = true, fun _ => True, fun _ => True, fun _ => True, fun _ => True, fun _ => True, fun _ => True, QEnts, fun _ => True, fun d => (intK 0 65536).sound d = true, fun _ => True])
    ⟨fun _ h => h, fun _ h => h, fun _ h => h, fun _ _ => trivial, fun _ _ => trivial, fun _ _ => trivial, fun _ _ => trivial, fun _ _ => trivial, fun _ _ => trivial, fun g h => ask_ents g h, fun _ _ => trivial, fun _ h => h, fun _ _ => trivial, trivial⟩ msgT g hs
  have hs' : (soundAll msgF ds && msgT ds) = true := hs
  rw [Bool.and_eq_true] at hs'
  obtain ⟨d1, d2, d3, d4, d5, d6, d7, d8, d9, d10, d11, d12, d13, rfl, h1, h2, h3, h4, h5, h6, h7, h8, h9, h10, h11, h12, h13⟩ := hold13 h
  refine ⟨_, rfl, h1, h2, h3, h4, h5, h6, h7, h8, h9, h10, ?_, h12, h13, trivial⟩
  have ht := hs'.2
  unfold msgT at ht
  split at ht
  · rename_i e
    simp only [List.cons.injEq] at e
    obtain ⟨_, _, _, _, _, _, _, _, _, _, e11, _⟩ := e
    subst e11
    split at ht
    · exact .inl ht
    · exact .inr ht
  · cases ht
theorem ask_command {b : List UInt8} {d : Data} {u : Nat} (g : commandK.get b = some (d, u)) (hs : commandK.sound d = true) : QCmd d :=
  ask_rec (ks := commandF) (qs := [fun _ => True, fun _ => True, fun d => (intK 0 5).sound d = true, fun _ => True, fun _ => True, fun _ => True, fun _ => True])
    ⟨fun _ _ => trivial, fun _ _ => trivial, fun {b d u} g h => by
      obtain ⟨h0, rfl, rfl⟩ := intK_some g
      have h' : (decide (1 ≤ wrap64 ((numR b).1 : Nat)) && decide (wrap64 ((numR b).1 : Nat) ≤ 5)) = true := h
      show (decide (0 ≤ wrap64 ((numR b).1 : Nat)) && decide (wrap64 ((numR b).1 : Nat) ≤ 5)) = true
      rw [Bool.and_eq_true, decide_eq_true_eq, decide_eq_true_eq] at h' ⊢
      omega, fun _ _ => trivial, fun _ _ => trivial, fun _ _ => trivial, fun _ _ => trivial, trivial⟩ _ g hs
theorem ask_reply {b : List UInt8} {d : Data} {u : Nat} (g : replyK.get b = some (d, u)) (hs : replyK.sound d = true) : QRep d :=
  ask_rec (ks := replyF) (qs := [fun _ => True, fun _ => True, fun d => (intK 0 20).sound d = true, fun _ => True, fun _ => True, fun _ => True])
    ⟨fun _ _ => trivial, fun _ _ => trivial, fun _ h => h, fun _ _ => trivial, fun _ _ => trivial, fun _ _ => trivial, trivial⟩ _ g hs
theorem ask_told {b : List UInt8} {d : Data} {u : Nat} (g : toldK.get b = some (d, u)) (hs : toldK.sound d = true) : ∃ ds, d = .agg ds ∧ HoldAll [fun _ => True, fun _ => True, fun d => (intK 0 16).sound d = true, QRep, fun _ => True, fun _ => True] ds :=
  ask_rec (ks := toldF) (qs := [fun _ => True, fun _ => True, fun d => (intK 0 16).sound d = true, QRep, fun _ => True, fun _ => True])
    ⟨fun _ _ => trivial, fun _ _ => trivial, fun _ h => h, fun g h => ask_reply g h, fun _ _ => trivial, fun _ _ => trivial, trivial⟩ _ g hs
theorem hold5 {q1 q2 q3 q4 q5 : Data → Prop} {ds : List Data} (h : HoldAll [q1, q2, q3, q4, q5] ds) : ∃ d1 d2 d3 d4 d5, ds = [d1, d2, d3, d4, d5] ∧ q1 d1 ∧ q2 d2 ∧ q3 d3 ∧ q4 d4 ∧ q5 d5 := by
  match ds, h with
  | [d1, d2, d3, d4, d5], ⟨h1, h2, h3, h4, h5, _⟩ => exact ⟨d1, d2, d3, d4, d5, rfl, h1, h2, h3, h4, h5⟩
theorem noCommand_q {d : Data} (h : isNoCommand d = true) : QCmd d := by
  unfold isNoCommand at h
  split at h
  · rename_i a b c l d e f
    simp only [Bool.and_eq_true, decide_eq_true_eq] at h
    obtain ⟨⟨⟨⟨⟨⟨_, _⟩, rfl⟩, _⟩, _⟩, _⟩, _⟩ := h
    exact ⟨_, rfl, trivial, trivial, rfl, trivial, trivial, trivial, trivial, trivial⟩
  · cases h
theorem ask_ask {b : List UInt8} {d : Data} {u : Nat} (g : askK.get b = some (d, u)) (hs : askK.sound d = true) : ∃ ds, d = .agg ds ∧ HoldAll [fun _ => True, fun _ => True, fun _ => True, QCmd, fun _ => True] ds := by
  obtain ⟨ds, rfl, h⟩ := ask_rec (ks := askF) (qs := [fun _ => True, fun _ => True, fun _ => True, fun d => ∃ b u, commandK.get b = some (d, u), fun _ => True])
    ⟨fun _ _ => trivial, fun _ _ => trivial, fun _ _ => trivial, fun {b d u} g _ => ⟨b, u, g⟩, fun _ _ => trivial, trivial⟩ askT g hs
  have hs' : (soundAll askF ds && askT ds) = true := hs
  rw [Bool.and_eq_true] at hs'
  obtain ⟨d1, d2, d3, d4, d5, rfl, h1, h2, h3, ⟨b4, u4, h4⟩, h5⟩ := hold5 h
  refine ⟨_, rfl, h1, h2, h3, ?_, h5, trivial⟩
  have ht := hs'.2
  unfold askT at ht
  split at ht
  · rename_i e
    simp only [List.cons.injEq] at e
    obtain ⟨_, _, _, e4, _⟩ := e
    subst e4
    split at ht
    · exact noCommand_q ht
    · rw [Bool.and_eq_true, Bool.and_eq_true] at ht
      exact ask_command h4 ht.1.1
  · cases ht

/-! Zero values. -/
def msgZ : Data := msgD 0 0 0 0 0 0 0 0 false [] [] [] 0 []
def commandZ : Data := cmdD 0 0 0 [] 0 0 0
def replyZ : Data := repD 0 0 0 0 0 0
def askZ : Data := askD false false 0 0 0 0 [] 0 0 0 []
def toldZ : Data := toldD 0 false 0 0 0 0 0 0 0 0 0
theorem entsZ_rep (w : World) (S : Nat → Prop) : entsK.rep w S [.slice none 0 0] (.agg []) := ⟨none, 0, [], rfl, rfl, by decide, by decide, fun h => absurd h (by simp)⟩
theorem msgZ_rep (w : World) (S : Nat → Prop) : msgK.rep w S msgK.zero msgZ :=
  msg_rep (kd := 0) (fr := 0) (tt := 0) (fo := 0) (tm := 0) (ix := 0) (lt := 0) (cm := 0) (rd := 0) (ok := false) (es := []) (A3 := none) (c3 := 0) (da := []) ⟨by decide, by decide, by decide, by decide⟩ ⟨by decide, by decide, by decide, by decide, by decide⟩ (entsZ_rep w S) (confZ_rep w S) (by decide) (by decide) (lies0 w S)
theorem commandZ_rep (w : World) (S : Nat → Prop) : commandK.rep w S commandK.zero commandZ :=
  cmd_rep w S (se := 0) (sq := 0) (op := 0) (ke := []) (am := 0) (sp := 0) (le := 0) (by decide) (by decide) (by decide) (by decide) (by decide) (by decide) (by decide)
theorem replyZ_rep (w : World) (S : Nat → Prop) : replyK.rep w S replyK.zero replyZ :=
  rep_rep w S (se := 0) (sq := 0) (er := 0) (lz := 0) (am := 0) (un := 0) (by decide) (by decide) (by decide) (by decide) (by decide) (by decide)
theorem askZ_rep (w : World) (S : Nat → Prop) : askK.rep w S askK.zero askZ :=
  ⟨_, rfl, [_], _, _, _, rfl, rfl, ⟨false, rfl, rfl⟩, [_], _, _, _, rfl, rfl, ⟨false, rfl, rfl⟩, [_], _, _, _, rfl, rfl, ⟨(0 : Nat), by decide, rfl, rfl⟩, [_, _, _, _, _, _, _], _, _, _, rfl, rfl, commandZ_rep w S, [_], _, _, _, rfl, rfl, ⟨[], rfl, rfl, by decide⟩, rfl, rfl⟩
theorem toldZ_rep (w : World) (S : Nat → Prop) : toldK.rep w S toldK.zero toldZ :=
  ⟨_, rfl, [_], _, _, _, rfl, rfl, ⟨(0 : Nat), by decide, rfl, rfl⟩, [_], _, _, _, rfl, rfl, ⟨false, rfl, rfl⟩, [_], _, _, _, rfl, rfl, ⟨(0 : Int), by decide, by decide, rfl, rfl⟩, [_, _, _, _, _, _], _, _, _, rfl, rfl, replyZ_rep w S, [_], _, _, _, rfl, rfl, ⟨(0 : Int), by decide, by decide, rfl, rfl⟩, [_], _, _, _, rfl, rfl, ⟨(0 : Int), by decide, by decide, rfl, rfl⟩, rfl, rfl⟩

/-! Structs without slices: the same data, the same values. -/
theorem command_twin {w : World} {S S' : Nat → Prop} {xs ys : List Value} {d : Data} (h : commandK.rep w S xs d) (k : commandK.rep w S' ys d) : ys = xs := by
  obtain ⟨se, sq, op, ke, am, sp, le, rfl, e1, _⟩ := command_shape h
  obtain ⟨se2, sq2, op2, ke2, am2, sp2, le2, rfl, e2, _⟩ := command_shape k
  rw [e1] at e2
  simp only [cmdD, Data.agg.injEq, List.cons.injEq, Data.lit.injEq, Lit.int.injEq, Lit.string.injEq, true_and, and_true] at e2
  obtain ⟨g1, g2, g3, g4, g5, g6, g7⟩ := e2
  rw [g1, g2, g3, g4, g5, g6, g7]
theorem reply_twin {w : World} {S S' : Nat → Prop} {xs ys : List Value} {d : Data} (h : replyK.rep w S xs d) (k : replyK.rep w S' ys d) : ys = xs := by
  obtain ⟨se, sq, er, lz, am, un, rfl, e1, _⟩ := reply_shape h
  obtain ⟨se2, sq2, er2, lz2, am2, un2, rfl, e2, _⟩ := reply_shape k
  rw [e1] at e2
  simp only [repD, Data.agg.injEq, List.cons.injEq, Data.lit.injEq, Lit.int.injEq, true_and, and_true] at e2
  obtain ⟨g1, g2, g3, g4, g5, g6⟩ := e2
  rw [g1, g2, g3, g4, g5, g6]
theorem ask_twin {w : World} {S S' : Nat → Prop} {xs ys : List Value} {d : Data} (h : askK.rep w S xs d) (k : askK.rep w S' ys d) : ys = xs := by
  obtain ⟨lk, ly, aq, se, sq, op, ke, am, sp, le, ak, rfl, e1, _⟩ := askK_shape h
  obtain ⟨lk2, ly2, aq2, se2, sq2, op2, ke2, am2, sp2, le2, ak2, rfl, e2, _⟩ := askK_shape k
  rw [e1] at e2
  simp only [askD, cmdD, Data.agg.injEq, List.cons.injEq, Data.lit.injEq, Lit.int.injEq, Lit.bool.injEq, Lit.string.injEq, true_and, and_true] at e2
  obtain ⟨a1, a2, a3, ⟨g1, g2, g3, g4, g5, g6, g7⟩, a5⟩ := e2
  rw [a1, a2, a3, g1, g2, g3, g4, g5, g6, g7, a5]
theorem told_twin {w : World} {S S' : Nat → Prop} {xs ys : List Value} {d : Data} (h : toldK.rep w S xs d) (k : toldK.rep w S' ys d) : ys = xs := by
  obtain ⟨tq, rt, ld, se, sq, er, lz, am, un, cp, ln, rfl, e1, _⟩ := told_shape h
  obtain ⟨tq2, rt2, ld2, se2, sq2, er2, lz2, am2, un2, cp2, ln2, rfl, e2, _⟩ := told_shape k
  rw [e1] at e2
  simp only [toldD, repD, Data.agg.injEq, List.cons.injEq, Data.lit.injEq, Lit.int.injEq, Lit.bool.injEq, true_and, and_true] at e2
  obtain ⟨a1, a2, a3, ⟨g1, g2, g3, g4, g5, g6⟩, a5, a6⟩ := e2
  rw [a1, a2, a3, g1, g2, g3, g4, g5, g6, a5, a6]
theorem same_msgS {xs ys : List Value} {d : Data} (w : World) (h : msgK.rep w (Old w) xs d) (k : msgK.rep w (Old w) ys d) : Calls Tryz.prog 17 #[.agg xs.toArray, .agg ys.toArray] w (Says true w) := by
  have := same_msg w h k
  rwa [sameM_refl h] at this
end Go.Proofs.YtlgbipmmpocepaaGreat.Kd
