/- Package wal: surely, of an answer OK; remove of segments in memory; as contracts of calls. | Package wal: begin, as a contract of a call; the log behind it. | Package wal: Drop and Cut, over whatever drop and cut do. | A log of pieces of records as a plain value, and what an Append, removals and a cut make of it and of the disk's files. No walk. | What one more record, a new beginning and a cut make of a log of pieces and of its files. No walk. -/
import Derived.Test.YtnjifhbooikdbaaGreatDoorWg4
import Derived.Test.YtnjifhbooikdbaaGreatDoorDkM
import Derived.Test.YtnjifhbooikdbaaGreatDoorEC
import Derived.Test.YtnjifhbooikdbaaGreatDoorWg1
import Derived.Test.YtnjifhbooikdbaaGreatDoorWg5
/-! Package wal: surely, of an answer OK; remove of segments in memory; as contracts of calls. -/
namespace Go.Proofs.YtnjifhbooikdbaaGreatDoor.Wa
open Go.RowKit Go.Maps By Mp Dk

theorem dstep_then {val : Value} {g : Nat} {s' : DS} {S Sk : Nat → Prop} {w w1 w2 : World} {e : Ending} (hSk : ∀ b, Sk b → S b ∨ w.heap.size ≤ b) (hk : Kept S w w1) (h : DStep val g s' Sk w1 e w2) : DStep val g s' S w e w2 := by
  obtain ⟨he, S', hd, hS', hk'⟩ := h
  refine ⟨he, S', hd, fun b hb => ?_, hk.step hk' (fun b hb e => (hSk b e).resolve_right (by omega))⟩
  rcases hS' b hb with h | h
  · exact hSk b h
  · exact .inr (Nat.le_trans hk.size h)
theorem log_cell {w : World} {g d : Nat} {l : List Seg} {dead : Bool} {T : Nat → Prop} (h : LogAt w g d l dead T) : w.cell? ⟨g, 0, none⟩ = some (.pointer (some ⟨d, 0, none⟩)) := by
  obtain ⟨v, ac, h⟩ := h
  rw [cell_of_row w g 0 _ _ _ h.row]
  rfl
theorem log_kept {w w' : World} {g d : Nat} {l : List Seg} {dead : Bool} {S T : Nat → Prop} (h : LogAt w g d l dead T) (hsep : ∀ b, T b → S b → False) (hk : Kept S w w') : LogAt w' g d l dead T :=
  h.keep (fun b hb => hk.block b ((logAt_lt h).1 b hb) (fun e => hsep b hb e)) hk.size
set_option maxRecDepth 100000 in
set_option maxHeartbeats 2000000 in
theorem surely_ok (g d : Nat) (s : DS) (S T : Nat → Prop) (l : List Seg) (dead : Bool) (w : World) (h : LogAt w g d l dead T) (hd : DiskAt w d s S) (hcnt : s.cnt ≤ 68719476736) :
    Calls Tryz.prog 49 #[.pointer (some ⟨g, 0, none⟩), .int .i64 0] w (DStep (.int .i64 (synE s)) d (synS s) S w) := by
  have HSY := Lib.hid (sync_any d s S w hd hcnt)
  have hc := log_cell h
  clear h hd hcnt
  go_enter Tryz.func49, Tryz.ntmps49
  go_wp2_with fail
  refine HSY.out.mono ?_
  rintro e w2 ⟨rfl, hp⟩
  have HP := Lib.hid hp
  clear hp
  go_wp2
  go_ret
  exact ⟨rfl, HP.out⟩
/-- What the removal of names comes to. -/
def rmsN : List Bs → DS → Int × DS
  | [], s => (0, s)
  | n :: l, s => if chgE s 3 n 0 [] = 0 then rmsN l (chgS s 3 n 0 []) else (chgE s 3 n 0 [], chgS s 3 n 0 [])
def synN (r : Int × DS) : Int × DS := if r.1 = 0 then (synE r.2, synS r.2) else r
def remX (l : List Seg) (s : DS) : Int × DS := if l = [] then (0, s) else synN (rmsN (l.map Seg.name) s)
theorem rmsN_cons {l : List Seg} {k : Nat} (hk : k < l.length) (s : DS) : rmsN ((l.drop k).map Seg.name) s = if chgE s 3 l[k].name 0 [] = 0 then rmsN ((l.drop (k + 1)).map Seg.name) (chgS s 3 l[k].name 0 []) else (chgE s 3 l[k].name 0 [], chgS s 3 l[k].name 0 []) := by
  rw [List.drop_eq_getElem_cons hk]
  rfl
theorem cnt_chg (s : DS) (k : Nat) (nm : Bs) (off : Int) (d : Bs) : (chgS s k nm off d).cnt ≤ s.cnt + 1 := by
  have hb : (burnt s).sure = s.sure ∧ (burnt s).unsure = s.unsure := by
    unfold burnt
    split
    · exact ⟨rfl, rfl⟩
    · split <;> exact ⟨rfl, rfl⟩
  unfold chgS DS.cnt
  split
  · omega
  · split
    · rw [hb.1, hb.2]; omega
    · show (burnt s).sure.length + (s.unsure ++ _).length ≤ _
      rw [hb.1]; simp; omega
/-- Segments in memory, in blocks of P. -/
def LiesG (w : World) (P : Nat → Prop) (A : Option Addr) (l : List Seg) : Prop := 0 < l.length → ∃ b o, A = some ⟨b, o, none⟩ ∧ P b ∧ ∀ (j : Nat) (x : Seg), l[j]? = some x → ∃ (E : Option Addr) (c : Nat), w.cell? ⟨b, o + j * 4, none⟩ = some (.int .u64 (x.era : Nat)) ∧ w.cell? ⟨b, o + j * 4 + 1, none⟩ = some (.int .u64 (x.first : Nat)) ∧ w.cell? ⟨b, o + j * 4 + 2, none⟩ = some (.bool x.base) ∧ w.cell? ⟨b, o + j * 4 + 3, none⟩ = some (.slice E x.ends.length c)
theorem name_len {s : Seg} (h : SegOk s) : s.name.length ≤ 40 := by
  have h1 := b36_le h.era
  have h2 : (b36 s.first).length ≤ 13 := b36_le (by have := h.next; unfold Seg.next at this; omega)
  unfold Seg.name
  simp only [List.length_append]
  have h3 : (if s.base = true then ([46, 98] : Bs) else []).length ≤ 2 := by cases s.base <;> decide
  have h4 : ([119, 46] : Bs).length = 2 := rfl
  have h5 : ([46] : Bs).length = 1 := rfl
  omega
set_option maxRecDepth 100000 in
set_option maxHeartbeats 4000000 in
theorem wremove_any (g d : Nat) (s : DS) (S T : Nat → Prop) (lg l : List Seg) (dead : Bool) (A : Option Addr) (c : Nat) (w : World) (h : LogAt w g d lg dead T) (hd : DiskAt w d s S) (hsep : ∀ b, T b → S b → False) (hok : ∀ x ∈ l, SegOk x) (hfew : l.length ≤ 4294967296) (hcnt : s.cnt ≤ 60129542144)
    (hA : LiesG w (fun b => ¬ S b ∧ b < w.heap.size) A l) :
    Calls Tryz.prog 50 #[.pointer (some ⟨g, 0, none⟩), .slice A l.length c] w (DStep (.int .i64 (remX l s).1) d (remX l s).2 S w) := by
  have HD := Lib.hid hd
  have HSL := Lib.hid h
  have HSEP := Lib.hid hsep
  have HA := Lib.hid hA
  have HL := Lib.hid hok
  have HCNT := Lib.hid hcnt
  have HFW := Lib.hid hfew
  by_cases h0 : l.length = 0
  · have hle : l = [] := List.length_eq_zero_iff.1 h0
    subst hle
    have HFIN := Lib.hid (show DStep (.int .i64 (remX [] s).1) d (remX [] s).2 S w (.returned (.int .i64 0)) w from ⟨rfl, S, HD.out, fun _ hb => .inl hb, Kept.refl _ _⟩)
    clear h hd hsep hA hok hcnt hfew
    go_enter Tryz.func50, Tryz.ntmps50
    go_wp2
    go_ret
    exact HFIN.out
  · have HRX := Lib.hid (show remX l s = synN (rmsN (l.map Seg.name) s) by unfold remX; rw [if_neg (fun e => h0 (by rw [e]; rfl))])
    obtain ⟨r, hr⟩ : ∃ r, r = remX l s := ⟨_, rfl⟩
    rw [← hr] at HRX ⊢
    have hni : ¬ ((l.length : Int) = 0) := by omega
    have hni1 : ((l.length : Int) == 0) = false := beq_eq_false_iff_ne.2 hni
    clear h hd hsep hA hok hcnt hr hni
    go_enter Tryz.func50, Tryz.ntmps50
    go_wp2
    clear hni1 h0
    go_loopw [13] (fun i wr => ∃ k : Nat, k ≤ l.length ∧ i = .int .i64 (k : Int) ∧ ∃ sk Sk, rmsN ((l.drop k).map Seg.name) sk = rmsN (l.map Seg.name) s ∧ sk.cnt ≤ s.cnt + k ∧ DiskAt wr d sk Sk ∧ (∀ b, Sk b → S b ∨ w.heap.size ≤ b) ∧ Kept S w wr) (fun i _ => l.length - (intOf i).toNat)
    case atStart => exact ⟨0, Nat.zero_le _, rfl, s, S, rfl, Nat.le_refl _, HD.out, fun b hb => .inl hb, Kept.refl _ _⟩
    case round =>
      obtain ⟨k, hk, rfl, sk, Sk, hrk, hck, hdk, hSk, hkk⟩ := hrel
      have HDK := Lib.hid hdk
      have HSK := Lib.hid hSk
      have HKK := Lib.hid hkk
      have HRK := Lib.hid hrk
      have HCK := Lib.hid hck
      have HC0 := Lib.hid (log_cell (log_kept HSL.out HSEP.out hkk))
      clear hdk hSk hkk hrk hck
      by_cases hlt : k < l.length
      · have hsk := HL.out _ (List.getElem_mem hlt)
        obtain ⟨b, o, rfl, ⟨hb1, hb2⟩, hcells⟩ := HA.out (by omega)
        obtain ⟨E0, ec, q0, q1, q2, q3⟩ := hcells k _ (List.getElem?_eq_getElem hlt)
        have hblk := HKK.out.block b hb2 hb1
        have z0 := (World.cell?_of_block (w := w) hblk).trans q0
        have z1 := (World.cell?_of_block (w := w) hblk).trans q1
        have z2 := (World.cell?_of_block (w := w) hblk).trans q2
        have z3 := (World.cell?_of_block (w := w) hblk).trans q3
        have HRC := Lib.hid (rmsN_cons hlt sk)
        have HCN := Lib.hid (cnt_chg sk 3 l[k].name 0 [])
        have hlen := name_len hsk
        obtain ⟨sg, hsg⟩ : ∃ sg, sg = l[k] := ⟨_, rfl⟩
        rw [← hsg] at hsk z0 z1 z2 z3 HRC HCN hlen
        clear hcells q0 q1 q2 q3 hblk hsg
        obtain ⟨w1, hw1⟩ : ∃ w1, w1 = wr.alloc (.cells (segC sg E0 ec) tSeg) := ⟨_, rfl⟩
        have HW1 := Lib.hid hw1
        have hb1' : Below wr.heap.size wr w1 := hw1 ▸ bAlloc (Below.refl _ _) _
        have hrow : w1.heap[wr.heap.size]? = some (.cells (segC sg E0 ec) tSeg (0, 0)) := hw1 ▸ heap_alloc_new wr _
        have HB1 := Lib.hid hb1'
        have HC := Lib.hid (fun (w' : World) (hb : Below w1.heap.size w1 w') => And.intro (show w'.cell? ⟨g, 0, none⟩ = some (.pointer (some ⟨d, 0, none⟩)) from log_cell ((log_kept HSL.out HSEP.out HKK.out).below (By.ext HB1.out hb))) (box_cells hrow hb))
        have HPK := Lib.hid (fun w' => lab_name_any sg w' hsk.era (by have := hsk.next; unfold Seg.next at this; omega))
        have HRM := Lib.hid (fun (w' : World) (hb' : Below wr.heap.size wr w') => remove_any d sk Sk sg.name w' (HDK.out.below hb') (by have := HCK.out; have := HCNT.out; have := HFW.out; omega) (by omega))
        obtain ⟨P, hP⟩ : ∃ P, P = str sg.name := ⟨_, rfl⟩
        rw [← hP] at HPK HRM
        obtain ⟨E, hE⟩ : ∃ E, E = chgE sk 3 sg.name 0 [] := ⟨_, rfl⟩
        obtain ⟨s2, hs2⟩ : ∃ s2, s2 = chgS sk 3 sg.name 0 [] := ⟨_, rfl⟩
        rw [← hE, ← hs2] at HRM HRC
        rw [← hs2] at HCN
        clear hP hE hs2 hlen hsk hw1 hb1' hrow
        obtain ⟨era, first, base, ends⟩ := sg
        dsimp only [segC, labV, labC] at z0 z1 z2 z3 HW1 HC HPK
        go_upto_region 6 with fail
        rw [← HW1.out]
        clear z0 z1 z2 z3
        go_region_held3 (fun w' => w'.cell? ⟨g, 0, none⟩ = some (.pointer (some ⟨d, 0, none⟩)) ∧ w'.cell? ⟨wr.heap.size, 0, none⟩ = some (.int .u64 (era : Nat)) ∧ w'.cell? ⟨wr.heap.size, 1, none⟩ = some (.int .u64 (first : Nat)) ∧ w'.cell? ⟨wr.heap.size, 2, none⟩ = some (.bool base) ∧ w'.cell? ⟨wr.heap.size, 3, none⟩ = some (.slice E0 ends.length ec))
          (first
            | with_reducible assumption
            | exact HC.out _ (Below.refl _ _)
            | exact HC.out _ (Below.refl _ _).drew
            | exact HX5.out
            | exact HC.out _ HB4.out)
          (first
            | (go_at_call 24; refine (HPK.out _).mono ?_; rintro e w4 ⟨rfl, hb4⟩
               have HB4 := Lib.hid (show Below w1.heap.size w1 w4 from By.ext (Below.refl _ _).drew hb4)
               clear hb4)
            | (go_at_call 41; refine (HRM.out _ (By.ext HB1.out HB4.out)).mono ?_; intro e w5 hst
               have HBX := Lib.hid (By.ext HB1.out HB4.out)
               have HST := Lib.hid (dstep_then HSK.out (HKK.out.step (M1 := fun b => wr.heap.size ≤ b) (Kept.of_below HBX.out) (fun b hb e => absurd hb (by have := HKK.out.size; omega))) hst)
               have HX5 := Lib.hid (show w5.cell? ⟨g, 0, none⟩ = some (.pointer (some ⟨d, 0, none⟩)) ∧ w5.cell? ⟨wr.heap.size, 0, none⟩ = some (.int .u64 (era : Nat)) ∧ w5.cell? ⟨wr.heap.size, 1, none⟩ = some (.int .u64 (first : Nat)) ∧ w5.cell? ⟨wr.heap.size, 2, none⟩ = some (.bool base) ∧ w5.cell? ⟨wr.heap.size, 3, none⟩ = some (.slice E0 ends.length ec) by
                 have hk2 := hst.2
                 obtain ⟨S5, -, -, hk5⟩ := hk2
                 have hlt1 : wr.heap.size < w4.heap.size := Nat.lt_of_lt_of_le (by rw [HW1.out]; simp) HB4.out.size
                 have hnS : ¬ Sk wr.heap.size := fun e => Nat.lt_irrefl _ ((dlt' HDK.out).1 _ e)
                 have hbk := hk5.block wr.heap.size hlt1 hnS
                 have hc4 := HC.out _ HB4.out
                 refine ⟨?_, (World.cell?_of_block hbk).trans hc4.2.1, (World.cell?_of_block hbk).trans hc4.2.2.1, (World.cell?_of_block hbk).trans hc4.2.2.2.1, (World.cell?_of_block hbk).trans hc4.2.2.2.2⟩
                 obtain ⟨_, _, _, _, hk⟩ := HST.out
                 exact log_cell (log_kept HSL.out HSEP.out hk))
               have hee := hst.1
               subst hee
               clear hst))
        by_cases he : E = 0
        · subst he
          obtain ⟨-, S5, hd5, hS5, hk5⟩ := HST.out
          have HFIN := Lib.hid (show ∃ sk Sk, rmsN ((l.drop (k + 1)).map Seg.name) sk = rmsN (l.map Seg.name) s ∧ sk.cnt ≤ s.cnt + (k + 1) ∧ DiskAt w5 d sk Sk ∧ (∀ b, Sk b → S b ∨ w.heap.size ≤ b) ∧ Kept S w w5 from
            ⟨s2, S5, by rw [← HRK.out, HRC.out, if_pos rfl], by have := HCN.out; have := HCK.out; omega, hd5, hS5, hk5⟩)
          clear hd5 hS5 hk5
          go_wp2
          go_roundw
          case rel => exact ⟨k + 1, by omega, by go_num, HFIN.out⟩
          case measure => simp [intOf]; omega
        · have hei1 : (E == 0) = false := beq_eq_false_iff_ne.2 he
          have HE := Lib.hid (show r = (E, s2) by rw [HRX.out, ← HRK.out, HRC.out, if_neg he]; unfold synN; rw [if_neg he])
          go_wp2
          go_ret
          rw [HE.out]
          exact HST.out
      · have hke : k = l.length := by omega
        have HRR := Lib.hid (show r = (synE sk, synS sk) by rw [HRX.out, ← HRK.out, hke, List.drop_length]; rfl)
        have HSY := Lib.hid (sync_any d sk Sk wr HDK.out (by have := HCK.out; have := HCNT.out; have := HFW.out; omega))
        have hc0 := HC0.out
        obtain ⟨E, hE⟩ : ∃ E, E = synE sk := ⟨_, rfl⟩
        rw [← hE] at HSY HRR
        clear hE
        go_wp2_with fail
        refine HSY.out.mono ?_
        intro e w5 hst
        have HST := Lib.hid (dstep_then HSK.out HKK.out hst)
        have hee := hst.1
        subst hee
        clear hst
        go_wp2
        go_ret
        rw [HRR.out]
        exact HST.out
end Go.Proofs.YtnjifhbooikdbaaGreatDoor.Wa

/-! Package wal: begin, as a contract of a call; the log behind it. -/
namespace Go.Proofs.YtnjifhbooikdbaaGreatDoor.Wa
open Go.RowKit Go.Maps By Mp Dk

theorem wpList_appSG {ops : Array Oper} {rest : List Oper} {o : Oper} {a : Act} {Q : Exit → Act → World → Prop} {w : World} (hgd : o.guard = none) (s x : Operand) (hop : o.op = .call { callee := .builtin .append, args := #[s, x], argTypes := #[tSegs, tSegs] })
    (base : Nat) (v : Value) (n : Nat) (xs : List Value) (hs : a.eval s = v) (hown : w.ownsRow base tSeg 4 v n xs) (ad : Option Addr) (m c : Nat) (hx : a.eval x = .slice ad m c) (news : List Value) (hl : news.length = m * 4)
    (hnews : 0 < m → ∃ a, ad = some a ∧ ∀ j u, news[j]? = some u → w.cell? (a.add j) = some u) (h1 : ∀ u ∈ news, u.oneCell' = true)
    (hn : n + m ≤ 1099511627776) (hbase : base ≤ w.heap.size)
    (h : ∀ v' w', w'.ownsRow base tSeg 4 v' (n + m) (xs ++ news) → w.grownBy w' v.ownBlock → (∀ b, v'.ownBlock = some b → v.ownBlock = some b ∨ w.heap.size ≤ b) → wpList Tryz.prog ops Q rest (a.put o.dst v') w') : wpList Tryz.prog ops Q (o :: rest) a w :=
  wpList_plain hgd fun K hK => by
    obtain ⟨i0, hi, hz0, hz1, hz2⟩ := info_parts sInfo
    obtain ⟨v', w', hrun, h2, h3, h4⟩ := run_appG Tryz.underlying47 hi hz0 hz1 hz2 rfl (by decide) w o.type base v n xs hown ad m c news hl hnews h1 (by omega) (by omega) hbase
    exact wp_app_run s x _ hop hs hx hrun (hK _ _ (h v' w' h2 h3 h4))
theorem sRow_drop : ∀ {l : List Seg} {ac : List AC} (k : Nat), ac.length = l.length → k ≤ l.length → sRow (l.drop k) (ac.drop k) = (sRow l ac).drop (k * 4)
  | _, _, 0, _, _ => by simp
  | [], _, k + 1, _, hk => by simp at hk
  | _ :: _, [], k + 1, h, _ => by simp at h
  | x :: l, a :: ac, k + 1, h, hk => by
    rw [List.drop_succ_cons, List.drop_succ_cons, sRow_drop k (by simpa using h) (by simpa using hk)]
    show _ = ((segC x a.1 a.2).toList ++ sRow l ac).drop ((k + 1) * 4)
    rw [show (k + 1) * 4 = (segC x a.1 a.2).toList.length + k * 4 by simp; omega, List.drop_append]
    simp
theorem sRow_one : ∀ {l : List Seg} {ac : List AC}, ∀ u ∈ sRow l ac, u.oneCell' = true
  | [], _, u, h => by cases h
  | _ :: _, [], u, h => by cases h
  | x :: l, a :: ac, u, h => by
    rcases List.mem_append.1 (show u ∈ (segC x a.1 a.2).toList ++ sRow l ac from h) with h | h
    · simp at h
      rcases h with rfl | rfl | rfl | rfl <;> rfl
    · exact sRow_one u h
def BegPost (g d : Nat) (l' : List Seg) (s3 : DS) (S T : Nat → Prop) (E : Value) (w : World) (e : Ending) (w' : World) : Prop :=
  e = .returned (.int .i64 0) ∧ ∃ S' T', DiskAt w' d s3 S' ∧ LogAt w' g d l' false T' ∧ (∀ b, T' b → S' b → False) ∧ (∀ b, S' b → S b ∨ w.heap.size ≤ b) ∧ (∀ b, T' b → T b ∨ w.heap.size ≤ b ∨ E.ownBlock = some b) ∧ Kept (fun b => S b ∨ T b) w w'
set_option maxHeartbeats 2000000 in
/-- The log behind a begin. -/
theorem begun {w w7 w8 : World} {g d k m ub cap : Nat} {s3 : DS} {S T S7 : Nat → Prop} {l : List Seg} {ac : List AC} {x : Seg} {E : Option Addr} {ec : Nat} {A8 : Option Addr} {c8 : Nat}
    (hw : LogW w g d l false T (.slice (some ⟨ub, 0, none⟩) l.length cap) ac) (hsep : ∀ b, T b → S b → False) (hm : m + k = l.length) (hfew : l.length ≤ 4294967296) (hx : SegOk x)
    (hE : w.ownsRow 0 3 1 (.slice E x.ends.length ec) x.ends.length (ints x.ends)) (hEq : ∀ q, (Value.slice E x.ends.length ec).ownBlock = some q → ¬ T q ∧ ¬ S q)
    (hd7 : DiskAt w7 d s3 S7) (hS7 : ∀ b, S7 b → S b ∨ w.heap.size ≤ b) (hk7 : Kept S w w7)
    (hg8 : (w7.alloc (.cells (segC x E ec) tSeg)).grownBy w8 (some w7.heap.size))
    (hv8 : ∀ b, (Value.slice A8 (1 + m) c8).ownBlock = some b → w7.heap.size ≤ b)
    (ho8 : w8.ownsRow 0 tSeg 4 (.slice A8 (1 + m) c8) (1 + m) ((segC x E ec).toList ++ sRow (l.drop k) (ac.drop k))) :
    BegPost g d (x :: l.drop k) s3 S T (.slice E x.ends.length ec) w (.returned (.int .i64 0)) (w8.setCell ⟨g, 1, none⟩ (.slice A8 (1 + m) c8)) := by
  have hz7 := hk7.size
  have hza : (w7.alloc (.cells (segC x E ec) tSeg)).heap.size = w7.heap.size + 1 := World.size_alloc w7 _
  have hz8 := hg8.size
  have hz9 : (w8.setCell ⟨g, 1, none⟩ (.slice A8 (1 + m) c8)).heap.size = w8.heap.size := size_setCell' _ _ _
  have hlg := hw.lt g hw.tg
  have h78 : ∀ b, b < w7.heap.size → w8.heap[b]? = w7.heap[b]? := fun b hb => (hg8.block b (by omega) (fun e => by have := Option.some.inj e; omega)).trans (heap_alloc_old w7 _ hb)
  have h89 : ∀ b, b ≠ g → (w8.setCell ⟨g, 1, none⟩ (.slice A8 (1 + m) c8)).heap[b]? = w8.heap[b]? := fun b hb => heap_setCell_other w8 ⟨g, 1, none⟩ b _ hb
  have hall : ∀ b, b < w7.heap.size → b ≠ g → (w8.setCell ⟨g, 1, none⟩ (.slice A8 (1 + m) c8)).heap[b]? = w7.heap[b]? := fun b h1 h2 => (h89 b h2).trans (h78 b h1)
  have hr8 := (h78 g (by omega)).trans ((hk7.block g hlg (fun e => hsep g hw.tg e)).trans hw.row)
  have hl7 := dlt' hd7
  have obn : ∀ (A : Option Addr) (n m c : Nat), (Value.slice A n c).ownBlock = (Value.slice A m c).ownBlock := fun A n m c => by cases A <;> rfl
  have hold : ∀ b, b < w.heap.size → ¬ S b → b ≠ g → (w8.setCell ⟨g, 1, none⟩ (.slice A8 (1 + m) c8)).heap[b]? = w.heap[b]? := fun b h1 h2 h3 => (hall b (by omega) h3).trans (hk7.block b h1 h2)
  refine ⟨rfl, S7, fun b => T b ∨ (Value.slice E x.ends.length ec).ownBlock = some b ∨ (Value.slice A8 (1 + m) c8).ownBlock = some b, hd7.keep (fun b hb => hall b (hl7.1 b hb) (fun e => by
    rcases hS7 b hb with h | h
    · exact hsep g hw.tg (e ▸ h)
    · omega)) (by omega), ⟨.slice A8 (1 + m) c8, (E, ec) :: ac.drop k, ?_⟩, fun b ht hs => ?_, hS7, fun b hb => ?_, ?_⟩
  · have hlen : (x :: l.drop k).length = 1 + m := by simp; omega
    refine ⟨Go.heap_setCell_same w8 g 1 _ _ (.slice A8 (1 + m) c8) hr8, by simp [hw.hac], ?_, fun i s a hi ha => ?_, fun i j a b q n m' hi hj h1 h2 => ?_, .inl hw.tg, fun b hb => .inr (.inr hb), fun i a n q ha hq => ?_, fun b hb => ?_, fun s hs => ?_, by rw [hlen]; omega⟩
    · rw [hlen]
      exact ownsRow_keep ho8 (fun b hb => h89 b (by have := hv8 b hb; omega))
    · cases i with
      | zero =>
        simp at hi ha
        subst hi ha
        exact ownsRow_keep hE (fun b hb => hold b (ownsRow_lt hE hb).2 (hEq b hb).2 (fun e => (hEq b hb).1 (e ▸ hw.tg)))
      | succ i =>
        simp only [List.getElem?_cons_succ, List.getElem?_drop] at hi ha
        have ho := hw.ends _ s a hi ha
        refine ownsRow_keep ho (fun b hb => ?_)
        have hTb := hw.te _ a _ b ha hb
        obtain ⟨cur, hc⟩ := ownsRow_type ho hb
        refine hold b (hw.lt b hTb) (fun e => hsep b hTb e) (fun e => ?_)
        subst e
        rw [hw.row] at hc
        injection hc with hc
        injection hc with _ hc
        exact absurd hc (by decide)
    · cases i with
      | zero =>
        cases j with
        | zero => rfl
        | succ j =>
          simp only [List.getElem?_cons_zero, Option.some.injEq] at hi
          simp only [List.getElem?_cons_succ, List.getElem?_drop] at hj
          subst hi
          exact absurd (hw.te _ b _ q hj h2) (hEq q ((obn _ _ _ _).trans h1)).1
      | succ i =>
        simp only [List.getElem?_cons_succ, List.getElem?_drop] at hi
        cases j with
        | zero =>
          simp only [List.getElem?_cons_zero, Option.some.injEq] at hj
          subst hj
          exact absurd (hw.te _ a _ q hi h1) (hEq q ((obn _ _ _ _).trans h2)).1
        | succ j =>
          simp only [List.getElem?_cons_succ, List.getElem?_drop] at hj
          have := hw.apart _ _ a b q n m' hi hj h1 h2
          omega
    · cases i with
      | zero =>
        simp only [List.getElem?_cons_zero, Option.some.injEq] at ha
        subst ha
        exact .inr (.inl ((obn _ _ _ _).trans hq))
      | succ i =>
        simp only [List.getElem?_cons_succ, List.getElem?_drop] at ha
        exact .inl (hw.te _ a _ q ha hq)
    · rw [hz9]
      rcases hb with h | h | h
      · have := hw.lt b h; omega
      · have := (ownsRow_lt hE h).2; omega
      · exact (ownsRow_lt ho8 h).2
    · rcases List.mem_cons.1 hs with h | h
      · exact h ▸ hx
      · exact hw.ok s (List.mem_of_mem_drop h)
  · have h7 := hl7.1 b hs
    rcases ht with h | h | h
    · rcases hS7 b hs with e | e
      · exact hsep b h e
      · have := hw.lt b h; omega
    · rcases hS7 b hs with e | e
      · exact (hEq b h).2 e
      · have := (ownsRow_lt hE h).2; omega
    · have := hv8 b h; omega
  · rcases hb with h | h | h
    · exact .inl h
    · exact .inr (.inr h)
    · exact .inr (.inl (by have := hv8 b h; omega))
  · exact ((((hk7.alloc _).step (M1 := fun b => b = w7.heap.size) (Kept.of_grown (M := fun b => b = w7.heap.size) hg8 (fun k e _ => (Option.some.inj e).symm)) (fun b hb e => by omega)).mono (fun b _ h => (Or.inl h : S b ∨ T b))).setCell (p := ⟨g, 1, none⟩) (fun _ => .inr hw.tg) _)
theorem lies_take {w : World} {g d ub cap : Nat} {l : List Seg} {dead : Bool} {T : Nat → Prop} {ac : List AC} (h : LogW w g d l dead T (.slice (some ⟨ub, 0, none⟩) l.length cap) ac) (k : Nat) {P : Nat → Prop} (hP : P ub) : LiesG w P (some ⟨ub, 0, none⟩) (l.take k) := fun _ => ⟨ub, 0, rfl, hP, fun j x hj => by
  have hj' : l[j]? = some x := by
    rw [List.getElem?_take] at hj
    split at hj
    · exact hj
    · cases hj
  have hjl := (List.getElem?_eq_some_iff.1 hj').1
  have hxe : l[j] = x := (List.getElem?_eq_some_iff.1 hj').2
  obtain ⟨ub', cap', A, c, hv, -, -, -, -, h0, h1, h2, h3⟩ := h.at_ hjl
  injection hv with e1 e2 e3
  injection e1 with e1
  injection e1 with e1
  subst e1
  rw [hxe] at h0 h1 h2 h3
  exact ⟨A, c, by rw [Nat.zero_add]; exact h0, by rw [Nat.zero_add]; exact h1, by rw [Nat.zero_add]; exact h2, by rw [Nat.zero_add]; exact h3⟩⟩
set_option maxRecDepth 100000 in
set_option maxHeartbeats 4000000 in
theorem begin_any (g d ub cap k m : Nat) (s s1 s2 s3 : DS) (S T : Nat → Prop) (l : List Seg) (ac : List AC) (x : Seg) (E : Option Addr) (ec : Nat) (D : Bs) (A B : Option Addr) (c cb : Nat) (w : World)
    (hw : LogW w g d l false T (.slice (some ⟨ub, 0, none⟩) l.length cap) ac) (hd : DiskAt w d s S) (hsep : ∀ b, T b → S b → False) (hcnt : s.cnt ≤ 60129542000) (hm : m + k = l.length) (hfew : l.length ≤ 4294967296) (hlc : l.length ≤ cap) (hx : SegOk x) (hE : w.ownsRow 0 3 1 (.slice E x.ends.length ec) x.ends.length (ints x.ends)) (hEq : ∀ q, (Value.slice E x.ends.length ec).ownBlock = some q → ¬ T q ∧ ¬ S q) (hB : 0 < m → B = some ⟨ub, k * 4, none⟩)
    (hput : ∀ w', Below w.heap.size w w' → Calls Tryz.prog 23 #[.pointer (some ⟨d, 0, none⟩), .string (str x.name), .int .i64 0, .slice A D.length c] w' (DStep (.int .i64 0) d s1 S w'))
    (hs1 : s1.cnt ≤ s.cnt + 1) (hs2 : synE s1 = 0 ∧ synS s1 = s2 ∧ s2.cnt ≤ s1.cnt) (hs3 : remX (l.take k) s2 = (0, s3)) :
    Calls Tryz.prog 48 #[.pointer (some ⟨g, 0, none⟩), segV x E ec, .slice A D.length c, .slice B m cb] w (BegPost g d (x :: l.drop k) s3 S T (.slice E x.ends.length ec) w) := by
  have HLOG := Lib.hid (show LogAt w g d l false T from ⟨_, _, hw⟩)
  have HLW := Lib.hid hw
  have HD := Lib.hid hd
  have HSEP := Lib.hid hsep
  have HCNT := Lib.hid (show s.cnt ≤ 60129542000 ∧ s1.cnt ≤ s.cnt + 1 ∧ s2.cnt ≤ s1.cnt from ⟨hcnt, hs1, hs2.2.2⟩)
  have HPUT := Lib.hid hput
  have HS2 := Lib.hid (show synE s1 = 0 ∧ synS s1 = s2 from ⟨hs2.1, hs2.2.1⟩)
  have HS3 := Lib.hid hs3
  obtain ⟨w1, hw1⟩ : ∃ w1, w1 = w.alloc (.cells (segC x E ec) tSeg) := ⟨_, rfl⟩
  have HW1 := Lib.hid hw1
  have HB1 := Lib.hid (show Below w.heap.size w w1 from hw1 ▸ bAlloc (Below.refl _ _) _)
  have hrow : w1.heap[w.heap.size]? = some (.cells (segC x E ec) tSeg (0, 0)) := hw1 ▸ heap_alloc_new w _
  have HC := Lib.hid (fun (w' : World) (hb : Below w1.heap.size w1 w') => And.intro (show w'.cell? ⟨g, 0, none⟩ = some (.pointer (some ⟨d, 0, none⟩)) from log_cell (HLOG.out.below (By.ext HB1.out hb))) (box_cells hrow hb))
  have HPK := Lib.hid (fun w' => lab_name_any x w' hx.era (by have := hx.next; unfold Seg.next at this; omega))
  obtain ⟨P, hP⟩ : ∃ P, P = str x.name := ⟨_, rfl⟩
  rw [← hP] at HPK HPUT
  obtain ⟨n, hn⟩ : ∃ n, n = D.length := ⟨_, rfl⟩
  rw [← hn] at HPUT ⊢
  have HBG := Lib.hid (fun (w7 w8 : World) (S7 : Nat → Prop) (A8 : Option Addr) (c8 : Nat) => begun (d := d) (w := w) (w7 := w7) (w8 := w8) (s3 := s3) (S7 := S7) (A8 := A8) (c8 := c8) hw hsep hm hfew hx hE hEq)
  have HBB := Lib.hid hB
  obtain ⟨R, hR⟩ : ∃ R, R = BegPost g d (x :: l.drop k) s3 S T (.slice E x.ends.length ec) w := ⟨_, rfl⟩
  rw [← hR] at HBG ⊢
  have HLF := Lib.hid hfew
  clear hE hEq hB hR
  obtain ⟨era, first, base, ends⟩ := x
  dsimp only [segC, segV, labV, labC] at HBG HW1 HC HPK ⊢
  clear hw hd hsep hcnt hput hs1 hs2 hs3 hw1 hrow hP hx hn
  go_enter Tryz.func48, Tryz.ntmps48
  go_upto_region 1 with fail
  rw [← HW1.out]
  go_region_held3 (fun w' => w'.cell? ⟨g, 0, none⟩ = some (.pointer (some ⟨d, 0, none⟩)) ∧ w'.cell? ⟨w.heap.size, 0, none⟩ = some (.int .u64 (era : Nat)) ∧ w'.cell? ⟨w.heap.size, 1, none⟩ = some (.int .u64 (first : Nat)) ∧ w'.cell? ⟨w.heap.size, 2, none⟩ = some (.bool base) ∧ w'.cell? ⟨w.heap.size, 3, none⟩ = some (.slice E ends.length ec))
    (first
      | with_reducible assumption
      | exact HC.out _ (Below.refl _ _)
      | exact HC.out _ (Below.refl _ _).drew
      | exact HC.out _ HB4.out
      | exact HX5.out
      | exact HX6.out)
    (first
      | (go_at_call 24; refine (HPK.out _).mono ?_; rintro e w4 ⟨rfl, hb4⟩
         have HB4 := Lib.hid (show Below w1.heap.size w1 w4 from By.ext (Below.refl _ _).drew hb4)
         clear hb4)
      | (go_at_call 23; refine (HPUT.out _ (By.ext HB1.out HB4.out)).mono ?_; rintro e w5 ⟨rfl, S5, hd5, hS5, hk5⟩
         have HBX := Lib.hid (By.ext HB1.out HB4.out)
         have HK5 := Lib.hid (show Kept S w w5 from (Kept.of_below (M := S) HBX.out).step hk5 (fun _ _ e => e))
         have HZ5 := Lib.hid (show w4.heap.size ≤ w5.heap.size from hk5.size)
         have HD5 := Lib.hid hd5
         have HS5 := Lib.hid (show ∀ b, S5 b → S b ∨ w4.heap.size ≤ b from hS5)
         have HX5 := Lib.hid (show w5.cell? ⟨g, 0, none⟩ = some (.pointer (some ⟨d, 0, none⟩)) ∧ w5.cell? ⟨w.heap.size, 0, none⟩ = some (.int .u64 (era : Nat)) ∧ w5.cell? ⟨w.heap.size, 1, none⟩ = some (.int .u64 (first : Nat)) ∧ w5.cell? ⟨w.heap.size, 2, none⟩ = some (.bool base) ∧ w5.cell? ⟨w.heap.size, 3, none⟩ = some (.slice E ends.length ec) by
           have hlt1 : w.heap.size < w4.heap.size := Nat.lt_of_lt_of_le (by rw [HW1.out]; simp) HB4.out.size
           have hbk := hk5.block w.heap.size hlt1 (fun e => Nat.lt_irrefl _ ((dlt' HD.out).1 _ e))
           have hc4 := HC.out _ HB4.out
           exact ⟨log_cell (log_kept HLOG.out HSEP.out HK5.out), (World.cell?_of_block hbk).trans hc4.2.1, (World.cell?_of_block hbk).trans hc4.2.2.1, (World.cell?_of_block hbk).trans hc4.2.2.2.1, (World.cell?_of_block hbk).trans hc4.2.2.2.2⟩)
         have hsu := surely_ok g d s1 S5 T l false w5 (log_kept HLOG.out HSEP.out HK5.out) HD5.out (by have := HCNT.out; omega)
         rw [HS2.out.1, HS2.out.2] at hsu
         have HSU := Lib.hid hsu
         clear hd5 hS5 hk5 hsu)
      | (go_at_call 49; refine HSU.out.mono ?_; rintro e w6 ⟨rfl, S6, hd6, hS6, hk6⟩
         have HLT := Lib.hid (show w.heap.size < w4.heap.size ∧ w4.heap.size ≤ w5.heap.size from ⟨Nat.lt_of_lt_of_le (by rw [HW1.out]; simp) HB4.out.size, HZ5.out⟩)
         have HK6 := Lib.hid (show Kept S w w6 from HK5.out.step hk6 (fun b hb e => (HS5.out b e).resolve_right (by have := HLT.out; omega)))
         have HD6 := Lib.hid hd6
         have HS6 := Lib.hid (show ∀ b, S6 b → S b ∨ w4.heap.size ≤ b from fun b hb => by
           rcases hS6 b hb with e | e
           · exact HS5.out b e
           · exact .inr (by have := HLT.out; omega))
         have HX6 := Lib.hid (show w6.cell? ⟨g, 0, none⟩ = some (.pointer (some ⟨d, 0, none⟩)) ∧ w6.cell? ⟨w.heap.size, 0, none⟩ = some (.int .u64 (era : Nat)) ∧ w6.cell? ⟨w.heap.size, 1, none⟩ = some (.int .u64 (first : Nat)) ∧ w6.cell? ⟨w.heap.size, 2, none⟩ = some (.bool base) ∧ w6.cell? ⟨w.heap.size, 3, none⟩ = some (.slice E ends.length ec) by
           have hbk := hk6.block w.heap.size (by have := HLT.out; omega) (fun e => by
             rcases HS5.out _ e with e | e
             · exact Nat.lt_irrefl _ ((dlt' HD.out).1 _ e)
             · have := HLT.out; omega)
           have hc5 := HX5.out
           exact ⟨log_cell (log_kept HLOG.out HSEP.out HK6.out), (World.cell?_of_block hbk).trans hc5.2.1, (World.cell?_of_block hbk).trans hc5.2.2.1, (World.cell?_of_block hbk).trans hc5.2.2.2.1, (World.cell?_of_block hbk).trans hc5.2.2.2.2⟩)
         have HZ6 := Lib.hid (show w4.heap.size ≤ w6.heap.size from Nat.le_trans HLT.out.2 hk6.size)
         clear hd6 hS6 hk6))
  have HL6 := Lib.hid (show LogW w6 g d l false T (.slice (some ⟨ub, 0, none⟩) l.length cap) ac from HLW.out.keep (fun b hb => HK6.out.block b (HLW.out.lt b hb) (fun e => HSEP.out b hb e)) HK6.out.size)
  have HR6 := Lib.hid (show ∀ w', Below w6.heap.size w6 w' → w'.cell? ⟨g, 1, none⟩ = some (.slice (some ⟨ub, 0, none⟩) l.length cap) from fun w' hb => by
    rw [cell_of_row w' g 1 _ _ _ ((hb.block g (row_lt HL6.out.row)).trans HL6.out.row)]
    rfl)
  have hsub : ((l.length : Nat) : Int) - (m : Int) = (k : Int) := by omega
  have HSB := Lib.hid hsub
  have hlf := HLW.out.few
  have hwr : IntKind.i64.wrap (((l.length : Nat) : Int) - (m : Int)) = (k : Int) := by rw [IntWalk.i64_in _ (by omega)]; exact HSB.out
  have hb0 : (0 : Int) ≤ (k : Int) := by omega
  have hb1 : (k : Int) ≤ (cap : Int) := by omega
  clear hlf
  have HMK := Lib.hid hm
  clear hsub
  have hrm := wremove_any g d s2 S6 T l (l.take k) false (some ⟨ub, 0, none⟩) cap w6.drew (show LogAt w6.drew g d l false T from LogAt.below ⟨_, _, HL6.out⟩ (Below.refl _ _).drew) (HD6.out.below (Below.refl _ _).drew)
    (fun b ht hs => by
      rcases HS6.out b hs with e | e
      · exact HSEP.out b ht e
      · have := HLW.out.lt b ht; have := HLT.out; omega)
    (fun y hy => HLW.out.ok y (List.mem_of_mem_take hy)) (by rw [List.length_take]; omega) (by have := HCNT.out; omega)
    (lies_take (HL6.out.keep (w' := w6.drew) (fun _ _ => rfl) (Nat.le_refl _)) k ⟨fun hs => by
      rcases HS6.out ub hs with e | e
      · exact HSEP.out ub (HLW.out.tv ub rfl) e
      · have := HLW.out.lt ub (HLW.out.tv ub rfl); have := HLT.out; omega, HL6.out.lt ub (HLW.out.tv ub rfl)⟩)
  rw [HS3.out, List.length_take, show min k l.length = k by omega] at hrm
  have HRM := Lib.hid hrm
  clear hrm hfew
  go_upto_region 4 with fail
  go_region_held3 (fun w' => w'.cell? ⟨g, 1, none⟩ = some (.slice (some ⟨ub, 0, none⟩) l.length cap))
    (first
      | with_reducible assumption
      | exact HR6.out _ (Below.refl _ _)
      | exact HR6.out _ (Below.refl _ _).drew
      | exact HX7.out)
    (first
      | (go_at_call 50; refine HRM.out.mono ?_; rintro e w7 ⟨rfl, S7, hd7, hS7, hk7⟩
         have HK7 := Lib.hid (show Kept S w w7 from HK6.out.step (M1 := S6) (Kept.step (M := S6) (Kept.of_below (Below.refl _ _).drew) hk7 (fun _ _ e => e)) (fun b hb e => (HS6.out b e).resolve_right (by have := HLT.out; omega)))
         have HD7 := Lib.hid hd7
         have HS7 := Lib.hid (show ∀ b, S7 b → S b ∨ w4.heap.size ≤ b from fun b hb => by
           rcases hS7 b hb with e | e
           · exact HS6.out b e
           · have h6 := HK6.out.size
             exact .inr (Nat.le_trans HZ6.out e))
         have HBX7 := Lib.hid (show w7.heap[w.heap.size]? = w6.heap[w.heap.size]? from hk7.block w.heap.size (Nat.lt_of_lt_of_le HLT.out.1 HZ6.out) (fun e => by
           rcases HS6.out _ e with e | e
           · exact Nat.lt_irrefl _ ((dlt' HD.out).1 _ e)
           · have := HLT.out; omega))
         have HX7 := Lib.hid (show w7.cell? ⟨g, 1, none⟩ = some (.slice (some ⟨ub, 0, none⟩) l.length cap) from by
           rw [cell_of_row w7 g 1 _ _ _ ((HK7.out.block g (row_lt HLW.out.row) (fun e => HSEP.out g HLW.out.tg e)).trans HLW.out.row)]
           rfl)
         clear hd7 hS7 hk7))
  have b0 := (World.cell?_of_block HBX7.out).trans HX6.out.2.1
  have b1 := (World.cell?_of_block HBX7.out).trans HX6.out.2.2.1
  have b2 := (World.cell?_of_block HBX7.out).trans HX6.out.2.2.2.1
  have b3 := (World.cell?_of_block HBX7.out).trans HX6.out.2.2.2.2
  go_upto_region 7 with fail
  have HZ7 := Lib.hid HK7.out.size
  have hlf := HLF.out
  have hml : m ≤ 4294967296 := by omega
  have HO := Lib.hid (World.ownsRow_lit (base := w7.heap.size) (e := tSeg) (size := 4) w7 #[.int .u64 (era : Nat), .int .u64 (first : Nat), .bool base, .slice E ends.length ec] 1 (Nat.le_refl _) (by decide) rfl)
  have HNL := Lib.hid (show (sRow (l.drop k) (ac.drop k)).length = m * 4 by rw [sRow_length (by simp [HLW.out.hac]), List.length_drop]; congr 1; omega)
  have HNC := Lib.hid (show 0 < m → ∃ a, B = some a ∧ ∀ j u, (sRow (l.drop k) (ac.drop k))[j]? = some u → (w7.alloc (.cells #[.int .u64 (era : Nat), .int .u64 (first : Nat), .bool base, .slice E ends.length ec] tSeg)).cell? (a.add j) = some u from fun h0 => ⟨_, HBB.out h0, fun j u hu => by
    rw [sRow_drop k HLW.out.hac (by omega), List.getElem?_drop] at hu
    have hub := HLW.out.lt ub (HLW.out.tv ub rfl)
    have hc := World.ownsRow.cells HLW.out.segs (g := ub) rfl _ _ hu
    rw [plainAdd] at hc ⊢
    rw [Nat.zero_add] at hc
    refine (World.cell?_alloc_lt w7 _ ⟨ub, k * 4 + j, none⟩ (Nat.lt_of_lt_of_le hub HZ7.out)).trans ((World.cell?_of_block (w := w) (HK7.out.block ub hub (fun e => HSEP.out ub (HLW.out.tv ub rfl) e))).trans hc)⟩)
  have HN1 := Lib.hid (fun u hu => sRow_one (l := l.drop k) (ac := ac.drop k) u hu)
  have HRW := Lib.hid ((HK7.out.block g (row_lt HLW.out.row) (fun e => HSEP.out g HLW.out.tg e)).trans HLW.out.row)
  go_wp2_with (at_builtin; refine wpList_appSG rfl (.tmp 45) (.tmp 46) rfl w7.heap.size (.slice (some ⟨w7.heap.size, 0, none⟩) 1 1) 1 _ rfl HO.out B m cb rfl (sRow (l.drop k) (ac.drop k)) HNL.out HNC.out HN1.out (by omega) (by show _ ≤ (w7.alloc _).heap.size; simp) ?_; intro v8 w8 ho8 hg8 hv8
               obtain ⟨A8, c8, hv8'⟩ := ownsRow_form ho8
               subst hv8'
               have hr8 := (hg8.block g (by rw [World.size_alloc]; exact Nat.lt_succ_of_lt (row_lt HRW.out)) (fun e => by have h1 := Option.some.inj e; have h2 := row_lt HRW.out; have h3 : g = w7.heap.size := h1; omega)).trans ((heap_alloc_old w7 _ (row_lt HRW.out)).trans HRW.out)
               have hc8 : w8.cell? ⟨g, 1, none⟩ = some (.slice (some ⟨ub, 0, none⟩) l.length cap) := (cell_of_row w8 g 1 _ _ _ hr8).trans rfl
               have hf8 : w8.frozen? ⟨g, 1, none⟩ = false := frozen_of_row w8 g 1 _ _ hr8
               have HO8 := Lib.hid ho8
               have HG8 := Lib.hid (show (w7.alloc (.cells #[.int .u64 (era : Nat), .int .u64 (first : Nat), .bool base, .slice E ends.length ec] tSeg)).grownBy w8 (some w7.heap.size) from hg8)
               clear ho8 hr8 hg8 hv8)
  go_wp2
  exact HBG.out _ _ _ _ _ HD7.out (fun b hb => (HS7.out b hb).imp id (fun h => Nat.le_trans (Nat.le_of_lt HLT.out.1) h)) HK7.out HG8.out (fun b hb => (ownsRow_lt HO8.out hb).1) (ownsRow_base HO8.out (Nat.zero_le _))
end Go.Proofs.YtnjifhbooikdbaaGreatDoor.Wa

/-! Package wal: Drop and Cut, over whatever drop and cut do. -/
namespace Go.Proofs.YtnjifhbooikdbaaGreatDoor.Wa
open Go.RowKit Go.Maps By Mp Dk

def OutPost (g d : Nat) (l' : List Seg) (s3 : DS) (S T : Nat → Prop) (w : World) (e : Ending) (w' : World) : Prop :=
  e = .returned (.int .i64 0) ∧ ∃ S' T', DiskAt w' d s3 S' ∧ LogAt w' g d l' false T' ∧ (∀ b, T' b → S' b → False) ∧ (∀ b, S' b → S b ∨ w.heap.size ≤ b) ∧ (∀ b, T' b → T b ∨ w.heap.size ≤ b) ∧ Kept (fun b => S b ∨ T b) w w'
theorem OutPost.heard {g d : Nat} {l' : List Seg} {s3 : DS} {S T S' T' : Nat → Prop} {w w1 w2 w3 : World} (hb : Below w.heap.size w w1) (hd : DiskAt w2 d s3 S') (hl : LogAt w2 g d l' false T') (hsep : ∀ b, T' b → S' b → False) (hS : ∀ b, S' b → S b ∨ w1.heap.size ≤ b) (hT : ∀ b, T' b → T b ∨ w1.heap.size ≤ b) (hg : T g) (hk : Kept (fun b => S b ∨ T b) w1 w2)
    (hl3 : LogAt w3 g d l' false T') (hk3 : Kept (fun b => b = g) w2 w3) : OutPost g d l' s3 S T w (.returned (.int .i64 0)) w3 := by
  have hSg : ¬ S' g := fun e => hsep g (logAt_lt hl).2 e
  refine ⟨rfl, S', T', hd.keep (fun b hb => hk3.block b ((dlt' hd).1 b hb) (fun e => hSg (e ▸ hb))) hk3.size, hl3, hsep, fun b h => ?_, fun b h => ?_, ((Kept.of_below (M := fun b => S b ∨ T b) hb).step hk (fun _ _ e => e)).step hk3 (fun b _ e => .inr (e ▸ hg))⟩
  · rcases hS b h with e | e
    · exact .inl e
    · exact .inr (Nat.le_trans hb.size e)
  · rcases hT b h with e | e
    · exact .inl e
    · exact .inr (Nat.le_trans hb.size e)
set_option maxRecDepth 100000 in
set_option maxHeartbeats 2000000 in
theorem wdrop_any (g d dt : Nat) (s3 : DS) (S T : Nat → Prop) (l l' : List Seg) (w : World) (h : LogAt w g d l false T) (hto : dt ≤ nextS l)
    (hdrop : ∀ w', Below w.heap.size w w' → Calls Tryz.prog 26 #[.pointer (some ⟨g, 0, none⟩), .int .u64 (dt : Nat)] w' (OutPost g d l' s3 S T w')) :
    Calls Tryz.prog 9 #[.pointer (some ⟨g, 0, none⟩), .int .u64 (dt : Nat)] w (OutPost g d l' s3 S T w) := by
  have HWK := Lib.hid (works_any g d l false T w h)
  have HNX := Lib.hid (next_any g d l false T w h)
  have HTG := Lib.hid (logAt_lt h).2
  have HDR := Lib.hid hdrop
  obtain ⟨N, hN⟩ : ∃ N, N = nextS l := ⟨_, rfl⟩
  rw [← hN] at HNX hto
  have hle : ((dt : Nat) : Int) ≤ ((N : Nat) : Int) := by omega
  clear h hdrop hN hto
  go_enter Tryz.func9, Tryz.ntmps9
  go_wp2_with fail
  refine HWK.out.mono ?_
  rintro e w' ⟨rfl, rfl⟩
  go_wp2_with fail
  refine HNX.out.mono ?_
  rintro e w1 ⟨rfl, hb1⟩
  have HB1 := Lib.hid hb1
  clear hb1
  go_wp2_with fail
  refine (HDR.out _ HB1.out).mono ?_
  rintro e w2 ⟨rfl, S2, T2, hd2, hl2, hp2, hS2, hT2, hk2⟩
  have HHE := Lib.hid (hear_any g d l' false T2 0 w2 hl2)
  have HO := Lib.hid (fun w3 hl3 hk3 => OutPost.heard (w3 := w3) HB1.out hd2 hl2 hp2 hS2 hT2 HTG.out hk2 hl3 hk3)
  clear hd2 hl2 hp2 hS2 hT2 hk2
  go_wp2_with fail
  refine HHE.out.mono ?_
  rintro e w3 ⟨rfl, hl3, hk3⟩
  have HFIN := Lib.hid (HO.out w3 hl3 hk3)
  clear hl3 hk3
  go_wp2
  go_ret
  exact HFIN.out
set_option maxRecDepth 100000 in
set_option maxHeartbeats 2000000 in
theorem wcut_any (g d at_ : Nat) (s3 : DS) (S T : Nat → Prop) (l l' : List Seg) (w : World) (h : LogAt w g d l false T) (hlo : firstS l ≤ at_) (hhi : at_ ≤ nextS l)
    (hcut : ∀ w', Below w.heap.size w w' → Calls Tryz.prog 27 #[.pointer (some ⟨g, 0, none⟩), .int .u64 (at_ : Nat)] w' (OutPost g d l' s3 S T w')) :
    Calls Tryz.prog 11 #[.pointer (some ⟨g, 0, none⟩), .int .u64 (at_ : Nat)] w (OutPost g d l' s3 S T w) := by
  have HWK := Lib.hid (works_any g d l false T w h)
  have HFI := Lib.hid (first_any g d l false T w h)
  have HNX := Lib.hid (next_any g d l false T w h)
  have HTG := Lib.hid (logAt_lt h).2
  have HDR := Lib.hid hcut
  obtain ⟨N, hN⟩ : ∃ N, N = nextS l := ⟨_, rfl⟩
  obtain ⟨F, hF⟩ : ∃ F, F = firstS l := ⟨_, rfl⟩
  rw [← hN] at HNX hhi
  rw [← hF] at HFI hlo
  have hle : ((at_ : Nat) : Int) ≤ ((N : Nat) : Int) := by omega
  have hge : ((F : Nat) : Int) ≤ ((at_ : Nat) : Int) := by omega
  clear h hcut hN hF hhi hlo
  go_enter Tryz.func11, Tryz.ntmps11
  go_wp2_with fail
  refine HWK.out.mono ?_
  rintro e w' ⟨rfl, rfl⟩
  go_wp2_with fail
  refine HFI.out.mono ?_
  rintro e w' ⟨rfl, rfl⟩
  go_wp2_with fail
  refine HNX.out.mono ?_
  rintro e w1 ⟨rfl, hb1⟩
  have HB1 := Lib.hid hb1
  clear hb1
  go_wp2_with fail
  refine (HDR.out _ HB1.out).mono ?_
  rintro e w2 ⟨rfl, S2, T2, hd2, hl2, hp2, hS2, hT2, hk2⟩
  have HHE := Lib.hid (hear_any g d l' false T2 0 w2 hl2)
  have HO := Lib.hid (fun w3 hl3 hk3 => OutPost.heard (w3 := w3) HB1.out hd2 hl2 hp2 hS2 hT2 HTG.out hk2 hl3 hk3)
  clear hd2 hl2 hp2 hS2 hT2 hk2
  go_wp2_with fail
  refine HHE.out.mono ?_
  rintro e w3 ⟨rfl, hl3, hk3⟩
  have HFIN := Lib.hid (HO.out w3 hl3 hk3)
  clear hl3 hk3
  go_wp2
  go_ret
  exact HFIN.out
end Go.Proofs.YtnjifhbooikdbaaGreatDoor.Wa

/-! A log of pieces of records as a plain value, and what an Append, removals and a cut make of it and of the disk's files. No walk. -/
namespace Go.Proofs.YtnjifhbooikdbaaGreatDoor.Wa
open Go.RowKit Go.Maps By Mp Dk

/-! Names -/
theorem dig_inj : ∀ a b : Fin 36, dig a.val = dig b.val → a = b := by decide
theorem b36_inj : ∀ {n m : Nat}, b36 n = b36 m → n = m := by
  intro n
  induction n using Nat.strongRecOn with
  | ind n ih =>
    intro m h
    have hl := congrArg List.length h
    by_cases hn : n < 36
    · by_cases hm : m < 36
      · rw [b36_lt hn, b36_lt hm] at h
        have e := dig_inj ⟨n, hn⟩ ⟨m, hm⟩ (by simpa using h)
        exact congrArg Fin.val e
      · rw [b36_lt hn, b36_ge hm] at hl
        have := b36_ne (m / 36)
        simp at hl
        rw [hl] at this
        simp at this
    · by_cases hm : m < 36
      · rw [b36_lt hm, b36_ge hn] at hl
        have := b36_ne (n / 36)
        simp at hl
        rw [hl] at this
        simp at this
      · rw [b36_ge hn, b36_ge hm] at h
        obtain ⟨h1, h2⟩ := List.append_inj' h rfl
        have e1 := ih (n / 36) (by omega) h1
        have e2 := dig_inj ⟨n % 36, Nat.mod_lt _ (by decide)⟩ ⟨m % 36, Nat.mod_lt _ (by decide)⟩ (by simpa using h2)
        have e2 := congrArg Fin.val e2
        dsimp only at e2
        omega
/-- The name of the file whose records begin with f. -/
def nm (b : Bool) (f : Nat) : Bs := (⟨0, f, b, []⟩ : Seg).name
theorem nm_eq (f : Nat) (b : Bool) (e : List Nat) : (⟨0, f, b, e⟩ : Seg).name = nm b f := rfl
theorem nm_split (b : Bool) (f : Nat) : nm b f = ([119, 46] ++ b36 0 ++ [46]) ++ (b36 f ++ if b = true then [46, 98] else []) := by
  unfold nm Seg.name
  dsimp only
  rw [List.append_assoc]
theorem nm_inj {b b' : Bool} {f f' : Nat} (h : nm b f = nm b' f') : b = b' ∧ f = f' := by
  rw [nm_split, nm_split] at h
  have h := List.append_cancel_left h
  cases b <;> cases b'
  · simp only [Bool.false_eq_true, if_false, List.append_nil] at h
    exact ⟨rfl, b36_inj h⟩
  · exfalso
    simp only [Bool.false_eq_true, if_false, if_true, List.append_nil] at h
    exact (b36_chars f 46 (by rw [h]; simp)).2 rfl
  · exfalso
    simp only [Bool.false_eq_true, if_false, if_true, List.append_nil] at h
    exact (b36_chars f' 46 (by rw [← h]; simp)).2 rfl
  · simp only [if_true] at h
    exact ⟨rfl, b36_inj (List.append_cancel_right h)⟩
theorem nm_named {b : Bool} {f : Nat} (h : f < 18446744073709551616) : named (nm b f) = true := seg_named (s := ⟨0, f, b, []⟩) (by show (0 : Nat) < 18446744073709551616; omega) h

/-! Segments of pieces -/
def tot (P : List (List Bs)) : Nat := P.flatten.length
theorem tot_cons (p : List Bs) (P : List (List Bs)) : tot (p :: P) = p.length + tot P := by simp [tot]
theorem tot_app (P Q : List (List Bs)) : tot (P ++ Q) = tot P + tot Q := by simp [tot]
theorem tot_take_le (P : List (List Bs)) (k : Nat) : tot (P.take k) ≤ tot P := by
  have h := tot_app (P.take k) (P.drop k)
  rw [List.take_append_drop] at h
  omega
theorem tot_take_mono (P : List (List Bs)) {a b : Nat} (h : a ≤ b) : tot (P.take a) ≤ tot (P.take b) := by
  have e : P.take a = (P.take b).take a := by rw [List.take_take, Nat.min_eq_left h]
  rw [e]
  exact tot_take_le _ _
theorem tot_take_succ {P : List (List Bs)} {k : Nat} {p : List Bs} (h : P[k]? = some p) : tot (P.take (k + 1)) = tot (P.take k) + p.length := by
  obtain ⟨hk, he⟩ := List.getElem?_eq_some_iff.1 h
  rw [List.take_succ_eq_append_getElem hk, tot_app, he]
  simp [tot]
theorem tot_take_lt {P : List (List Bs)} (hne : ∀ p ∈ P, p ≠ []) {a b : Nat} (h : a < b) (hb : b ≤ P.length) : tot (P.take a) < tot (P.take b) := by
  have ha : a < P.length := by omega
  have h1 := tot_take_succ (List.getElem?_eq_getElem ha)
  have h2 := tot_take_mono P (show a + 1 ≤ b by omega)
  have h3 : 0 < P[a].length := List.length_pos_iff.2 (hne _ (List.getElem_mem ha))
  omega
def segs : Bool → Nat → List (List Bs) → List Seg
  | _, _, [] => []
  | b, f, p :: P => ⟨0, f, b, endsOf 0 p⟩ :: segs false (f + p.length) P
theorem segs_len : ∀ (b : Bool) (f : Nat) (P : List (List Bs)), (segs b f P).length = P.length
  | _, _, [] => rfl
  | b, f, p :: P => by show (segs false (f + p.length) P).length + 1 = P.length + 1; rw [segs_len]
theorem segs_get : ∀ {P : List (List Bs)} {k : Nat} {p : List Bs} (b : Bool) (f : Nat), P[k]? = some p → (segs b f P)[k]? = some ⟨0, f + tot (P.take k), b && decide (k = 0), endsOf 0 p⟩
  | [], _, _, _, _, h => by simp at h
  | q :: P, 0, p, b, f, h => by
    simp only [List.getElem?_cons_zero, Option.some.injEq] at h
    subst h
    simp [segs, tot]
  | q :: P, k + 1, p, b, f, h => by
    simp only [List.getElem?_cons_succ] at h
    show (segs false (f + q.length) P)[k]? = _
    rw [segs_get false _ h, List.take_succ_cons, tot_cons]
    simp [Nat.add_assoc]
theorem segs_get' {P : List (List Bs)} {k : Nat} {b : Bool} {f : Nat} {s : Seg} (h : (segs b f P)[k]? = some s) : ∃ p, P[k]? = some p ∧ s = ⟨0, f + tot (P.take k), b && decide (k = 0), endsOf 0 p⟩ := by
  have hk : k < P.length := by have := (List.getElem?_eq_some_iff.1 h).1; rwa [segs_len] at this
  refine ⟨P[k], List.getElem?_eq_getElem hk, ?_⟩
  have h2 := segs_get b f (List.getElem?_eq_getElem hk)
  rw [h] at h2
  exact Option.some.inj h2
theorem segs_take : ∀ (k : Nat) (b : Bool) (f : Nat) (P : List (List Bs)), (segs b f P).take k = segs b f (P.take k)
  | 0, _, _, _ => by simp [segs]
  | _ + 1, _, _, [] => by simp [segs]
  | k + 1, b, f, p :: P => by
    show ⟨0, f, b, endsOf 0 p⟩ :: (segs false (f + p.length) P).take k = _
    rw [segs_take]
    rfl
theorem segs_drop : ∀ (k : Nat) (b : Bool) (f : Nat) (P : List (List Bs)), (segs b f P).drop k = segs (b && decide (k = 0)) (f + tot (P.take k)) (P.drop k)
  | 0, b, f, P => by simp [tot]
  | k + 1, b, f, [] => by simp [segs]
  | k + 1, b, f, p :: P => by
    show (segs false (f + p.length) P).drop k = _
    rw [segs_drop, List.take_succ_cons, tot_cons]
    simp [Nat.add_assoc]
theorem segs_app : ∀ (b : Bool) (f : Nat) (P Q : List (List Bs)), segs b f (P ++ Q) = segs b f P ++ segs (b && P.isEmpty) (f + tot P) Q
  | b, f, [], Q => by simp [segs, tot]
  | b, f, p :: P, Q => by
    show ⟨0, f, b, endsOf 0 p⟩ :: segs false (f + p.length) (P ++ Q) = _
    rw [segs_app false _ P Q, tot_cons]
    simp [segs, Nat.add_assoc]
theorem segs_first {f : Nat} {P : List (List Bs)} (h : P ≠ []) : firstS (segs true f P) = f := by
  cases P with
  | nil => exact absurd rfl h
  | cons p P => rfl
theorem segs_next {b : Bool} {f : Nat} {P : List (List Bs)} (h : P ≠ []) : nextS (segs b f P) = f + tot P := by
  have hl : 0 < P.length := List.length_pos_iff.2 h
  have hg := segs_get b f (List.getElem?_eq_getElem (show P.length - 1 < P.length by omega))
  unfold nextS
  rw [List.getLast?_eq_getElem?, segs_len, hg]
  show f + tot (P.take (P.length - 1)) + (endsOf 0 P[P.length - 1]).length = _
  rw [endsOf_length]
  have h1 := tot_take_succ (List.getElem?_eq_getElem (show P.length - 1 < P.length by omega))
  rw [show P.length - 1 + 1 = P.length by omega, List.take_length] at h1
  omega
theorem segs_rising (b : Bool) (f : Nat) (P : List (List Bs)) : Rising (segs b f P) := by
  intro a c s u hac hs hu
  obtain ⟨p, -, rfl⟩ := segs_get' hs
  obtain ⟨q, -, rfl⟩ := segs_get' hu
  have := tot_take_mono P hac
  dsimp only
  omega
theorem seg_size (f : Nat) (b : Bool) (p : List Bs) : (⟨0, f, b, endsOf 0 p⟩ : Seg).size = (framesB p).length := by
  have h := start_at (sg := ⟨0, f, b, endsOf 0 p⟩) (p := p) (j := p.length) rfl (Nat.le_refl _)
  rw [List.take_length] at h
  unfold Seg.size Seg.next
  dsimp only
  rw [endsOf_length]
  exact h

/-! The disk -/
structure Quiet (s : DS) (N M C : Nat) : Prop where
  down : s.down = false
  fuse : s.fuse = 0
  room : s.room = 4000000
  upS : Up s.sure
  few : s.files.length ≤ N
  size : fsize s.files ≤ M
  cnt : s.cnt ≤ C
theorem Quiet.up {s : DS} {N M C : Nat} (h : Quiet s N M C) : Up s.files := up_all h.upS
theorem Quiet.flenC {s : DS} {N M C : Nat} (h : Quiet s N M C) : s.files.length ≤ s.cnt := len_all h.upS
/-- Each piece has its file. -/
def Files (f : Nat) (P : List (List Bs)) (F : Fs) : Prop := ∀ (k : Nat) (p : List Bs), P[k]? = some p → fget F (nm (decide (k = 0)) (f + tot (P.take k))) = some (framesB p)
/-- There are no other files. -/
def Only (f : Nat) (P : List (List Bs)) (F : Fs) : Prop := ∀ (n b : Bs), fget F n = some b → ∃ k, k < P.length ∧ n = nm (decide (k = 0)) (f + tot (P.take k))
theorem Quiet.syncd {s : DS} {N M C : Nat} (h : Quiet s N M C) : synE s = 0 ∧ synS s = calmS s.files 4000000 ∧ Quiet (calmS s.files 4000000) N M N := by
  obtain ⟨h1, h2⟩ := sync_calm h.down h.fuse
  rw [h.room] at h2
  refine ⟨h1, h2, ⟨rfl, rfl, rfl, h.up, h.few, h.size, ?_⟩⟩
  show s.files.length + 0 ≤ N
  have := h.few
  omega
theorem len_put {F : Fs} (h : Up F) (n b : Bs) : (fput n b F).length ≤ F.length + 1 := by
  have h1 := (size_put n b h).2
  split at h1 <;> omega
theorem Quiet.put {s : DS} {N M C : Nat} (h : Quiet s N M C) {n D : Bs} {off : Nat} (hn : named n = true) (hN : N < 4096) (ho : off = (bytesOf s.files n).length) (hM : M + D.length ≤ 4000000) :
    chgE s 1 n (off : Int) D = 0 ∧ (∀ m, fget (chgS s 1 n (off : Int) D).files m = if m = n then some (bytesOf s.files n ++ D) else fget s.files m) ∧ Quiet (chgS s 1 n (off : Int) D) (N + 1) (M + D.length) (C + 1) := by
  have hsz := h.size
  have hfw := h.few
  have hoff : off ≤ 4194304 := by
    have h1 := flen_le s.files n
    have h2 : flen s.files n = (bytesOf s.files n).length := rfl
    omega
  obtain ⟨h1, h2, h3, h4⟩ := put_ok (D := D) h.down h.fuse hn hoff (by omega) h.up ho (by rw [h.room]; omega)
  have hcnt := cnt_chg s 1 n (off : Int) D
  refine ⟨h1, fun m => by rw [h3, fget_put], ⟨?_, ?_, ?_, ?_, ?_, ?_, ?_⟩⟩
  · rw [h2]; exact h.down
  · rw [h2]; exact h.fuse
  · rw [h2]; exact h.room
  · rw [h2]; exact h.upS
  · rw [h3]; have := len_put h.up n (bytesOf s.files n ++ D); omega
  · rw [h4]; omega
  · have := h.cnt; omega
theorem Quiet.rm {s : DS} {N M C : Nat} (h : Quiet s N M C) {n : Bs} (hn : named n = true) :
    chgE s 3 n 0 [] = 0 ∧ (∀ m, fget (chgS s 3 n 0 []).files m = if m = n then none else fget s.files m) ∧ Quiet (chgS s 3 n 0 []) N M (C + 1) := by
  have hdo : doW s.files ⟨3, n, 0, []⟩ = fdel n s.files := by unfold doW; rw [if_pos rfl]
  have hsz := size_del n h.up
  have hr : Dk.refusal s 3 n 0 [] = 0 := by
    unfold Dk.refusal
    rw [if_neg (by rw [h.down]; decide), if_neg (by rw [hn]; simp), if_neg (by simp), show (0 : Int).toNat = 0 from rfl, hdo, if_neg (by omega)]
  have hb : burnt s = s := by unfold burnt; rw [if_pos h.fuse]
  have hbs : burns s = false := by unfold burns; rw [h.fuse]; rfl
  have hc : chgS s 3 n 0 [] = { s with unsure := s.unsure ++ [⟨3, n, 0, []⟩] } := by
    unfold chgS
    rw [hr, if_neg (by simp), if_neg (by rw [hbs]; decide), hb]
    rfl
  have hfl : (chgS s 3 n 0 []).files = fdel n s.files := by
    rw [hc]
    show (s.unsure ++ [_]).foldl doW s.sure = _
    rw [List.foldl_append]
    exact hdo
  have hcnt := cnt_chg s 3 n 0 []
  refine ⟨?_, fun m => by rw [hfl, fget_del], ⟨?_, ?_, ?_, ?_, ?_, ?_, ?_⟩⟩
  · unfold chgE
    rw [hr, if_neg (by simp), if_neg (by rw [hbs]; decide)]
  · rw [hc]; exact h.down
  · rw [hc]; exact h.fuse
  · rw [hc]; exact h.room
  · rw [hc]; exact h.upS
  · rw [hfl]; have := h.few; have := hsz.2; split at this <;> omega
  · rw [hfl]; have := h.size; omega
  · have := h.cnt; omega
theorem rms_ok : ∀ (ns : List Bs) {s : DS} {N M C : Nat}, Quiet s N M C → (∀ n ∈ ns, named n = true) → ∃ s', rmsN ns s = (0, s') ∧ Quiet s' N M (C + ns.length) ∧ ∀ m, fget s'.files m = if m ∈ ns then none else fget s.files m
  | [], s, N, M, C, h, _ => ⟨s, rfl, h, fun m => by simp⟩
  | n :: ns, s, N, M, C, h, hn => by
    obtain ⟨h1, h2, h3⟩ := h.rm (hn n (by simp))
    obtain ⟨s', e, hq, hf⟩ := rms_ok ns h3 (fun x hx => hn x (by simp [hx]))
    refine ⟨s', ?_, ?_, fun m => ?_⟩
    · show (if chgE s 3 n 0 [] = 0 then rmsN ns (chgS s 3 n 0 []) else _) = _
      rw [if_pos h1, e]
    · rw [List.length_cons, show C + (ns.length + 1) = C + 1 + ns.length by omega]; exact hq
    · rw [hf m, h2 m]
      by_cases hm : m ∈ ns
      · rw [if_pos hm, if_pos (by simp [hm])]
      · rw [if_neg hm]
        by_cases hmn : m = n
        · rw [if_pos hmn, if_pos (by simp [hmn])]
        · rw [if_neg hmn, if_neg (by simp [hm, hmn])]
/-- Segments are removed. -/
theorem remX_ok (l : List Seg) {s : DS} {N M C : Nat} (h : Quiet s N M C) (hn : ∀ x ∈ l, named x.name = true) : ∃ s', remX l s = (0, s') ∧ Quiet s' N M (C + N) ∧ ∀ m, fget s'.files m = if m ∈ l.map Seg.name then none else fget s.files m := by
  unfold remX
  by_cases hl : l = []
  · subst hl
    exact ⟨s, by rw [if_pos rfl], ⟨h.down, h.fuse, h.room, h.upS, h.few, h.size, by have := h.cnt; omega⟩, fun m => by simp⟩
  · obtain ⟨s', e, hq, hf⟩ := rms_ok (l.map Seg.name) h (fun n hx => by obtain ⟨x, hx1, rfl⟩ := List.mem_map.1 hx; exact hn x hx1)
    obtain ⟨h1, h2, h3⟩ := hq.syncd
    refine ⟨calmS s'.files 4000000, ?_, ⟨h3.down, h3.fuse, h3.room, h3.upS, h3.few, h3.size, by have := h3.cnt; omega⟩, hf⟩
    rw [if_neg hl, e]
    unfold synN
    rw [if_pos rfl, h1, h2]
/-- A file is cut. -/
theorem Quiet.cut {s : DS} {N M C : Nat} (h : Quiet s N M C) {n b : Bs} {off : Nat} (hn : named n = true) (hb0 : fget s.files n = some b) (ho : off ≤ b.length) (hM : M ≤ 4000000) :
    chgE s 2 n (off : Int) [] = 0 ∧ (∀ m, fget (chgS s 2 n (off : Int) []).files m = if m = n then some (b.take off) else fget s.files m) ∧ Quiet (chgS s 2 n (off : Int) []) (N + 1) M (C + 1) := by
  have hby : bytesOf s.files n = b := by unfold bytesOf; rw [hb0]; rfl
  have hcb : cutB b off = b.take off := by unfold cutB padTo; rw [show off - b.length = 0 by omega]; simp
  have hdo : doW s.files ⟨2, n, off, []⟩ = fput n (b.take off) s.files := by
    unfold doW
    rw [if_neg (fun e => absurd (show (2 : Nat) = 3 from e) (by decide)), if_pos rfl]
    show fput n (cutB (bytesOf s.files n) off) s.files = _
    rw [hby, hcb]
  have hsz := (size_put n (b.take off) h.up).1
  have hfl0 : flen s.files n = b.length := by unfold flen; rw [hb0]; rfl
  rw [List.length_take, hfl0] at hsz
  have hle : b.length ≤ fsize s.files := by have := flen_le s.files n; omega
  have hth : fthere s.files n = true := by unfold fthere; rw [hb0]; rfl
  have hr : Dk.refusal s 2 n (off : Int) [] = 0 := by
    unfold Dk.refusal
    rw [if_neg (by rw [h.down]; decide), if_neg (by rw [hn]; simp; have := h.size; omega), if_neg (by rw [hth]; simp), Int.toNat_natCast, hdo, if_neg (by omega)]
  have hb : burnt s = s := by unfold burnt; rw [if_pos h.fuse]
  have hbs : burns s = false := by unfold burns; rw [h.fuse]; rfl
  have hc : chgS s 2 n (off : Int) [] = { s with unsure := s.unsure ++ [⟨2, n, off, []⟩] } := by
    unfold chgS
    rw [hr, if_neg (by simp), if_neg (by rw [hbs]; decide), hb, Int.toNat_natCast]
  have hfl : (chgS s 2 n (off : Int) []).files = fput n (b.take off) s.files := by
    rw [hc]
    show (s.unsure ++ [_]).foldl doW s.sure = _
    rw [List.foldl_append]
    exact hdo
  have hcnt := cnt_chg s 2 n (off : Int) []
  refine ⟨?_, fun m => by rw [hfl, fget_put], ⟨?_, ?_, ?_, ?_, ?_, ?_, ?_⟩⟩
  · unfold chgE
    rw [hr, if_neg (by simp), if_neg (by rw [hbs]; decide)]
  · rw [hc]; exact h.down
  · rw [hc]; exact h.fuse
  · rw [hc]; exact h.room
  · rw [hc]; exact h.upS
  · rw [hfl]; have := len_put h.up n (b.take off); have := h.few; omega
  · rw [hfl]; have := h.size; omega
  · have := h.cnt; omega
end Go.Proofs.YtnjifhbooikdbaaGreatDoor.Wa

/-! What one more record, a new beginning and a cut make of a log of pieces and of its files. No walk. -/
namespace Go.Proofs.YtnjifhbooikdbaaGreatDoor.Wa
open Go.RowKit Go.Maps By Mp Dk

/-- One more piece, or a piece that is longer, at the end. -/
theorem put_step {f : Nat} {Q : List (List Bs)} {x : List Bs} {old D : Bs} {s : DS} {N M C : Nat} (hne : ∀ (i : Nat) (p : List Bs), Q[i]? = some p → p ≠ []) (h : Quiet s N M C) (hFQ : Files f Q s.files)
    (hO : ∀ n b, fget s.files n = some b → n ≠ nm (decide (Q.length = 0)) (f + tot Q) → ∃ k, k < Q.length ∧ n = nm (decide (k = 0)) (f + tot (Q.take k)))
    (hold : bytesOf s.files (nm (decide (Q.length = 0)) (f + tot Q)) = old) (hx : framesB x = old ++ D) (hN : N < 4096) (hM : M + D.length ≤ 4000000) (hf : f + tot Q < 18446744073709551616) :
    chgE s 1 (nm (decide (Q.length = 0)) (f + tot Q)) (old.length : Int) D = 0 ∧ Quiet (chgS s 1 (nm (decide (Q.length = 0)) (f + tot Q)) (old.length : Int) D) (N + 1) (M + D.length) (C + 1) ∧
    Files f (Q ++ [x]) (chgS s 1 (nm (decide (Q.length = 0)) (f + tot Q)) (old.length : Int) D).files ∧ Only f (Q ++ [x]) (chgS s 1 (nm (decide (Q.length = 0)) (f + tot Q)) (old.length : Int) D).files := by
  obtain ⟨h1, h2, h3⟩ := h.put (D := D) (off := old.length) (nm_named (b := decide (Q.length = 0)) hf) hN (by rw [hold]) hM
  rw [hold] at h2
  have hall : ∀ p ∈ Q, p ≠ [] := fun p hp => by
    obtain ⟨i, hi, rfl⟩ := List.getElem_of_mem hp
    exact hne i _ (List.getElem?_eq_getElem hi)
  have hat : ∀ k, k < Q.length → (Q ++ [x]).take k = Q.take k := fun k hk => by rw [List.take_append_of_le_length (by omega)]
  have hatl : (Q ++ [x]).take Q.length = Q := by rw [List.take_append_of_le_length (by omega), List.take_length]
  refine ⟨h1, h3, fun k p hp => ?_, fun n b hb => ?_⟩
  · by_cases hk : k < Q.length
    · rw [List.getElem?_append_left hk] at hp
      rw [hat k hk, h2, if_neg (fun e => ?_)]
      · exact hFQ k p hp
      · have := (nm_inj e).2
        have := tot_take_lt hall hk (Nat.le_refl _)
        rw [List.take_length] at this
        omega
    · have hkl : k = Q.length := by
        have := (List.getElem?_eq_some_iff.1 hp).1
        simp at this
        omega
      subst hkl
      rw [List.getElem?_append_right (Nat.le_refl _)] at hp
      simp at hp
      subst hp
      rw [hatl, h2, if_pos rfl, hx]
  · rw [h2] at hb
    by_cases hn : n = nm (decide (Q.length = 0)) (f + tot Q)
    · exact ⟨Q.length, by simp, by rw [hatl]; exact hn⟩
    · rw [if_neg hn] at hb
      obtain ⟨k, hk, e⟩ := hO n b hb hn
      exact ⟨k, by simp; omega, by rw [hat k hk]; exact e⟩
theorem framesB_one (r : Bs) : (framesB [r]).length = r.length + 8 := by
  rw [framesB_len]; simp
structure Good (P : List (List Bs)) : Prop where
  ne : ∀ (i : Nat) (p : List Bs), P[i]? = some p → p ≠ []
  size : ∀ p ∈ P, (framesB p).length ≤ 1031
/-- One record more. -/
theorem app_step {P : List (List Bs)} {r : Bs} {s : DS} {N M C : Nat} (hg : Good P) (h : Quiet s N M C) (hF : Files 1 P s.files) (hO : Only 1 P s.files) (hr : r.length ≤ 512) (hN : N < 4096) (hM : M + 520 ≤ 4000000) (hP : P.length < 1024) (ht : tot P ≤ 80) :
    ∃ P' : List (List Bs), P'.flatten = P.flatten ++ [r] ∧ P'.length ≤ P.length + 1 ∧ Good P' ∧ P' ≠ [] ∧ (P = [] → segs true 1 P' = [⟨0, 1, true, endsOf 0 [r]⟩]) ∧ (P ≠ [] → appL (segs true 1 P) [r] = segs true 1 P') ∧
      (lastS (segs true 1 P)).2.next + 1 < 18446744073709551616 ∧ (lastS (segs true 1 P)).2.size ≤ 1031 ∧ (lastS (segs true 1 P)).2.ends.length ≤ 80 ∧
      chgE s 1 (lastS (segs true 1 P)).2.name ((lastS (segs true 1 P)).2.size : Int) (framesB [r]) = 0 ∧ Quiet (chgS s 1 (lastS (segs true 1 P)).2.name ((lastS (segs true 1 P)).2.size : Int) (framesB [r])) (N + 1) (M + 520) (C + 1) ∧
      Files 1 P' (chgS s 1 (lastS (segs true 1 P)).2.name ((lastS (segs true 1 P)).2.size : Int) (framesB [r])).files ∧ Only 1 P' (chgS s 1 (lastS (segs true 1 P)).2.name ((lastS (segs true 1 P)).2.size : Int) (framesB [r])).files := by
  have hfr := framesB_one r
  have wide : ∀ {s : DS}, Quiet s (N + 1) (M + (framesB [r]).length) (C + 1) → Quiet s (N + 1) (M + 520) (C + 1) := fun q => ⟨q.down, q.fuse, q.room, q.upS, q.few, by have := q.size; omega, q.cnt⟩
  by_cases hP0 : P = []
  · subst hP0
    have hl : lastS (segs true 1 []) = (0, seg0) := rfl
    have hs0 : seg0.size = 0 := rfl
    rw [hl]
    dsimp only
    rw [hs0]
    have hn : seg0.name = nm (decide (([] : List (List Bs)).length = 0)) (1 + tot []) := rfl
    have hb0 : bytesOf s.files (nm (decide (([] : List (List Bs)).length = 0)) (1 + tot [])) = [] := by
      unfold bytesOf
      cases hg0 : fget s.files (nm (decide (([] : List (List Bs)).length = 0)) (1 + tot [])) with
      | none => rfl
      | some b => obtain ⟨k, hk, _⟩ := hO _ _ hg0; simp at hk
    obtain ⟨h1, h2, h3, h4⟩ := put_step (f := 1) (Q := []) (x := [r]) (D := framesB [r]) (fun i p hi => by simp at hi) h hF (fun n b hb _ => hO n b hb) hb0 rfl hN (by omega) (by decide)
    rw [hn]
    refine ⟨[[r]], by simp, by simp, ⟨fun i p hi => ?_, fun p hp => ?_⟩, by simp, fun _ => rfl, fun e => absurd rfl e, by decide, by decide, by decide, h1, wide h2, h3, h4⟩
    · cases i with
      | zero => simp at hi; subst hi; simp
      | succ i => simp at hi
    · simp at hp; subst hp; omega
  · obtain ⟨P0, p, rfl⟩ : ∃ P0 p, P = P0 ++ [p] := ⟨P.dropLast, P.getLast hP0, (List.dropLast_concat_getLast hP0).symm⟩
    clear hP0
    have hlen : (segs true 1 (P0 ++ [p])).length = P0.length + 1 := by rw [segs_len]; simp
    have hpl : (P0 ++ [p])[P0.length]? = some p := by simp
    have hget := segs_get true 1 hpl
    have htk : (P0 ++ [p]).take P0.length = P0 := by simp
    rw [htk] at hget
    have hgl : (segs true 1 (P0 ++ [p]))[P0.length]'(by omega) = ⟨0, 1 + tot P0, true && decide (P0.length = 0), endsOf 0 p⟩ := by
      have := List.getElem?_eq_getElem (l := segs true 1 (P0 ++ [p])) (i := P0.length) (by omega)
      rw [hget] at this
      exact (Option.some.inj this).symm
    have hla := lastS_at (l := segs true 1 (P0 ++ [p])) (k := P0.length) (by omega) (by omega)
    rw [hgl, seg_size, hlen] at hla
    have hps := hg.size p (by simp)
    have htot : tot (P0 ++ [p]) = tot P0 + p.length := by rw [tot_app]; simp [tot]
    have hne0 : ∀ (i : Nat) (q : List Bs), P0[i]? = some q → q ≠ [] := fun i q hi => hg.ne i q (by rw [List.getElem?_append_left (List.getElem?_eq_some_iff.1 hi).1]; exact hi)
    by_cases hsm : (framesB p).length < 512
    · rw [if_pos (.inl hsm)] at hla
      rw [hla]
      dsimp only
      have hszz : (⟨0, 1 + tot P0, true && decide (P0.length = 0), endsOf 0 p⟩ : Seg).size = (framesB p).length := seg_size _ _ _
      have hnm : (⟨0, 1 + tot P0, true && decide (P0.length = 0), endsOf 0 p⟩ : Seg).name = nm (decide (P0.length = 0)) (1 + tot P0) := by rw [nm_eq, Bool.true_and]
      rw [hszz, hnm]
      have hfg := hF P0.length p hpl
      rw [htk] at hfg
      have hFQ : Files 1 P0 s.files := fun k q hq => by
        have hk := (List.getElem?_eq_some_iff.1 hq).1
        have := hF k q (by rw [List.getElem?_append_left hk]; exact hq)
        rwa [List.take_append_of_le_length (by omega)] at this
      have hOQ : ∀ n b, fget s.files n = some b → n ≠ nm (decide (P0.length = 0)) (1 + tot P0) → ∃ k, k < P0.length ∧ n = nm (decide (k = 0)) (1 + tot (P0.take k)) := fun n b hb hn => by
        obtain ⟨k, hk, e⟩ := hO n b hb
        by_cases hkl : k < P0.length
        · refine ⟨k, hkl, ?_⟩
          rwa [List.take_append_of_le_length (by omega)] at e
        · exfalso
          have : k = P0.length := by simp at hk; omega
          subst this
          rw [htk] at e
          exact hn e
      obtain ⟨h1, h2, h3, h4⟩ := put_step (f := 1) (Q := P0) (x := p ++ [r]) (old := framesB p) (D := framesB [r]) hne0 h hFQ hOQ (by unfold bytesOf; rw [hfg]; rfl) (framesB_app _ _) hN (by omega) (by omega)
      refine ⟨P0 ++ [p ++ [r]], by simp, by simp, ⟨fun i q hi => ?_, fun q hq => ?_⟩, by simp, fun e => by simp at e, fun _ => ?_, ?_, by omega, ?_, h1, wide h2, h3, h4⟩
      · by_cases hk : i < P0.length
        · rw [List.getElem?_append_left hk] at hi; exact hne0 i q hi
        · rw [List.getElem?_append_right (by omega)] at hi
          rcases hik : i - P0.length with _ | m
          · rw [hik] at hi; simp at hi; subst hi; simp
          · rw [hik] at hi; simp at hi
      · rcases List.mem_append.1 hq with hq | hq
        · exact hg.size q (List.mem_append_left _ hq)
        · simp at hq
          subst hq
          rw [framesB_app, List.length_append]
          omega
      · unfold appL
        rw [hla]
        dsimp only
        have e := endsOf_app 0 p [r]
        rw [Nat.zero_add] at e
        have e2 : segs (true && P0.isEmpty) (1 + tot P0) [p ++ [r]] = [⟨0, 1 + tot P0, true && P0.isEmpty, endsOf 0 (p ++ [r])⟩] := rfl
        have e3 : decide (P0.length = 0) = P0.isEmpty := by cases P0 <;> simp
        rw [hszz, segs_take, htk, segs_app, e2, e, e3]
      · show 1 + tot P0 + (endsOf 0 p).length + 1 < _
        rw [endsOf_length]
        omega
      · show (endsOf 0 p).length ≤ 80
        rw [endsOf_length]; omega
    · rw [if_neg (by simp at hP; omega)] at hla
      rw [hla]
      dsimp only
      have hnx : (⟨0, 1 + tot P0, true && decide (P0.length = 0), endsOf 0 p⟩ : Seg).next = 1 + tot (P0 ++ [p]) := by
        show 1 + tot P0 + (endsOf 0 p).length = _
        rw [endsOf_length]; omega
      rw [hnx]
      have hszz : (⟨0, 1 + tot (P0 ++ [p]), false, []⟩ : Seg).size = 0 := seg_size _ _ []
      have hnm : (⟨0, 1 + tot (P0 ++ [p]), false, []⟩ : Seg).name = nm (decide ((P0 ++ [p]).length = 0)) (1 + tot (P0 ++ [p])) := by
        rw [decide_eq_false (by simp)]; rfl
      rw [hszz, hnm]
      have hall : ∀ q ∈ P0 ++ [p], q ≠ [] := fun q hq => by
        obtain ⟨i, hi, rfl⟩ := List.getElem_of_mem hq
        exact hg.ne i _ (List.getElem?_eq_getElem hi)
      have hb0 : bytesOf s.files (nm (decide ((P0 ++ [p]).length = 0)) (1 + tot (P0 ++ [p]))) = [] := by
        unfold bytesOf
        cases hg0 : fget s.files (nm (decide ((P0 ++ [p]).length = 0)) (1 + tot (P0 ++ [p]))) with
        | none => rfl
        | some b =>
          exfalso
          obtain ⟨k, hk, e⟩ := hO _ _ hg0
          have e2 := (nm_inj e).2
          have := tot_take_lt hall hk (Nat.le_refl _)
          rw [List.take_length] at this
          omega
      obtain ⟨h1, h2, h3, h4⟩ := put_step (f := 1) (Q := P0 ++ [p]) (x := [r]) (D := framesB [r]) hg.ne h hF (fun n b hb _ => hO n b hb) hb0 rfl hN (by omega) (by omega)
      refine ⟨P0 ++ [p] ++ [[r]], by simp, by simp, ⟨fun i q hi => ?_, fun q hq => ?_⟩, by simp, fun e => by simp at e, fun _ => ?_, ?_, by omega, by simp, h1, wide h2, h3, h4⟩
      · by_cases hk : i < (P0 ++ [p]).length
        · rw [List.getElem?_append_left hk] at hi; exact hg.ne i q hi
        · rw [List.getElem?_append_right (by omega)] at hi
          rcases hik : i - (P0 ++ [p]).length with _ | m
          · rw [hik] at hi; simp at hi; subst hi; simp
          · rw [hik] at hi; simp at hi
      · rcases List.mem_append.1 hq with hq | hq
        · exact hg.size q hq
        · simp at hq
          subst hq
          omega
      · unfold appL
        rw [hla]
        dsimp only
        have e2 : segs (true && (P0 ++ [p]).isEmpty) (1 + tot (P0 ++ [p])) [[r]] = [⟨0, 1 + tot (P0 ++ [p]), true && (P0 ++ [p]).isEmpty, endsOf 0 [r]⟩] := rfl
        have e3 : (P0 ++ [p]).isEmpty = false := by cases P0 <;> simp
        rw [hnx, hszz, List.take_of_length_le (by omega), segs_app true 1 (P0 ++ [p]), e2, e3]
        rfl
      · show 1 + tot (P0 ++ [p]) + 0 + 1 < _
        omega
/-- Names of a log's files are unlike. -/
theorem names_ne {f : Nat} {P : List (List Bs)} (hne : ∀ (i : Nat) (p : List Bs), P[i]? = some p → 0 < i → p ≠ []) {a b : Nat} (h : a < b) (hb : b < P.length) : nm (decide (a = 0)) (f + tot (P.take a)) ≠ nm (decide (b = 0)) (f + tot (P.take b)) := fun e => by
  obtain ⟨e1, e2⟩ := nm_inj e
  by_cases ha : a = 0
  · rw [decide_eq_true ha, decide_eq_false (show ¬ b = 0 by omega)] at e1; cases e1
  · have hal : a < P.length := by omega
    have h1 := tot_take_succ (List.getElem?_eq_getElem hal)
    have h2 := tot_take_mono P (show a + 1 ≤ b by omega)
    have h3 : 0 < P[a].length := List.length_pos_iff.2 (hne a _ (List.getElem?_eq_getElem hal) (by omega))
    omega
theorem seg_mem {b : Bool} {f : Nat} {P : List (List Bs)} {n : Bs} (h : n ∈ (segs b f P).map Seg.name) : ∃ k, k < P.length ∧ n = nm (b && decide (k = 0)) (f + tot (P.take k)) := by
  obtain ⟨x, hx, rfl⟩ := List.mem_map.1 h
  obtain ⟨k, hk, he⟩ := List.getElem_of_mem hx
  rw [segs_len] at hk
  have hg := segs_get b f (List.getElem?_eq_getElem hk)
  have h2 := List.getElem?_eq_getElem (l := segs b f P) (i := k) (by rw [segs_len]; exact hk)
  rw [he, hg] at h2
  have h3 := Option.some.inj h2
  exact ⟨k, hk, by rw [← h3]; exact nm_eq _ _ _⟩
theorem segs_names {b : Bool} {f : Nat} {P : List (List Bs)} (hf : f + tot P < 18446744073709551616) : ∀ x ∈ segs b f P, named x.name = true := fun x hx => by
  obtain ⟨k, hk, e⟩ := seg_mem (List.mem_map.2 ⟨x, hx, rfl⟩)
  rw [e]
  exact nm_named (by have := tot_take_le P k; omega)
/-- A new beginning: the log begins at piece k, all ahead of it goes. -/
theorem beg_step {P : List (List Bs)} {s : DS} {N M C k : Nat} (hg : Good P) (h : Quiet s N M C) (hF : Files 1 P s.files) (hO : Only 1 P s.files) (hN : N < 4096) (hM : M ≤ 4000000) (hk : 1 ≤ k) (hkP : k ≤ P.length) (ht : tot P ≤ 80) :
    chgE s 1 (nm true (1 + tot (P.take k))) 0 [] = 0 ∧ (chgS s 1 (nm true (1 + tot (P.take k))) 0 []).cnt ≤ s.cnt + 1 ∧ ∃ s2 s3, synE (chgS s 1 (nm true (1 + tot (P.take k))) 0 []) = 0 ∧ synS (chgS s 1 (nm true (1 + tot (P.take k))) 0 []) = s2 ∧ s2.cnt ≤ (chgS s 1 (nm true (1 + tot (P.take k))) 0 []).cnt ∧
      remX ((segs true 1 P).take k) s2 = (0, s3) ∧ Quiet s3 (N + 1) M (N + 1 + (N + 1)) ∧ Files (1 + tot (P.take k)) ([] :: P.drop k) s3.files := by
  have hall : ∀ q ∈ P, q ≠ [] := fun q hq => by
    obtain ⟨i, hi, rfl⟩ := List.getElem_of_mem hq
    exact hg.ne i _ (List.getElem?_eq_getElem hi)
  have htk := tot_take_le P k
  have hb0 : bytesOf s.files (nm true (1 + tot (P.take k))) = [] := by
    unfold bytesOf
    cases hg0 : fget s.files (nm true (1 + tot (P.take k))) with
    | none => rfl
    | some b =>
      exfalso
      obtain ⟨j, hj, e⟩ := hO _ _ hg0
      obtain ⟨e1, e2⟩ := nm_inj e
      have hj0 : j = 0 := by simpa using e1.symm
      subst hj0
      have := tot_take_lt hall (show 0 < k by omega) hkP
      omega
  obtain ⟨h1, h2, h3⟩ := h.put (n := nm true (1 + tot (P.take k))) (D := []) (off := 0) (nm_named (by omega)) hN (by rw [hb0]; rfl) (by simp; omega)
  rw [hb0] at h2
  rw [show ((0 : Nat) : Int) = 0 from rfl] at h1 h2 h3
  generalize hs1 : chgS s 1 (nm true (1 + tot (P.take k))) 0 [] = s1 at *
  obtain ⟨h4, h5, h6⟩ := h3.syncd
  obtain ⟨s3, h7, h8, h9⟩ := remX_ok ((segs true 1 P).take k) h6 (by rw [segs_take]; exact segs_names (by omega))
  refine ⟨h1, by rw [← hs1]; exact cnt_chg _ _ _ _ _, calmS s1.files 4000000, s3, h4, h5, ?_, h7, ⟨h8.down, h8.fuse, h8.room, h8.upS, h8.few, by have := h8.size; simpa using this, h8.cnt⟩, fun j p hp => ?_⟩
  · have := h3.flenC
    show s1.files.length + 0 ≤ _
    omega
  · have hrem : ∀ b' f', (∀ i, i < k → nm (decide (i = 0)) (1 + tot (P.take i)) ≠ nm b' f') → nm b' f' ∉ ((segs true 1 P).take k).map Seg.name := fun b' f' hi hm => by
      rw [segs_take] at hm
      obtain ⟨i, hil, e⟩ := seg_mem hm
      have hik : i < k := by simp at hil; omega
      rw [Bool.true_and, List.take_take, Nat.min_eq_left (by omega)] at e
      exact hi i hik e.symm
    rw [show (calmS s1.files 4000000).files = s1.files from rfl] at h9
    rw [h9]
    cases j with
    | zero =>
      simp only [List.getElem?_cons_zero, Option.some.injEq] at hp
      subst hp
      rw [if_neg (hrem _ _ (fun i hi e => ?_))]
      · show fget s1.files (nm true (1 + tot (P.take k) + tot [])) = _
        rw [show tot [] = 0 from rfl, Nat.add_zero, h2, if_pos rfl]
        rfl
      · have := (nm_inj e).2
        have := tot_take_lt hall hi hkP
        rw [show tot (([] :: P.drop k).take 0) = 0 from rfl] at *
        omega
    | succ j =>
      simp only [List.getElem?_cons_succ, List.getElem?_drop] at hp
      have hkj := (List.getElem?_eq_some_iff.1 hp).1
      have e1 : 1 + tot (P.take k) + tot (([] :: P.drop k).take (j + 1)) = 1 + tot (P.take (k + j)) := by
        rw [List.take_succ_cons, tot_cons, List.length_nil, List.take_add, tot_app]
        omega
      rw [e1, decide_eq_false (show ¬ j + 1 = 0 by omega)]
      have hn0 : nm false (1 + tot (P.take (k + j))) ≠ nm true (1 + tot (P.take k)) := fun e => by cases (nm_inj e).1
      rw [if_neg (hrem _ _ (fun i hi e => ?_)), h2, if_neg hn0]
      · have := hF (k + j) p hp
        rwa [decide_eq_false (show ¬ k + j = 0 by omega)] at this
      · have := (nm_inj e).2
        have := tot_take_lt hall (show i < k + j by omega) (by omega)
        omega
/-- The log is cut within piece k. -/
theorem cut_step {f : Nat} {P : List (List Bs)} {p : List Bs} {s : DS} {N M C k j : Nat} (hne : ∀ (i : Nat) (p : List Bs), P[i]? = some p → 0 < i → p ≠ []) (h : Quiet s N M C) (hF : Files f P s.files) (hM : M ≤ 4000000) (hp : P[k]? = some p) (hf : f + tot P < 18446744073709551616) :
    chgE s 2 (nm (decide (k = 0)) (f + tot (P.take k))) ((framesB (p.take j)).length : Int) [] = 0 ∧ (chgS s 2 (nm (decide (k = 0)) (f + tot (P.take k))) ((framesB (p.take j)).length : Int) []).cnt ≤ s.cnt + 1 ∧
    ∃ s2 s3, synE (chgS s 2 (nm (decide (k = 0)) (f + tot (P.take k))) ((framesB (p.take j)).length : Int) []) = 0 ∧ synS (chgS s 2 (nm (decide (k = 0)) (f + tot (P.take k))) ((framesB (p.take j)).length : Int) []) = s2 ∧ s2.cnt ≤ (chgS s 2 (nm (decide (k = 0)) (f + tot (P.take k))) ((framesB (p.take j)).length : Int) []).cnt ∧
      remX ((segs true f P).drop (k + 1)) s2 = (0, s3) ∧ Quiet s3 (N + 1) M (N + 1 + (N + 1)) ∧ Files f (P.take k ++ [p.take j]) s3.files := by
  have hk := (List.getElem?_eq_some_iff.1 hp).1
  have htk := tot_take_le P k
  have htk1 := tot_take_le P (k + 1)
  obtain ⟨h1, h2, h3⟩ := h.cut (nm_named (b := decide (k = 0)) (f := f + tot (P.take k)) (by omega)) (hF k p hp) (framesB_le (l := p) j) hM
  have hcutB : (framesB p).take (framesB (p.take j)).length = framesB (p.take j) := by
    have e : framesB p = framesB (p.take j) ++ framesB (p.drop j) := by rw [← framesB_app, List.take_append_drop]
    rw [e, List.take_left']
    rfl
  rw [hcutB] at h2
  generalize hs1 : chgS s 2 (nm (decide (k = 0)) (f + tot (P.take k))) ((framesB (p.take j)).length : Int) [] = s1 at *
  obtain ⟨h4, h5, h6⟩ := h3.syncd
  have hnd : ∀ x ∈ (segs true f P).drop (k + 1), named x.name = true := fun x hx => segs_names hf x (List.mem_of_mem_drop hx)
  obtain ⟨s3, h7, h8, h9⟩ := remX_ok ((segs true f P).drop (k + 1)) h6 hnd
  refine ⟨h1, by rw [← hs1]; exact cnt_chg _ _ _ _ _, calmS s1.files 4000000, s3, h4, h5, ?_, h7, h8, fun i q hq => ?_⟩
  · have := h3.flenC
    show s1.files.length + 0 ≤ _
    omega
  · have hrem : ∀ i, i ≤ k → nm (decide (i = 0)) (f + tot (P.take i)) ∉ ((segs true f P).drop (k + 1)).map Seg.name := fun i hi hm => by
      rw [segs_drop] at hm
      obtain ⟨m, hml, e⟩ := seg_mem hm
      rw [decide_eq_false (show ¬ k + 1 = 0 by omega), Bool.and_false, Bool.false_and] at e
      have hml' : k + 1 + m < P.length := by simp at hml; omega
      have e2 : f + tot (P.take (k + 1)) + tot ((P.drop (k + 1)).take m) = f + tot (P.take (k + 1 + m)) := by rw [show P.take (k + 1 + m) = P.take (k + 1) ++ (P.drop (k + 1)).take m from List.take_add, tot_app]; omega
      rw [e2] at e
      have := names_ne (f := f) hne (show i < k + 1 + m by omega) hml'
      rw [decide_eq_false (show ¬ k + 1 + m = 0 by omega)] at this
      exact this e
    rw [show (calmS s1.files 4000000).files = s1.files from rfl] at h9
    rw [h9]
    by_cases hik : i < k
    · rw [List.getElem?_append_left (by simp; omega), List.getElem?_take, if_pos hik] at hq
      have e : (P.take k ++ [p.take j]).take i = P.take i := by
        rw [List.take_append_of_le_length (by simp; omega), List.take_take, Nat.min_eq_left (by omega)]
      rw [e, if_neg (hrem i (by omega)), h2, if_neg (names_ne hne hik hk)]
      exact hF i q hq
    · have hlt : (P.take k).length = k := by simp; omega
      have hie : i = k := by
        have := (List.getElem?_eq_some_iff.1 hq).1
        simp at this
        omega
      subst hie
      rw [List.getElem?_append_right (by omega), hlt, Nat.sub_self] at hq
      simp at hq
      subst hq
      have e : (P.take i ++ [p.take j]).take i = P.take i := by rw [List.take_append_of_le_length (by omega), List.take_take, Nat.min_self]
      rw [e, if_neg (hrem i (Nat.le_refl _)), h2, if_pos rfl]
end Go.Proofs.YtnjifhbooikdbaaGreatDoor.Wa
