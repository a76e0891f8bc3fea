/- SameShot, the reference's ToConf, reads; what the one reads the other reads, of each kind. Written by gensame3.py. -/
import Derived.Test.YtloieecpgndbhaaGreatKvC
import Derived.Test.YtloieecpgndbhaaGreatKrB
import Derived.Test.YtloieecpgndbhaaGreatKuA
namespace Go.Proofs.YtloieecpgndbhaaGreat.Kd
open Go.RowKit By CoP Co Mo

set_option maxHeartbeats 4000000 in
theorem sameShot_yes (w : World) (ix tm : Nat) (V L V2 L2 : Value) (D : Option Addr) (dn dc : Nat) (D2 : Option Addr) (dc2 : Nat) (da : List UInt8) (hdn : dn = da.length) (hd : Lies w w.heap.size D da) (hd2 : Lies w w.heap.size D2 da)
    (hC : ∀ w', Below w.heap.size w w' → Calls Tryz.prog 54 #[.agg #[V, L], .agg #[V2, L2]] w' (Says true w')) :
    Calls Tryz.prog 55 #[.agg #[.int .u64 (ix : Int), .int .u64 (tm : Int), V, L, .slice D dn dc], .agg #[.int .u64 (ix : Int), .int .u64 (tm : Int), V2, L2, .slice D2 dn dc2]] w (Says true w) := by
  have hb0 : Below w.heap.size w ((w.alloc (.cells #[.int .u64 (ix : Int), .int .u64 (tm : Int), V, L, .slice D dn dc] 30)).alloc (.cells #[.int .u64 (ix : Int), .int .u64 (tm : Int), V2, L2, .slice D2 dn dc2] 30)) := ((Below.refl _ _).alloc (Nat.le_refl _) _).alloc (by simp) _
  have hr1 : ((w.alloc (.cells #[.int .u64 (ix : Int), .int .u64 (tm : Int), V, L, .slice D dn dc] 30)).alloc (.cells #[.int .u64 (ix : Int), .int .u64 (tm : Int), V2, L2, .slice D2 dn dc2] 30)).heap[w.heap.size]? = some (.cells #[.int .u64 (ix : Int), .int .u64 (tm : Int), V, L, .slice D dn dc] 30 (0, 0)) := heap_alloc2_old w _ _
  have hr2 : ((w.alloc (.cells #[.int .u64 (ix : Int), .int .u64 (tm : Int), V, L, .slice D dn dc] 30)).alloc (.cells #[.int .u64 (ix : Int), .int .u64 (tm : Int), V2, L2, .slice D2 dn dc2] 30)).heap[w.heap.size + 1]? = some (.cells #[.int .u64 (ix : Int), .int .u64 (tm : Int), V2, L2, .slice D2 dn dc2] 30 (0, 0)) := heap_alloc2_new w _ _
  have HC := Lib.hid hC
  have HB0 := Lib.hid hb0
  have HD := Lib.hid (hd.below hb0)
  have HD2 := Lib.hid (hd2.below hb0)
  have HN := Lib.hid hdn
  have HR1 := Lib.hid hr1
  have HR2 := Lib.hid hr2
  clear hC hb0 hd hd2 hdn hr1 hr2
  go_enter Tryz.func55, Tryz.ntmps55
  go_wp2_with fail
  refine (HC.out _ HB0.out).mono ?_
  rintro e w2 ⟨rfl, hb2⟩
  have hr1 := (hb2.block _ (row_lt HR1.out)).trans HR1.out
  have hr2 := (hb2.block _ (row_lt HR2.out)).trans HR2.out
  have HB2 := Lib.hid (By.ext HB0.out hb2)
  have e1 : w2.cell? ⟨w.heap.size, 4, none⟩ = some (.slice D dn dc) := by rw [cell_of_row w2 _ 4 _ _ _ hr1]; rfl
  have e2 : w2.cell? ⟨w.heap.size + 1, 4, none⟩ = some (.slice D2 dn dc2) := by rw [cell_of_row w2 _ 4 _ _ _ hr2]; rfl
  have t1 := run_text w2 dc HN.out (HD.out.below (hb2.mono HB0.out.size))
  have t2 := run_text w2 dc2 HN.out (HD2.out.below (hb2.mono HB0.out.size))
  have t3 : ((str da).toList == (str da).toList) = true := beq_self_eq_true _
  clear hb2 hr1 hr2
  go_wp2
  go_ret
  exact ⟨rfl, HB2.out⟩
theorem same_shot {xs ys : List Value} {d : Data} (w : World) (h : shotK.rep w (Old w) xs d) (k : shotK.rep w (Old w) ys d) : Calls Tryz.prog 55 #[.agg xs.toArray, .agg ys.toArray] w (Says true w) := by
  obtain ⟨ix, tm, A, c, l, A2, c2, l2, A3, c3, da, rfl, e1, _, _, _, _, _, _, _, _, _, _, h5, hcf⟩ := shot_shape h
  obtain ⟨ix2, tm2, B, b, m, B2, b2, m2, B3, b3, da2, rfl, e2, _, _, _, _, _, _, _, _, _, _, k5, kcf⟩ := shot_shape k
  rw [e1] at e2
  simp only [shotD, Data.agg.injEq, List.cons.injEq, Data.lit.injEq, Lit.int.injEq, Lit.string.injEq, true_and, and_true] at e2
  obtain ⟨g1, g2, g3, g4⟩ := e2
  obtain rfl : ix = ix2 := by omega
  obtain rfl : tm = tm2 := by omega
  obtain ⟨rfl, rfl⟩ := confD_inj g3
  subst g4
  refine sameShot_yes w ix tm _ _ _ _ A3 _ c3 B3 b3 da rfl h5 k5 (fun w' hb => ?_)
  have := same_conf w' (confK_ok.below hcf hb) (confK_ok.below kcf hb)
  rwa [decide_eq_true (rfl : l = l), decide_eq_true (rfl : l2 = l2)] at this
theorem same_entS {xs ys : List Value} {d : Data} (w : World) (h : entryK.rep w (Old w) xs d) (k : entryK.rep w (Old w) ys d) : Calls Tryz.prog 53 #[.agg xs.toArray, .agg ys.toArray] w (Says true w) := by
  have := same_ent w h k
  obtain ⟨ix, tm, kd, dl, A, c, da, _, rfl, _⟩ := entry_shape h
  rwa [sameE_refl] at this
theorem same_confS {xs ys : List Value} {d : Data} (w : World) (h : confK.rep w (Old w) xs d) (k : confK.rep w (Old w) ys d) : Calls Tryz.prog 54 #[.agg xs.toArray, .agg ys.toArray] w (Says true w) := by
  obtain ⟨A, c, l, A2, c2, l2, _, rfl, _⟩ := confK_shape h
  have := same_conf w h k
  rwa [decide_eq_true (rfl : l = l), decide_eq_true (rfl : l2 = l2)] at this
theorem reads_any (ok : Bool) (w : World) : Calls Tryz.prog 52 #[.int .i64 (if ok then 0 else 4), .bool ok] w (Says true w) := by
  cases ok with
  | true =>
    show Calls Tryz.prog 52 #[.int .i64 0, .bool true] w (Says true w)
    go_enter Tryz.func52, Tryz.ntmps52
    go_wp2
    go_ret
    exact ⟨rfl, Below.refl _ _⟩
  | false =>
    show Calls Tryz.prog 52 #[.int .i64 4, .bool false] w (Says true w)
    go_enter Tryz.func52, Tryz.ntmps52
    go_wp2
    go_ret
    exact ⟨rfl, Below.refl _ _⟩
theorem refToConf_any {A : Option Addr} {n c : Nat} {b : List UInt8} (w : World) (hn : n = b.length) (hnc : n ≤ c) (hm : n ≤ 140737488355328) (hr : Lies w w.heap.size A b) :
    Calls Tryz.prog 47 #[.slice A n c] w (RefTo confK pConfD b w) := by
  refine (toConf_any w A n c b hn hnc hm hr).mono ?_
  rintro e w' ⟨v0, v1, rfl, ho0, ho1, hb⟩
  have k0 : ∀ x ∈ (pConf (some b)).1.1, x ≤ 16 := pIdsL_le _ _
  have k1 : ∀ x ∈ (pConf (some b)).1.2, x ≤ 16 := pIdsL_le _ _
  have k2 : (pConf (some b)).1.1.length ≤ 16 := pIds_len _
  have k3 : (pConf (some b)).1.2.length ≤ 16 := pIds_len _
  obtain ⟨A0, c0, rfl, _, _⟩ := ho0.form
  obtain ⟨A1, c1, rfl, _, _⟩ := ho1.form
  refine ⟨#[_, _], ?_, ownI_conf ho0 ho1 k0 k1 k2 k3 (fun q h1 h2 => ⟨h1, h2⟩), hb⟩
  show _ = Ending.returned (.tuple #[_, .bool (pWhole (pConf (some b)).2 && confK.sound (confD (asI (pConf (some b)).1.1) (asI (pConf (some b)).1.2)))])
  rw [conf_sound]
theorem ties_conf : Ties confK pConfD (fun d => confK.sound d = true) where
  bad := by
    show (pConf none).2 = none
    simp [pConf, pIds, pInt, pNum, pIdsL_none]
  give := by
    intro r d r' e
    have e' : (confD (asI (pConf (some r)).1.1) (asI (pConf (some r)).1.2), (pConf (some r)).2) = (d, some r') := e
    injection e' with e1 e2
    obtain ⟨u, g, hr⟩ := conf_get (r := r) (vs := (pConf (some r)).1.1) (ls := (pConf (some r)).1.2) (r' := r') (by rw [← e2])
    exact ⟨u, by rw [g, e1], hr.1⟩
  take := by
    intro r d u g hs
    obtain ⟨vs, ls, hp, rfl⟩ := get_conf g hs
    show (confD (asI (pConf (some r)).1.1) (asI (pConf (some r)).1.2), (pConf (some r)).2) = _
    rw [hp]
theorem ties_entry : Ties entryK pEntryD (fun d => ∃ ds, d = .agg ds ∧ HoldAll [fun _ => True, fun _ => True, fun d => (intK 1 3).sound d = true, fun _ => True, fun _ => True] ds) := ties_rec (ks := entryF) (ps := [pNumD, pNumD, pIntD 3, pI64D, pDataD]) (qs := [fun _ => True, fun _ => True, fun d => (intK 1 3).sound d = true, fun _ => True, fun _ => True])
  ⟨ties_num _ _, ties_num _ _, ties_int (by omega) (by omega) (by omega), ties_i64 _ _, ties_bytes _, trivial⟩ entryT
theorem ties_hard : Ties hardK pHardD (fun d => ∃ ds, d = .agg ds ∧ HoldAll [fun _ => True, fun d => (intK 0 16).sound d = true] ds) := ties_rec (ks := hardF) (ps := [pNumD, pIntD 16]) (qs := [fun _ => True, fun d => (intK 0 16).sound d = true]) ⟨ties_num _ _, ties_int (by omega) (by omega) (by omega), trivial⟩ _
theorem ties_shot : Ties shotK pShotD (fun d => ∃ ds, d = .agg ds ∧ HoldAll [fun _ => True, fun _ => True, fun d => confK.sound d = true, fun _ => True] ds) := ties_rec (ks := shotF) (ps := [pNumD, pNumD, pConfD, pDataD]) (qs := [fun _ => True, fun _ => True, fun d => confK.sound d = true, fun _ => True]) ⟨ties_num _ _, ties_num _ _, ties_conf, ties_bytes _, trivial⟩ shotT
/-- The data that is read: what the bytes are of, or nothing. -/
def readD (k : Kd) (p : Rdr) (z : Data) (b : List UInt8) : Data := if (pWhole (p (some b)).2 && k.sound (p (some b)).1) = true then (p (some b)).1 else z
def readB (k : Kd) (p : Rdr) (b : List UInt8) : Bool := pWhole (p (some b)).2 && k.sound (p (some b)).1
theorem ReadsK.both {k : Kd} (hk : k.Ok) {p : Rdr} {Q : Data → Prop} (ht : Ties k p Q) (hq : ∀ {b d u}, k.get b = some (d, u) → k.sound d = true → Q d) {z : Data} (hz : ∀ (w : World) (S : Nat → Prop), k.rep w S k.zero z) {b : List UInt8} {w w' : World} {e : Ending} (h : ReadsK k b w e w') :
    ∃ vs : Array Value, e = .returned (.tuple #[.agg vs, .int .i64 (if readB k p b then 0 else 4)]) ∧ vs.size = k.zero.length ∧ vs.all (·.oneCell') = true ∧ k.rep w' (New w w') vs.toList (readD k p z b) ∧ Below w.heap.size w w' := by
  have hw := ht.whole hk hq b
  unfold readD readB
  cases hc : (pWhole (p (some b)).2 && k.sound (p (some b)).1) with
  | true =>
    obtain ⟨g1, g2⟩ := hw.1 hc
    obtain ⟨hb, ⟨d', vs, h1, _, rfl, hr⟩ | ⟨hno, _⟩⟩ := h
    · rw [g1] at h1
      injection h1 with h1
      injection h1 with h1 _
      subst h1
      refine ⟨vs, rfl, ?_, ?_, hr, hb⟩
      · have := hk.len hr
        rw [Array.length_toList] at this
        exact this
      · rw [Array.all_eq_true_iff_forall_mem]
        intro v hv
        exact hk.one hr v (by simpa using hv)
    · exact absurd ⟨g1, g2⟩ (hno _)
  | false =>
    obtain ⟨hb, ⟨d', vs, h1, h2, _⟩ | ⟨_, rfl⟩⟩ := h
    · exact absurd ⟨h1, h2⟩ (hw.2 hc d')
    · refine ⟨k.zero.toArray, rfl, by simp, ?_, hz _ _, hb⟩
      rw [Array.all_eq_true_iff_forall_mem]
      intro v hv
      exact hk.zone v (by simpa using hv)
def entryZ : Data := entryD 0 0 0 0 []
def confZ : Data := confD [] []
def shotZ : Data := shotD 0 0 [] [] []
def hardZ : Data := hardD 0 0
theorem lies0 (w : World) (S : Nat → Prop) : LiesS w S none [] := fun h => absurd h (by simp)
theorem confZ_rep (w : World) (S : Nat → Prop) : confK.rep w S confK.zero confZ :=
  ⟨_, rfl, [_], _, _, _, rfl, rfl, ⟨none, 0, [], rfl, rfl, by decide, by decide, fun h => absurd h (by simp)⟩, [_], _, _, _, rfl, rfl, ⟨none, 0, [], rfl, rfl, by decide, by decide, fun h => absurd h (by simp)⟩, rfl, rfl⟩
theorem entryZ_rep (w : World) (S : Nat → Prop) : entryK.rep w S entryK.zero entryZ := entry_rep (ix := 0) (tm := 0) (kd := 0) (dl := 0) (A := none) (c := 0) (da := []) (by decide) (by decide) (by decide) (by decide) (by decide) (by decide) (lies0 w S)
theorem shotZ_rep (w : World) (S : Nat → Prop) : shotK.rep w S shotK.zero shotZ := shot_rep (ix := 0) (tm := 0) (A3 := none) (c3 := 0) (da := []) (by decide) (by decide) (confZ_rep w S) (by decide) (by decide) (lies0 w S)
theorem hardZ_rep (w : World) (S : Nat → Prop) : hardK.rep w S hardK.zero hardZ := ⟨_, rfl, [_], _, _, _, rfl, rfl, ⟨(0 : Nat), by decide, rfl, rfl⟩, [_], _, _, _, rfl, rfl, ⟨(0 : Int), by decide, by decide, rfl, rfl⟩, rfl, rfl⟩
theorem ask_entry {b : List UInt8} {d : Data} {u : Nat} (g : entryK.get b = some (d, u)) (hs : entryK.sound d = true) : ∃ ds, d = .agg ds ∧ HoldAll [fun _ => True, fun _ => True, fun d => (intK 1 3).sound d = true, fun _ => True, fun _ => True] ds :=
  ask_rec (ks := entryF) (qs := [fun _ => True, fun _ => True, fun d => (intK 1 3).sound d = true, fun _ => True, fun _ => True]) ⟨fun _ _ => trivial, fun _ _ => trivial, fun _ h => h, fun _ _ => trivial, fun _ _ => trivial, trivial⟩ entryT g hs
theorem ask_hard {b : List UInt8} {d : Data} {u : Nat} (g : hardK.get b = some (d, u)) (hs : hardK.sound d = true) : ∃ ds, d = .agg ds ∧ HoldAll [fun _ => True, fun d => (intK 0 16).sound d = true] ds :=
  ask_rec (ks := hardF) (qs := [fun _ => True, fun d => (intK 0 16).sound d = true]) ⟨fun _ _ => trivial, fun _ h => h, trivial⟩ _ g hs
theorem ask_shot {b : List UInt8} {d : Data} {u : Nat} (g : shotK.get b = some (d, u)) (hs : shotK.sound d = true) : ∃ ds, d = .agg ds ∧ HoldAll [fun _ => True, fun _ => True, fun d => confK.sound d = true, fun _ => True] ds :=
  ask_rec (ks := shotF) (qs := [fun _ => True, fun _ => True, fun d => confK.sound d = true, fun _ => True]) ⟨fun _ _ => trivial, fun _ _ => trivial, fun _ h => h, fun _ _ => trivial, trivial⟩ shotT g hs
end Go.Proofs.YtloieecpgndbhaaGreat.Kd
