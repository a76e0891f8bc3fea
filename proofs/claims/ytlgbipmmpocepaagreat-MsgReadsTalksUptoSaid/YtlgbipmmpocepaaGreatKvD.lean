/- SameShot, the reference's ToConf, reads; what the one reads the other reads, of each kind. Written by gensame3.py. -/
import Derived.Test.YtlgbipmmpocepaaGreatKvC
import Derived.Test.YtlgbipmmpocepaaGreatKrB
import Derived.Test.YtlgbipmmpocepaaGreatKuA
namespace Go.Proofs.YtlgbipmmpocepaaGreat.Kd
open Go.RowKit By CoP Co Mo

theorem same_entS {xs ys : List Value} {d : Data} (w : World) (h : entryK.rep w (Old w) xs d) (k : entryK.rep w (Old w) ys d) : Calls Tryz.prog 137 #[.agg xs.toArray, .agg ys.toArray] w (Says true w) := by
  have := same_ent w h k
  obtain ⟨ix, tm, kd, dl, A, c, da, _, rfl, _⟩ := entry_shape h
  rwa [sameE_refl] at this
theorem same_confS {xs ys : List Value} {d : Data} (w : World) (h : confK.rep w (Old w) xs d) (k : confK.rep w (Old w) ys d) : Calls Tryz.prog 45 #[.agg xs.toArray, .agg ys.toArray] w (Says true w) := by
  obtain ⟨A, c, l, A2, c2, l2, _, rfl, _⟩ := confK_shape h
  have := same_conf w h k
  rwa [decide_eq_true (rfl : l = l), decide_eq_true (rfl : l2 = l2)] at this
theorem reads_any (ok : Bool) (w : World) : Calls Tryz.prog 16 #[.int .i64 (if ok then 0 else 4), .bool ok] w (Says true w) := by
  cases ok with
  | true =>
    show Calls Tryz.prog 16 #[.int .i64 0, .bool true] w (Says true w)
    go_enter Tryz.func16, Tryz.ntmps16
    go_wp2
    go_ret
    exact ⟨rfl, Below.refl _ _⟩
  | false =>
    show Calls Tryz.prog 16 #[.int .i64 4, .bool false] w (Says true w)
    go_enter Tryz.func16, Tryz.ntmps16
    go_wp2
    go_ret
    exact ⟨rfl, Below.refl _ _⟩
theorem refToConf_any {A : Option Addr} {n c : Nat} {b : List UInt8} (w : World) (hn : n = b.length) (hnc : n ≤ c) (hm : n ≤ 140737488355328) (hr : Lies w w.heap.size A b) :
    Calls Tryz.prog 198 #[.slice A n c] w (RefTo confK pConfD b w) := by
  refine (toConf_any w A n c b hn hnc hm hr).mono ?_
  rintro e w' ⟨v0, v1, rfl, ho0, ho1, hb⟩
  have k0 : ∀ x ∈ (pConf (some b)).1.1, x ≤ 16 := pIdsL_le _ _
  have k1 : ∀ x ∈ (pConf (some b)).1.2, x ≤ 16 := pIdsL_le _ _
  have k2 : (pConf (some b)).1.1.length ≤ 16 := pIds_len _
  have k3 : (pConf (some b)).1.2.length ≤ 16 := pIds_len _
  obtain ⟨A0, c0, rfl, _, _⟩ := ho0.form
  obtain ⟨A1, c1, rfl, _, _⟩ := ho1.form
  refine ⟨#[_, _], ?_, ownI_conf ho0 ho1 k0 k1 k2 k3 (fun q h1 h2 => ⟨h1, h2⟩), hb⟩
  show _ = Ending.returned (.tuple #[_, .bool (pWhole (pConf (some b)).2 && confK.sound (confD (asI (pConf (some b)).1.1) (asI (pConf (some b)).1.2)))])
  rw [conf_sound]
theorem ties_conf : Ties confK pConfD (fun d => confK.sound d = true) where
  bad := by
    show (pConf none).2 = none
    simp [pConf, pIds, pInt, pNum, pIdsL_none]
  give := by
    intro r d r' e
    have e' : (confD (asI (pConf (some r)).1.1) (asI (pConf (some r)).1.2), (pConf (some r)).2) = (d, some r') := e
    injection e' with e1 e2
    obtain ⟨u, g, hr⟩ := conf_get (r := r) (vs := (pConf (some r)).1.1) (ls := (pConf (some r)).1.2) (r' := r') (by rw [← e2])
    exact ⟨u, by rw [g, e1], hr.1⟩
  take := by
    intro r d u g hs
    obtain ⟨vs, ls, hp, rfl⟩ := get_conf g hs
    show (confD (asI (pConf (some r)).1.1) (asI (pConf (some r)).1.2), (pConf (some r)).2) = _
    rw [hp]
theorem ties_entry : Ties entryK pEntryD (fun d => ∃ ds, d = .agg ds ∧ HoldAll [fun _ => True, fun _ => True, fun d => (intK 1 3).sound d = true, fun _ => True, fun _ => True] ds) := ties_rec (ks := entryF) (ps := [pNumD, pNumD, pIntD 3, pI64D, pDataD]) (qs := [fun _ => True, fun _ => True, fun d => (intK 1 3).sound d = true, fun _ => True, fun _ => True])
  ⟨ties_num _ _, ties_num _ _, ties_int (by omega) (by omega) (by omega), ties_i64 _ _, ties_bytes _, trivial⟩ entryT
theorem ties_hard : Ties hardK pHardD (fun d => ∃ ds, d = .agg ds ∧ HoldAll [fun _ => True, fun d => (intK 0 16).sound d = true] ds) := ties_rec (ks := hardF) (ps := [pNumD, pIntD 16]) (qs := [fun _ => True, fun d => (intK 0 16).sound d = true]) ⟨ties_num _ _, ties_int (by omega) (by omega) (by omega), trivial⟩ _
theorem ties_shot : Ties shotK pShotD (fun d => ∃ ds, d = .agg ds ∧ HoldAll [fun _ => True, fun _ => True, fun d => confK.sound d = true, fun _ => True] ds) := ties_rec (ks := shotF) (ps := [pNumD, pNumD, pConfD, pDataD]) (qs := [fun _ => True, fun _ => True, fun d => confK.sound d = true, fun _ => True]) ⟨ties_num _ _, ties_num _ _, ties_conf, ties_bytes _, trivial⟩ shotT
/-- The data that is read: what the bytes are of, or nothing. -/
def readD (k : Kd) (p : Rdr) (z : Data) (b : List UInt8) : Data := if (pWhole (p (some b)).2 && k.sound (p (some b)).1) = true then (p (some b)).1 else z
def readB (k : Kd) (p : Rdr) (b : List UInt8) : Bool := pWhole (p (some b)).2 && k.sound (p (some b)).1
theorem ReadsK.both {k : Kd} (hk : k.Ok) {p : Rdr} {Q : Data → Prop} (ht : Ties k p Q) (hq : ∀ {b d u}, k.get b = some (d, u) → k.sound d = true → Q d) {z : Data} (hz : ∀ (w : World) (S : Nat → Prop), k.rep w S k.zero z) {b : List UInt8} {w w' : World} {e : Ending} (h : ReadsK k b w e w') :
    ∃ vs : Array Value, e = .returned (.tuple #[.agg vs, .int .i64 (if readB k p b then 0 else 4)]) ∧ vs.size = k.zero.length ∧ vs.all (·.oneCell') = true ∧ k.rep w' (New w w') vs.toList (readD k p z b) ∧ Below w.heap.size w w' := by
  have hw := ht.whole hk hq b
  unfold readD readB
  cases hc : (pWhole (p (some b)).2 && k.sound (p (some b)).1) with
  | true =>
    obtain ⟨g1, g2⟩ := hw.1 hc
    obtain ⟨hb, ⟨d', vs, h1, _, rfl, hr⟩ | ⟨hno, _⟩⟩ := h
    · rw [g1] at h1
      injection h1 with h1
      injection h1 with h1 _
      subst h1
      refine ⟨vs, rfl, ?_, ?_, hr, hb⟩
      · have := hk.len hr
        rw [Array.length_toList] at this
        exact this
      · rw [Array.all_eq_true_iff_forall_mem]
        intro v hv
        exact hk.one hr v (by simpa using hv)
    · exact absurd ⟨g1, g2⟩ (hno _)
  | false =>
    obtain ⟨hb, ⟨d', vs, h1, h2, _⟩ | ⟨_, rfl⟩⟩ := h
    · exact absurd ⟨h1, h2⟩ (hw.2 hc d')
    · refine ⟨k.zero.toArray, rfl, by simp, ?_, hz _ _, hb⟩
      rw [Array.all_eq_true_iff_forall_mem]
      intro v hv
      exact hk.zone v (by simpa using hv)
def entryZ : Data := entryD 0 0 0 0 []
def confZ : Data := confD [] []
def shotZ : Data := shotD 0 0 [] [] []
def hardZ : Data := hardD 0 0
theorem lies0 (w : World) (S : Nat → Prop) : LiesS w S none [] := fun h => absurd h (by simp)
theorem confZ_rep (w : World) (S : Nat → Prop) : confK.rep w S confK.zero confZ :=
  ⟨_, rfl, [_], _, _, _, rfl, rfl, ⟨none, 0, [], rfl, rfl, by decide, by decide, fun h => absurd h (by simp)⟩, [_], _, _, _, rfl, rfl, ⟨none, 0, [], rfl, rfl, by decide, by decide, fun h => absurd h (by simp)⟩, rfl, rfl⟩
theorem entryZ_rep (w : World) (S : Nat → Prop) : entryK.rep w S entryK.zero entryZ := entry_rep (ix := 0) (tm := 0) (kd := 0) (dl := 0) (A := none) (c := 0) (da := []) (by decide) (by decide) (by decide) (by decide) (by decide) (by decide) (lies0 w S)
theorem shotZ_rep (w : World) (S : Nat → Prop) : shotK.rep w S shotK.zero shotZ := shot_rep (ix := 0) (tm := 0) (A3 := none) (c3 := 0) (da := []) (by decide) (by decide) (confZ_rep w S) (by decide) (by decide) (lies0 w S)
theorem hardZ_rep (w : World) (S : Nat → Prop) : hardK.rep w S hardK.zero hardZ := ⟨_, rfl, [_], _, _, _, rfl, rfl, ⟨(0 : Nat), by decide, rfl, rfl⟩, [_], _, _, _, rfl, rfl, ⟨(0 : Int), by decide, by decide, rfl, rfl⟩, rfl, rfl⟩
theorem ask_entry {b : List UInt8} {d : Data} {u : Nat} (g : entryK.get b = some (d, u)) (hs : entryK.sound d = true) : ∃ ds, d = .agg ds ∧ HoldAll [fun _ => True, fun _ => True, fun d => (intK 1 3).sound d = true, fun _ => True, fun _ => True] ds :=
  ask_rec (ks := entryF) (qs := [fun _ => True, fun _ => True, fun d => (intK 1 3).sound d = true, fun _ => True, fun _ => True]) ⟨fun _ _ => trivial, fun _ _ => trivial, fun _ h => h, fun _ _ => trivial, fun _ _ => trivial, trivial⟩ entryT g hs
theorem ask_hard {b : List UInt8} {d : Data} {u : Nat} (g : hardK.get b = some (d, u)) (hs : hardK.sound d = true) : ∃ ds, d = .agg ds ∧ HoldAll [fun _ => True, fun d => (intK 0 16).sound d = true] ds :=
  ask_rec (ks := hardF) (qs := [fun _ => True, fun d => (intK 0 16).sound d = true]) ⟨fun _ _ => trivial, fun _ h => h, trivial⟩ _ g hs
theorem ask_shot {b : List UInt8} {d : Data} {u : Nat} (g : shotK.get b = some (d, u)) (hs : shotK.sound d = true) : ∃ ds, d = .agg ds ∧ HoldAll [fun _ => True, fun _ => True, fun d => confK.sound d = true, fun _ => True] ds :=
  ask_rec (ks := shotF) (qs := [fun _ => True, fun _ => True, fun d => confK.sound d = true, fun _ => True]) ⟨fun _ _ => trivial, fun _ _ => trivial, fun _ h => h, fun _ _ => trivial, trivial⟩ shotT g hs
end Go.Proofs.YtlgbipmmpocepaaGreat.Kd
