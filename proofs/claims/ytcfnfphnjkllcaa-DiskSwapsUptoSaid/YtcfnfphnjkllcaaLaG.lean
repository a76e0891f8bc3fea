/- Acts that come in; the laws' grown, as a contract of a call. -/
import Derived.Test.YtcfnfphnjkllcaaEH
import Derived.Test.YtcfnfphnjkllcaaEI
namespace Go.Proofs.Ytcfnfphnjkllcaa.Dk
open Go.RowKit Go.Maps By Mp

/-- The cells of a slice of acts that begins at A hold l, and lie below block B. -/
def LiesA (w : World) (B : Nat) (A : Option Addr) (l : List A1) : Prop :=
  0 < l.length → ∃ g o, A = some ⟨g, o, none⟩ ∧ g < B ∧ ∀ k x, l[k]? = some x → ∃ p : AC, (∀ j u, (aCells x p)[j]? = some u → w.cell? ⟨g, o + k * 5 + j, none⟩ = some u) ∧ x.data.length ≤ p.2 ∧ Lies w B p.1 x.data
def ActsOk (l : List A1) : Prop := ∀ x ∈ l, ActOk x
theorem LiesA.at_ {w : World} {B : Nat} {A : Option Addr} {l : List A1} (h : LiesA w B A l) {k : Nat} (hk : k < l.length) : ∃ g o Ax cx, A = some ⟨g, o, none⟩ ∧ g < B ∧ w.cell? ⟨g, o + k * 5, none⟩ = some (.int .i64 l[k].kind) ∧ w.cell? ⟨g, o + k * 5 + 1, none⟩ = some (.string (str l[k].name)) ∧ w.cell? ⟨g, o + k * 5 + 2, none⟩ = some (.int .i64 l[k].n) ∧ w.cell? ⟨g, o + k * 5 + 3, none⟩ = some (.slice Ax l[k].data.length cx) ∧ w.cell? ⟨g, o + k * 5 + 4, none⟩ = some (.int .u64 (l[k].mask : Int)) ∧ l[k].data.length ≤ cx ∧ Lies w B Ax l[k].data := by
  obtain ⟨g, o, e, hg, hc⟩ := h (by omega)
  obtain ⟨p, h1, h2, h3⟩ := hc k _ (List.getElem?_eq_getElem hk)
  exact ⟨g, o, p.1, p.2, e, hg, h1 0 _ rfl, h1 1 _ rfl, h1 2 _ rfl, h1 3 _ rfl, h1 4 _ rfl, h2, h3⟩
theorem burnt_parts (s : DS) : (burnt s).sure = s.sure ∧ (burnt s).unsure = s.unsure := by
  unfold burnt
  split
  · exact ⟨rfl, rfl⟩
  · split <;> exact ⟨rfl, rfl⟩
theorem nmd_chg {s : DS} (h : Nmd s) (k : Nat) (nm : Bs) (off : Int) (d : Bs) : Nmd (chgS s k nm off d) := by
  obtain ⟨b1, b2⟩ := burnt_parts s
  unfold chgS
  split
  · exact h
  · rename_i hr
    have hnm : named nm = true := by
      cases hn : named nm with
      | true => rfl
      | false =>
        exfalso
        apply hr
        intro h0
        unfold refusal at h0
        split at h0
        · cases h0
        · rw [if_pos (.inl hn)] at h0
          cases h0
    split
    · exact ⟨by rw [b1]; exact h.1, by rw [b2]; exact h.2⟩
    · refine ⟨by show ∀ p ∈ (burnt s).sure, _; rw [b1]; exact h.1, fun x hx => ?_⟩
      have hx : x ∈ s.unsure ++ [⟨k, nm, off.toNat, d⟩] := hx
      rcases List.mem_append.1 hx with hx | hx
      · exact h.2 x hx
      · rw [List.mem_singleton.1 hx]; exact hnm
theorem nmd_torn {t : Int} {l : List W1} (h : ∀ x ∈ l, named x.name = true) : ∀ x ∈ torn t l, named x.name = true := by
  have hr : ∀ l : List W1, (∀ x ∈ l, named x.name = true) → ∀ x ∈ tornR t l, named x.name = true := by
    intro l
    induction l with
    | nil => intro _ x hx; cases hx
    | cons y r ih =>
      intro h x hx
      simp only [tornR] at hx
      split at hx
      · rcases List.mem_cons.1 hx with e | hx
        · rw [e]
          split
          · exact h y (by simp)
          · exact h y (by simp)
        · exact h x (by simp [hx])
      · rcases List.mem_cons.1 hx with e | hx
        · rw [e]; exact h y (by simp)
        · exact ih (fun z hz => h z (by simp [hz])) x hx
  intro x hx
  unfold torn at hx
  exact hr l.reverse (fun y hy => h y (List.mem_reverse.1 hy)) x (List.mem_reverse.1 hx)
theorem nmd_act {s : DS} (h : Nmd s) (a : A1) : Nmd (actS s a) := by
  obtain ⟨b1, b2⟩ := burnt_parts s
  unfold actS
  split
  · exact nmd_chg h _ _ _ _
  · split
    · exact nmd_chg h _ _ _ _
    · split
      · exact nmd_chg h _ _ _ _
      · split
        · unfold synS
          split
          · exact h
          · split
            · exact ⟨by rw [b1]; exact h.1, by rw [b2]; exact h.2⟩
            · exact ⟨nmd_files h, fun x hx => by cases hx⟩
        · split
          · unfold roomS
            split
            · exact h
            · exact h
          · split
            · unfold fuseS
              split
              · exact h
              · exact h
            · split
              · exact ⟨nmd_all h.1 (nmd_torn (fun x hx => h.2 x (staying_mem hx))), fun x hx => by cases hx⟩
              · exact h
theorem nmd_begin (room : Int) : Nmd (beginS room) := ⟨fun p hp => (by cases hp), fun x hx => (by cases hx)⟩
/-- A pair of the call's own. -/
def OwnP (w wr : World) (g r : Nat) (s : DS) : Prop := ∃ S T M, PairAt wr g r s S T M ∧ (∀ b, S b ∨ T b → w.heap.size ≤ b) ∧ Below w.heap.size w wr
theorem OwnP.below {w wr w' : World} {g r : Nat} {s : DS} (h : OwnP w wr g r s) (hb : Below wr.heap.size wr w') : OwnP w w' g r s := by
  obtain ⟨S, T, M, h1, h2, h3⟩ := h
  exact ⟨S, T, M, h1.below hb, h2, By.ext h3 hb⟩
theorem ownP_step {val : Value} {w wr w' : World} {g r : Nat} {s' : DS} {S T M : Nat → Prop} {e : Ending} (hm : ∀ b, M b → T b) (h2 : ∀ b, S b ∨ T b → w.heap.size ≤ b) (h3 : Below w.heap.size w wr) (h : PStep val g r s' S T M wr e w') : e = .returned val ∧ OwnP w w' g r s' := by
  obtain ⟨he, S', T', M', hp, hS, hT, _, hk⟩ := h
  have hz := h3.size
  refine ⟨he, S', T', M', hp, fun b hb => ?_, h3.trans (hk.below hz (fun b hb => h2 b (hb.imp id (hm b))))⟩
  rcases hb with hb | hb
  · rcases hS b hb with h | h
    · exact h2 b (.inl h)
    · omega
  · rcases hT b hb with h | h
    · exact h2 b (.inr h)
    · omega
/-- An act on a pair of the call's own. -/
theorem act_own (g r : Nat) (s : DS) (a : A1) (A : Option Addr) (c : Nat) (w wr : World) (h : OwnP w wr g r s) (hcnt : s.cnt ≤ 68719476736) (ha : ActOk a) (hc : a.data.length ≤ c) (hd : Lies w w.heap.size A a.data) :
    Calls Try.prog 14 #[.pointer (some ⟨g, 0, none⟩), .pointer (some ⟨r, 0, none⟩), aV a (A, c)] wr (fun e w' => e = .returned (.bool true) ∧ OwnP w w' g r (actS s a)) := by
  obtain ⟨S, T, M, h1, h2, h3⟩ := h
  have hz := h3.size
  refine (act_any g r s S T M a A c wr h1 hcnt ha hc (fun b => b < w.heap.size) (fun b hb => ⟨fun e => ?_, fun e => ?_, Nat.lt_of_lt_of_le hb hz⟩) ((LiesS.of hd).keep (fun b hb => h3.block b hb) (fun _ h => h))).mono (fun e w' hp => ownP_step h1.r.lt.2.1 h2 h3 hp)
  · exact Nat.not_lt_of_le (h2 b (.inl e)) hb
  · exact Nat.not_lt_of_le (h2 b (.inr e)) hb
theorem alike_own (g r : Nat) (s : DS) (w wr : World) (h : OwnP w wr g r s) (hcnt : s.cnt ≤ 68719476736) (hn : Nmd s) : Calls Try.prog 15 #[.pointer (some ⟨g, 0, none⟩), .pointer (some ⟨r, 0, none⟩)] wr (RetB (.bool true) wr) := by
  obtain ⟨S, T, M, h1, h2, h3⟩ := h
  exact alike_any g r s S T M wr h1 hcnt hn
/-- What a disk is behind acts. -/
def stepS (s : DS) (a : A1) : DS := if smallB a = true ∧ a.kind ≠ 9 then actS s a else s
def growS (room : Int) (l : List A1) : DS := (l.take 200).foldl stepS (beginS room)
structure Good (s : DS) (n : Nat) : Prop where
  ok : s.Ok
  nm : Nmd s
  cnt : s.cnt ≤ n
theorem OwnP.ok {w wr : World} {g r : Nat} {s : DS} (h : OwnP w wr g r s) : s.Ok := by
  obtain ⟨S, T, M, h1, h2, h3⟩ := h
  exact h1.d.lt.2.2
theorem begin_cnt (room : Int) : (beginS room).cnt = 0 := rfl
theorem step_cnt {s : DS} (h : s.Ok) (a : A1) : (stepS s a).cnt ≤ s.cnt + 1 := by
  unfold stepS
  split
  · exact act_cnt h a
  · omega
theorem nmd_step {s : DS} (h : Nmd s) (a : A1) : Nmd (stepS s a) := by
  unfold stepS
  split
  · exact nmd_act h a
  · exact h
theorem nmd_steps {l : List A1} : ∀ {s : DS}, Nmd s → Nmd (l.foldl stepS s) := by
  induction l with
  | nil => exact fun h => h
  | cons a r ih => exact fun h => ih (nmd_step h a)
theorem nmd_grow (room : Int) (l : List A1) : Nmd (growS room l) := nmd_steps (nmd_begin room)
theorem ptrNe (w : World) (a : Addr) : (binOp .neq 23 (.pointer (some a)) (.pointer none)).run Try.prog w = .ok (.bool true) w := by
  kernel_rfl
def GrownPost (room : Int) (l : List A1) (w : World) (e : Ending) (w' : World) : Prop := ∃ g r, e = .returned (.tuple #[.pointer (some ⟨g, 0, none⟩), .pointer (some ⟨r, 0, none⟩)]) ∧ OwnP w w' g r (growS room l) ∧ (growS room l).cnt ≤ 200
set_option maxRecDepth 100000 in
set_option maxHeartbeats 4000000 in
theorem grown_any (room : Int) (A : Option Addr) (c : Nat) (l : List A1) (w : World) (h : LiesA w w.heap.size A l) (ha : ActsOk l) :
    Calls Try.prog 17 #[.int .i64 room, .slice A l.length c] w (GrownPost room l w) := by
  have HL := Lib.hid h
  have HA := Lib.hid ha
  have q1 := ptrNe
  clear h ha
  go_enter Try.func17, Try.ntmps17
  go_wp2_with fail
  refine (begin_any room w).mono ?_
  rintro e w1 ⟨g, r, S, T, M, rfl, hp1, hf1, hb1⟩
  have HP1 := Lib.hid (show OwnP w w1 g r (beginS room) from ⟨S, T, M, hp1, hf1, hb1⟩)
  clear hp1 hf1 hb1
  go_wp2
  go_loopw [8] (fun i wr => ∃ k : Nat, k ≤ l.length ∧ k ≤ 200 ∧ i = .int .i64 (k : Int) ∧ OwnP w wr g r ((l.take k).foldl stepS (beginS room)) ∧ ((l.take k).foldl stepS (beginS room)).cnt ≤ k) (fun i _ => l.length - (intOf i).toNat)
  case atStart => exact ⟨0, Nat.zero_le _, Nat.zero_le _, rfl, HP1.out, Nat.le_refl _⟩
  case round =>
    obtain ⟨k, hk, hk2, rfl, hp, hcn⟩ := hrel
    have HP := Lib.hid hp
    have HCN := Lib.hid hcn
    clear hp hcn HP1
    by_cases hlt : k < l.length
    · by_cases h200 : k < 200
      · obtain ⟨ga, oa, Ax, cx, e0, hga, hx0, hx1, hx2, hx3, hx4, hxc, hxd⟩ := HL.out.at_ hlt
        obtain ⟨x, hx⟩ : ∃ x, x = l[k] := ⟨_, rfl⟩
        rw [← hx] at hx0 hx1 hx2 hx3 hx4 hxc hxd
        subst e0
        have HXO := Lib.hid (HA.out x (hx ▸ List.getElem_mem hlt))
        have HTK := Lib.hid (show (l.take (k + 1)).foldl stepS (beginS room) = stepS ((l.take k).foldl stepS (beginS room)) x by rw [List.take_succ_eq_append_getElem hlt, List.foldl_append, hx]; rfl)
        have HBW := Lib.hid (show Below w.heap.size w wr by obtain ⟨S, T, M, _, _, h⟩ := HP.out; exact h)
        have d1 : decide ((k : Int) < 200) = true := decide_eq_true (by omega)
        have hq0 : wr.cell? ⟨ga, oa + k * 5, none⟩ = some (.int .i64 x.kind) := (HBW.out.cell hga).trans hx0
        have hq1 : wr.cell? ⟨ga, oa + k * 5 + 1, none⟩ = some (.string (str x.name)) := (HBW.out.cell hga).trans hx1
        have hq2 : wr.cell? ⟨ga, oa + k * 5 + 2, none⟩ = some (.int .i64 x.n) := (HBW.out.cell hga).trans hx2
        have hq3 : wr.cell? ⟨ga, oa + k * 5 + 3, none⟩ = some (.slice Ax x.data.length cx) := (HBW.out.cell hga).trans hx3
        have hq4 : wr.cell? ⟨ga, oa + k * 5 + 4, none⟩ = some (.int .u64 (x.mask : Int)) := (HBW.out.cell hga).trans hx4
        have hsm := small_any x (Ax, cx) wr
        unfold aV at hsm
        have HSM := Lib.hid hsm
        have HXD := Lib.hid hxd
        have HXC := Lib.hid hxc
        have HGA := Lib.hid hga
        have HX := Lib.hid (And.intro hx0 (And.intro hx1 (And.intro hx2 (And.intro hx3 hx4))))
        clear hsm hxd hxc hx0 hx1 hx2 hx3 hx4 hx hga
        go_wp2_with fail
        refine HSM.out.mono ?_
        rintro e w5 ⟨rfl, hb5⟩
        have HP5 := Lib.hid (HP.out.below hb5)
        have hbw5 := By.ext HBW.out hb5
        have hr0 : w5.cell? ⟨ga, oa + k * 5, none⟩ = some (.int .i64 x.kind) := (hbw5.cell HGA.out).trans HX.out.1
        have hr1 : w5.cell? ⟨ga, oa + k * 5 + 1, none⟩ = some (.string (str x.name)) := (hbw5.cell HGA.out).trans HX.out.2.1
        have hr2 : w5.cell? ⟨ga, oa + k * 5 + 2, none⟩ = some (.int .i64 x.n) := (hbw5.cell HGA.out).trans HX.out.2.2.1
        have hr3 : w5.cell? ⟨ga, oa + k * 5 + 3, none⟩ = some (.slice Ax x.data.length cx) := (hbw5.cell HGA.out).trans HX.out.2.2.2.1
        have hr4 : w5.cell? ⟨ga, oa + k * 5 + 4, none⟩ = some (.int .u64 (x.mask : Int)) := (hbw5.cell HGA.out).trans HX.out.2.2.2.2
        clear hb5 hbw5 hq0 hq1 hq2 hq3 hq4 HSM HP
        obtain ⟨s, hs⟩ : ∃ s, (l.take k).foldl stepS (beginS room) = s := ⟨_, rfl⟩
        rw [hs] at HTK HP5 HCN
        clear hs
        have HCT := Lib.hid (Nat.le_trans (step_cnt HP5.out.ok x) (Nat.succ_le_succ HCN.out))
        cases hsb : smallB x with
        | false =>
          have HE := Lib.hid (show stepS s x = s by unfold stepS; rw [hsb, if_neg (by simp)])
          clear hsb
          go_wp2
          go_roundw
          case rel => exact ⟨k + 1, by omega, by omega, by go_num, by rw [HTK.out, HE.out]; exact HP5.out, by rw [HTK.out]; exact HCT.out⟩
          case measure => simp [intOf]; omega
        | true =>
          by_cases h9 : x.kind = 9
          · have HE := Lib.hid (show stepS s x = s by unfold stepS; rw [if_neg (fun e => e.2 h9)])
            have h9' : (x.kind != 9) = false := by simpa using h9
            clear hsb h9
            go_wp2
            go_roundw
            case rel => exact ⟨k + 1, by omega, by omega, by go_num, by rw [HTK.out, HE.out]; exact HP5.out, by rw [HTK.out]; exact HCT.out⟩
            case measure => simp [intOf]; omega
          · have HE := Lib.hid (show stepS s x = actS s x by unfold stepS; rw [if_pos ⟨hsb, h9⟩])
            have h9' : (x.kind != 9) = true := by simpa using h9
            clear hsb h9
            have hact := act_own g r s x Ax cx w w5 HP5.out (Nat.le_trans HCN.out (by omega)) HXO.out HXC.out HXD.out
            unfold aV at hact
            have HACT := Lib.hid hact
            clear hact
            go_wp2_with fail
            refine HACT.out.mono ?_
            rintro e w6 ⟨rfl, hp6⟩
            have HP6 := Lib.hid hp6
            clear hp6 HACT
            go_wp2
            go_roundw
            case rel => exact ⟨k + 1, by omega, by omega, by go_num, by rw [HTK.out, HE.out]; exact HP6.out, by rw [HTK.out]; exact HCT.out⟩
            case measure => simp [intOf]; omega
      · have hk200 : k = 200 := by omega
        have d1 : decide ((k : Int) < 200) = false := decide_eq_false (by omega)
        have HE := Lib.hid (show (l.take k).foldl stepS (beginS room) = growS room l by rw [hk200]; rfl)
        rw [HE.out] at HP HCN
        clear hk200
        go_wp2
        go_ret2
        exact ⟨g, r, rfl, HP.out, Nat.le_trans HCN.out hk2⟩
    · have HE := Lib.hid (show (l.take k).foldl stepS (beginS room) = growS room l by unfold growS; rw [List.take_of_length_le (by omega), List.take_of_length_le (by omega)])
      rw [HE.out] at HP HCN
      go_wp2
      go_ret2
      exact ⟨g, r, rfl, HP.out, Nat.le_trans HCN.out hk2⟩
end Go.Proofs.Ytcfnfphnjkllcaa.Dk
