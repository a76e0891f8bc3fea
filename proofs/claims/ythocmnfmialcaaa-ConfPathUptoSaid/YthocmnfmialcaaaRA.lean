/- The package's has: a list of ints asked for one of them, as a contract of a call; slices.IndexFunc and slices.ContainsFunc at ints, over any function value that answers a plain question. | Configurations in memory, as two lists of ints; the package's Check, isMember, Member, Voter, and the reference's ConfOK, OwnConf, SameConf, Voter, Member, as contracts of calls. | The package's isMember, Member, Voter, and the reference's Voter and Member, ConfOK, as contracts of calls. Written by gencn1.py. | The package's most at ints, Quorum; the reference's Quorum; as contracts of calls. | The reference's Quorum, as a contract of a call. -/
import Derived.Test.YthocmnfmialcaaaKnE
import Derived.Test.YthocmnfmialcaaaKnF
import Derived.Test.YthocmnfmialcaaaGR
import Derived.Test.YthocmnfmialcaaaKrA
/-! The package's has: a list of ints asked for one of them, as a contract of a call; slices.IndexFunc and slices.ContainsFunc at ints, over any function value that answers a plain question. -/
namespace Go.Proofs.Ythocmnfmialcaaa.Cn
open Go.RowKit By CoP Co Mo Kd

/-- A function value of one int: it answers p, in every world in which what lay in w0 lies as it was; what lies there stays. -/
def Asks (g : Nat) (lb : Array Value) (p : Int → Bool) (w0 : World) : Prop :=
  ∀ (W : World) (x : Int), -9223372036854775808 ≤ x → x ≤ 9223372036854775807 → Below w0.heap.size w0 W → Calls Try.prog g (#[.int .i64 x] ++ lb) W (Says (p x) W)
theorem Asks.later {g : Nat} {lb : Array Value} {p : Int → Bool} {w w' : World} (h : Asks g lb p w) (hb : Below w.heap.size w w') : Asks g lb p w' := fun W x h0 h1 hW => h W x h0 h1 (ext hb hW)
/-- Where the first one is; or -1. -/
def idxI (p : Int → Bool) (l : List Int) : Int := match l.findIdx? p with | some i => (i : Int) | none => -1
theorem idxI_hit {p : Int → Bool} {l : List Int} {k : Nat} {y : Int} (hy : l[k]? = some y) (hp : p y = true) (hno : ∀ j x, j < k → l[j]? = some x → p x = false) : idxI p l = k := by
  obtain ⟨hk, e⟩ := List.getElem?_eq_some_iff.1 hy
  have : l.findIdx? p = some k := List.findIdx?_eq_some_iff_getElem.2 ⟨hk, by rw [e]; exact hp, fun j hj => by
    rw [hno j _ hj (List.getElem?_eq_getElem (by omega))]; simp⟩
  unfold idxI
  rw [this]
theorem idxI_miss {p : Int → Bool} {l : List Int} (hno : ∀ j x, j < l.length → l[j]? = some x → p x = false) : idxI p l = -1 := by
  have : l.findIdx? p = none := List.findIdx?_eq_none_iff.2 fun x hx => by
    obtain ⟨j, hj, e⟩ := List.mem_iff_getElem.1 hx
    exact hno j x hj (by rw [List.getElem?_eq_getElem hj, e])
  unfold idxI
  rw [this]
theorem idxI_any (p : Int → Bool) (l : List Int) : decide (0 ≤ idxI p l) = l.any p := by
  unfold idxI
  cases h : l.findIdx? p with
  | none =>
    rw [List.findIdx?_eq_none_iff] at h
    have : l.any p = false := by rw [List.any_eq_false]; intro x hx; rw [h x hx]; simp
    rw [this]; rfl
  | some i =>
    obtain ⟨hi, hp, _⟩ := List.findIdx?_eq_some_iff_getElem.1 h
    have : l.any p = true := by rw [List.any_eq_true]; exact ⟨_, List.getElem_mem hi, hp⟩
    rw [this]
    exact decide_eq_true (Int.natCast_nonneg i)
/-- Answers a value; memory below stays. -/
def Tells (v : Value) (w : World) (e : Ending) (w' : World) : Prop := e = .returned v ∧ Below w.heap.size w w'

set_option maxHeartbeats 1000000 in
theorem indexFunc_any (A : Option Addr) (n c B : Nat) (l : List Int) (hn : n = l.length) (hm : n ≤ 140737488355328) (g : Nat) (lb : Array Value) (p : Int → Bool) (eg : ∀ args w, (callFunc g args).run Try.prog w = .ok (.enter g args) w) (w : World)
    (hB : B ≤ w.heap.size) (hr : LiesI w B A l) (hp : Asks g lb p w) :
    Calls Try.prog 47 #[.slice A n c, .func (.func g) #[] lb] w (Tells (.int .i64 (idxI p l)) w) := by
  have HN := Lib.hid hn
  have HR := Lib.hid hr
  have HP := Lib.hid hp
  clear hn hr hp
  go_enter Try.func47, Try.ntmps47
  go_wp2
  go_loopw [5, 8] (fun _ i wr => ∃ k : Nat, k ≤ n ∧ i = .int .i64 k ∧ Below w.heap.size w wr ∧ ∀ j x, j < k → l[j]? = some x → p x = false) (fun _ i _ => n - (intOf i).toNat)
  case atStart => exact ⟨0, Nat.zero_le _, rfl, Below.refl _ _, fun j x hj => absurd hj (Nat.not_lt_zero _)⟩
  case round =>
    obtain ⟨k, hk, rfl, hb, hno⟩ := hrel
    have HNO := Lib.hid hno
    have HB := Lib.hid hb
    clear hno
    by_cases hkn : k < n
    · have hkl : k < l.length := by have := HN.out; omega
      obtain ⟨gg, o, rfl, hg, hc, hy0, hy1⟩ := (HR.out.below (hb.mono hB)).at_ hkl
      have HY := Lib.hid (List.getElem?_eq_getElem hkl)
      generalize l[k] = y at hc hy0 hy1 HY
      have HC := Lib.hid (HP.out _ y hy0 hy1 hb)
      clear hkl hb
      cases hq : p y with
      | true =>
        rw [hq] at HC
        have HI := Lib.hid (idxI_hit HY.out hq HNO.out)
        clear hq
        go_wp2_with (go_at_fn g; refine HC.out.mono ?_; rintro e w' ⟨rfl, hb'⟩; have HB' := Lib.hid hb'; clear hb')
        go_ret
        rw [HI.out]
        exact ⟨rfl, ext HB.out HB'.out⟩
      | false =>
        rw [hq] at HC
        have HQ := Lib.hid hq
        clear hq
        go_wp2_with (go_at_fn g; refine HC.out.mono ?_; rintro e w' ⟨rfl, hb'⟩; have HB' := Lib.hid hb'; clear hb')
        go_roundw
        case rel =>
          refine ⟨k + 1, by omega, by go_num, ext HB.out HB'.out, fun j x hj hx => ?_⟩
          by_cases e : j = k
          · subst e
            rw [HY.out] at hx
            rw [← Option.some.inj hx]
            exact HQ.out
          · exact HNO.out j x (by omega) hx
        case measure => simp [intOf]; omega
    · obtain rfl : k = n := by omega
      have HI := Lib.hid (idxI_miss (p := p) (l := l) (by rw [← HN.out]; exact HNO.out))
      clear hb
      go_wp2
      go_ret
      rw [HI.out]
      exact ⟨rfl, HB.out⟩
theorem indexFunc_enters : ∀ args w, (callFunc 47 args).run Try.prog w = .ok (.enter 47 args) w := enters_of Try.func47 (by kernel_rfl) rfl
set_option maxHeartbeats 1000000 in
theorem containsFunc_any (A : Option Addr) (n c B : Nat) (l : List Int) (hn : n = l.length) (hm : n ≤ 140737488355328) (g : Nat) (lb : Array Value) (p : Int → Bool) (eg : ∀ args w, (callFunc g args).run Try.prog w = .ok (.enter g args) w) (w : World)
    (hB : B ≤ w.heap.size) (hr : LiesI w B A l) (hp : Asks g lb p w) :
    Calls Try.prog 45 #[.slice A n c, .func (.func g) #[] lb] w (Says (l.any p) w) := by
  have HC := Lib.hid (indexFunc_any A n c B l hn hm g lb p eg w hB hr hp)
  have HD := Lib.hid (idxI_any p l)
  generalize idxI p l = z at HC HD
  clear hn hr hp
  go_enter Try.func45, Try.ntmps45
  go_wp2_with (go_at_call 47; refine HC.out.mono ?_; rintro e w' ⟨rfl, hb⟩; have HB := Lib.hid hb; clear hb)
  go_ret
  rw [← HD.out]
  exact ⟨rfl, HB.out⟩
/-- The closure that same makes. -/
theorem same1_asks (w : World) (g : Nat) (x : Int) (hg : g < w.heap.size) (hc : w.cell? ⟨g, 0, none⟩ = some (.int .i64 x)) : Asks 57 #[.pointer (some ⟨g, 0, none⟩)] (fun y => y == x) w := fun W y h0 h1 hb => by
  have hc' := (hb.cell (p := ⟨g, 0, none⟩) hg).trans hc
  clear hc hg
  go_enter Try.func57, Try.ntmps57
  go_wp2
  go_ret
  exact ⟨rfl, Below.refl _ _⟩
theorem same1_enters : ∀ args w, (callFunc 57 args).run Try.prog w = .ok (.enter 57 args) w := enters_of Try.func57 (by kernel_rfl) rfl
/-- Gives a function value that answers p. -/
def GivesAsk (g : Nat) (p : Int → Bool) (w : World) (e : Ending) (w' : World) : Prop := ∃ lb, e = .returned (.func (.func g) #[] lb) ∧ Asks g lb p w' ∧ Below w.heap.size w w'
theorem same_any (x : Int) (w : World) : Calls Try.prog 46 #[.int .i64 x] w (GivesAsk 57 (fun y => y == x) w) := by
  go_enter Try.func46, Try.ntmps46
  go_wp2
  go_ret
  exact ⟨_, rfl, same1_asks _ _ x (by simp) (by rw [cell_of_row _ _ 0 _ _ _ (heap_alloc_new w _)]; rfl), (Below.refl _ _).alloc (Nat.le_refl _) _⟩
theorem any_mem (l : List Int) (x : Int) : (l.any fun y => y == x) = decide (x ∈ l) := by
  by_cases h : x ∈ l
  · rw [decide_eq_true h, List.any_eq_true]; exact ⟨x, h, by simp⟩
  · rw [decide_eq_false h, List.any_eq_false]; intro y hy e; simp at e; exact h (e ▸ hy)
theorem cHas_any (A : Option Addr) (n c B : Nat) (l : List Int) (hn : n = l.length) (hm : n ≤ 140737488355328) (x : Int) (w : World) (hB : B ≤ w.heap.size) (hr : LiesI w B A l) :
    Calls Try.prog 31 #[.slice A n c, .int .i64 x] w (Says (decide (x ∈ l)) w) := by
  have HN := Lib.hid hn
  have HR := Lib.hid hr
  have HD := Lib.hid (any_mem l x)
  clear hn hr
  go_enter Try.func31, Try.ntmps31
  go_wp2_with (go_at_call 46; refine (same_any x w).mono ?_; rintro e w1 ⟨lb, rfl, hq, hb⟩; have HQ := Lib.hid hq; have HB := Lib.hid hb; clear hq hb)
  go_wp2_with (go_at_call 45; refine (containsFunc_any A n c B l HN.out hm _ lb _ same1_enters w1 (Nat.le_trans hB HB.out.size) (HR.out.below (HB.out.mono hB)) HQ.out).mono ?_; rintro e w2 ⟨rfl, hb2⟩; have HB2 := Lib.hid hb2; clear hb2)
  go_ret
  rw [← HD.out]
  exact ⟨rfl, ext HB.out HB2.out⟩
end Go.Proofs.Ythocmnfmialcaaa.Cn

/-! Configurations in memory, as two lists of ints; the package's Check, isMember, Member, Voter, and the reference's ConfOK, OwnConf, SameConf, Voter, Member, as contracts of calls. -/
namespace Go.Proofs.Ythocmnfmialcaaa.Cn
open Go.RowKit By CoP Co Mo Kd

/-- The ints l, in such blocks. -/
def Ls (w : World) (S : Nat → Prop) (A : Option Addr) (l : List Int) : Prop :=
  0 < l.length → ∃ g o, A = some ⟨g, o, none⟩ ∧ S g ∧ ∀ j x, l[j]? = some x → w.cell? ⟨g, o + j, none⟩ = some (.int .i64 x) ∧ -9223372036854775808 ≤ x ∧ x ≤ 9223372036854775807
section
variable {w w' : World} {S S' : Nat → Prop} {A : Option Addr} {l : List Int}
theorem Ls.keep (h : Ls w S A l) (hb : ∀ b, S b → w'.heap[b]? = w.heap[b]?) (hs : ∀ b, S b → S' b) : Ls w' S' A l := fun hn => by
  obtain ⟨g, o, e, hg, hc⟩ := h hn
  exact ⟨g, o, e, hs g hg, fun j x hx => ⟨(World.cell?_of_block (w := w) (a := ⟨g, o + j, none⟩) (hb g hg)).trans (hc j x hx).1, (hc j x hx).2⟩⟩
theorem Ls.less (h : Ls w S A l) (hs : ∀ b, S b → S' b) : Ls w S' A l := h.keep (fun _ _ => rfl) hs
theorem Ls.below (h : Ls w (Old w) A l) (hb : Below w.heap.size w w') : Ls w' (Old w') A l := h.keep (fun b hB => hb.block b hB) (fun _ hB => Nat.lt_of_lt_of_le hB hb.size)
theorem Ls.lies (h : Ls w (Old w) A l) : LiesI w w.heap.size A l := h
theorem Ls.of {B : Nat} (h : LiesI w B A l) (hB : B ≤ w.heap.size) : Ls w (Old w) A l := h.more hB
theorem Ls.nil (w : World) (S : Nat → Prop) (A : Option Addr) : Ls w S A [] := fun h => absurd h (by simp)
theorem Ls.rep {c : Nat} (h : Ls w S A l) (hc : l.length ≤ c) (hm : l.length ≤ 140737488355328) : idsK.rep w S [.slice A l.length c] (.agg (l.map litZ)) := by
  refine ⟨A, c, l.map litZ, by rw [List.length_map], rfl, by rw [List.length_map]; exact hc, by rw [List.length_map]; exact hm, fun hp => ?_⟩
  rw [List.length_map] at hp
  obtain ⟨g, o, rfl, hg, h4⟩ := h hp
  refine ⟨g, o, rfl, hg, fun j d hd => ?_⟩
  rw [List.getElem?_map, Option.map_eq_some_iff] at hd
  obtain ⟨x, hx, rfl⟩ := hd
  have hb := h4 j x hx
  refine ⟨[.int .i64 x], ⟨x, hb.2.1, hb.2.2, rfl, rfl⟩, fun i v hv => ?_⟩
  have hi : i = 0 := by
    have := (List.getElem?_eq_some_iff.1 hv).1
    simpa using this
  subst hi
  have hv2 : Value.int .i64 x = v := by simpa using hv
  subst hv2
  have e1 : (intK 1 16).size = 1 := rfl
  rw [e1]
  have := hb.1
  rwa [show o + j * 1 + 0 = o + j by omega]
end
theorem ids_open {w : World} {S : Nat → Prop} {vs : List Value} {d : Data} (h : idsK.rep w S vs d) : ∃ A c l, vs = [.slice A l.length c] ∧ d = .agg (l.map litZ) ∧ l.length ≤ c ∧ l.length ≤ 140737488355328 ∧ Ls w S A l := by
  obtain ⟨A, c, ds, rfl, rfl, hc, hm, hl⟩ := h
  have hz : ∀ (j : Nat) (d : Data), ds[j]? = some d → ∃ z : Int, d = litZ z ∧ -9223372036854775808 ≤ z ∧ z ≤ 9223372036854775807 := by
    intro j d hj
    obtain ⟨g, o, _, _, h⟩ := hl (by have := (List.getElem?_eq_some_iff.1 hj).1; omega)
    obtain ⟨vs, ⟨z, h1, h2, _, rfl⟩, _⟩ := h j d hj
    exact ⟨z, rfl, h1, h2⟩
  have he : (ds.map datI).map litZ = ds := by
    rw [List.map_map]
    conv => rhs; rw [← List.map_id ds]
    refine List.map_congr_left ?_
    intro d hd
    obtain ⟨j, hj⟩ := List.mem_iff_getElem?.1 hd
    obtain ⟨z, rfl, _⟩ := hz j d hj
    rfl
  refine ⟨A, c, ds.map datI, by rw [List.length_map], by rw [he], by simpa using hc, by simpa using hm, fun hn => ?_⟩
  obtain ⟨g, o, e, hg, h⟩ := hl (by simpa using hn)
  refine ⟨g, o, e, hg, fun j x hx => ?_⟩
  rw [List.getElem?_map, Option.map_eq_some_iff] at hx
  obtain ⟨d, hd, rfl⟩ := hx
  obtain ⟨vs, ⟨z, h1, h2, rfl, rfl⟩, hr⟩ := h j d hd
  have h3 : w.cell? ⟨g, o + j * 1, none⟩ = some (.int .i64 z) := hr.cell
  rw [Nat.mul_one] at h3
  exact ⟨h3, h1, h2⟩
/-- A configuration, as a value. -/
abbrev cfV (A : Option Addr) (n c : Nat) (A2 : Option Addr) (m c2 : Nat) : Value := .agg #[.slice A n c, .slice A2 m c2]
/-- A configuration in memory. -/
structure CfAt (w : World) (S : Nat → Prop) (A : Option Addr) (n c : Nat) (A2 : Option Addr) (m c2 : Nat) (vs ls : List Int) : Prop where
  hn : n = vs.length
  hm : m = ls.length
  v : Ls w S A vs
  l : Ls w S A2 ls
  cv : n ≤ c
  cl : m ≤ c2
  sm : (putConf vs ls).length ≤ 9437184
section
variable {w w' : World} {S S' : Nat → Prop} {A A2 : Option Addr} {n c m c2 : Nat} {vs ls : List Int}
theorem CfAt.keep (h : CfAt w S A n c A2 m c2 vs ls) (hb : ∀ b, S b → w'.heap[b]? = w.heap[b]?) (hs : ∀ b, S b → S' b) : CfAt w' S' A n c A2 m c2 vs ls := ⟨h.hn, h.hm, h.v.keep hb hs, h.l.keep hb hs, h.cv, h.cl, h.sm⟩
theorem CfAt.less (h : CfAt w S A n c A2 m c2 vs ls) (hs : ∀ b, S b → S' b) : CfAt w S' A n c A2 m c2 vs ls := h.keep (fun _ _ => rfl) hs
theorem CfAt.below (h : CfAt w (Old w) A n c A2 m c2 vs ls) (hb : Below w.heap.size w w') : CfAt w' (Old w') A n c A2 m c2 vs ls := h.keep (fun b hB => hb.block b hB) (fun _ hB => Nat.lt_of_lt_of_le hB hb.size)
theorem CfAt.nv (h : CfAt w S A n c A2 m c2 vs ls) : n ≤ 9437184 := by have h1 := h.sm; have h2 := putConf_le vs ls; have h3 := h.hn; omega
theorem CfAt.nl (h : CfAt w S A n c A2 m c2 vs ls) : m ≤ 9437184 := by have h1 := h.sm; have h2 := putConf_le vs ls; have h3 := h.hm; omega
theorem CfAt.rep (h : CfAt w S A n c A2 m c2 vs ls) : confK.rep w S [.slice A n c, .slice A2 m c2] (confD vs ls) := by
  have h1 := h.nv
  have h2 := h.nl
  obtain ⟨rfl, rfl, hv, hl, hc, hc2, hs⟩ := h
  exact conf_rep (hv.rep hc (by omega)) (hl.rep hc2 (by omega))
end
theorem cf_open {w : World} {S : Nat → Prop} {xs : List Value} {d : Data} (h : confK.rep w S xs d) (hs : (confK.put d).length ≤ 9437184) : ∃ A n c A2 m c2 vs ls, xs = [.slice A n c, .slice A2 m c2] ∧ d = confD vs ls ∧ CfAt w S A n c A2 m c2 vs ls := by
  obtain ⟨_, rfl, _, _, _, _, rfl, rfl, h1, _, _, _, _, rfl, rfl, h2, rfl, rfl⟩ := h
  obtain ⟨A, c, l, rfl, rfl, h3, h4, h5⟩ := ids_open h1
  obtain ⟨A2, c2, l2, rfl, rfl, h6, h7, h8⟩ := ids_open h2
  exact ⟨A, _, c, A2, _, c2, l, l2, rfl, rfl, rfl, rfl, h5, h8, h3, h6, by rw [← conf_put]; exact hs⟩
/-- OK or ErrForm. -/
def chk (vs ls : List Int) : Int := if confB vs ls = true then 0 else 2
section
variable {w : World} {A A2 : Option Addr} {n c m c2 : Nat} {vs ls : List Int}
set_option maxHeartbeats 1000000 in
theorem check_any (h : CfAt w (Old w) A n c A2 m c2 vs ls) : Calls Try.prog 9 #[cfV A n c A2 m c2] w (Tells (.int .i64 (chk vs ls)) w) := by
  obtain ⟨w1, hw1⟩ : ∃ w1, w1 = w.alloc (.cells #[.slice A n c, .slice A2 m c2] 24) := ⟨_, rfl⟩
  have hb1 : Below w.heap.size w w1 := by rw [hw1]; exact (Below.refl _ _).alloc (Nat.le_refl _) _
  have hrow : w1.heap[w.heap.size]? = some (.cells #[.slice A n c, .slice A2 m c2] 24 (0, 0)) := by rw [hw1]; exact heap_alloc_new w _
  have hc0 : w1.cell? ⟨w.heap.size, 0, none⟩ = some (.slice A n c) := by rw [cell_of_row w1 _ 0 _ _ _ hrow]; rfl
  have hc1 : w1.cell? ⟨w.heap.size, 1, none⟩ = some (.slice A2 m c2) := by rw [cell_of_row w1 _ 1 _ _ _ hrow]; rfl
  have hcall : Calls Try.prog 28 #[cfV A n c A2 m c2] w1 (fun e w' => ∃ v, e = .returned (.tuple #[v, .int .i64 (chk vs ls)]) ∧ Below w1.heap.size w1 w') := by
    refine (msgConf_any w1 (xs := [.slice A n c, .slice A2 m c2]) rfl (h.below hb1).rep (fun _ => by rw [conf_put]; have := h.sm; omega)).mono ?_
    rintro e w2 ⟨hb2, ⟨hs, v, rfl, _⟩ | ⟨hs, rfl⟩⟩
    · rw [conf_sound] at hs
      exact ⟨v, by unfold chk; rw [if_pos hs], hb2⟩
    · rw [conf_sound] at hs
      exact ⟨_, by unfold chk; rw [if_neg (by rw [hs]; decide)], hb2⟩
  have HC := Lib.hid hcall
  generalize chk vs ls = z at HC ⊢
  clear hcall
  have HB1 := Lib.hid hb1
  clear hb1 hrow h
  go_enter Try.func9, Try.ntmps9
  go_wp2_with fail
  rw [← hw1]
  clear hw1
  go_wp2_with (go_at_call 28; refine HC.out.mono ?_; rintro e w2 ⟨v, rfl, hb2⟩; have HB2 := Lib.hid hb2; clear hb2)
  go_ret
  exact ⟨rfl, ext HB1.out HB2.out⟩
end
end Go.Proofs.Ythocmnfmialcaaa.Cn

/-! The package's isMember, Member, Voter, and the reference's Voter and Member, ConfOK, as contracts of calls. Written by gencn1.py. -/
namespace Go.Proofs.Ythocmnfmialcaaa.Cn
open Go.RowKit By CoP Co Mo Kd

section
variable {w : World} {A A2 : Option Addr} {n c m c2 : Nat} {vs ls : List Int}
theorem CfAt.has1 (h : CfAt w (Old w) A n c A2 m c2 vs ls) (x : Int) (w' : World) (hb : Below w.heap.size w w') : Calls Try.prog 31 #[.slice A n c, .int .i64 x] w' (Says (decide (x ∈ vs)) w') :=
  cHas_any A n c w'.heap.size vs h.hn (by have := h.nv; omega) x w' (Nat.le_refl _) (h.below hb).v.lies
theorem CfAt.has2 (h : CfAt w (Old w) A n c A2 m c2 vs ls) (x : Int) (w' : World) (hb : Below w.heap.size w w') : Calls Try.prog 31 #[.slice A2 m c2, .int .i64 x] w' (Says (decide (x ∈ ls)) w') :=
  cHas_any A2 m c2 w'.heap.size ls h.hm (by have := h.nl; omega) x w' (Nat.le_refl _) (h.below hb).l.lies
theorem CfAt.rhas1 (h : CfAt w (Old w) A n c A2 m c2 vs ls) (x : Int) (h0 : -9223372036854775808 ≤ x) (h1 : x ≤ 9223372036854775807) (w' : World) (hb : Below w.heap.size w w') : Calls Try.prog 22 #[.slice A n c, .int .i64 x] w' (Says (decide (x ∈ vs)) w') :=
  (has_any A n c w'.heap.size vs h.hn (by have := h.nv; omega) x h0 h1 w' (h.below hb).v.lies).mono (by rintro e w2 ⟨rfl, rfl⟩; exact ⟨rfl, Below.refl _ _⟩)
theorem CfAt.rhas2 (h : CfAt w (Old w) A n c A2 m c2 vs ls) (x : Int) (h0 : -9223372036854775808 ≤ x) (h1 : x ≤ 9223372036854775807) (w' : World) (hb : Below w.heap.size w w') : Calls Try.prog 22 #[.slice A2 m c2, .int .i64 x] w' (Says (decide (x ∈ ls)) w') :=
  (has_any A2 m c2 w'.heap.size ls h.hm (by have := h.nl; omega) x h0 h1 w' (h.below hb).l.lies).mono (by rintro e w2 ⟨rfl, rfl⟩; exact ⟨rfl, Below.refl _ _⟩)
theorem confOKc_any (h : CfAt w (Old w) A n c A2 m c2 vs ls) (w' : World) (hb : Below w.heap.size w w') : Calls Try.prog 11 #[cfV A n c A2 m c2] w' (Says (confB vs ls) w') := by
  have := conf_ok w' (h.below hb).rep
  rwa [conf_sound] at this
theorem checkc_any (h : CfAt w (Old w) A n c A2 m c2 vs ls) (w' : World) (hb : Below w.heap.size w w') : Calls Try.prog 9 #[cfV A n c A2 m c2] w' (Tells (.int .i64 (if confB vs ls = true then 0 else 2)) w') := check_any (h.below hb)

set_option maxHeartbeats 1000000 in
theorem isMember_any (h : CfAt w (Old w) A n c A2 m c2 vs ls) (x : Int) : Calls Try.prog 30 #[cfV A n c A2 m c2, .int .i64 x] w (Says (decide (x ∈ vs) || decide (x ∈ ls)) w) := by
  obtain ⟨w1, hw1⟩ : ∃ w1, w1 = w.alloc (.cells #[.slice A n c, .slice A2 m c2] 24) := ⟨_, rfl⟩
  have hb1 : Below w.heap.size w w1 := by rw [hw1]; exact (Below.refl _ _).alloc (Nat.le_refl _) _
  have hrow : w1.heap[w.heap.size]? = some (.cells #[.slice A n c, .slice A2 m c2] 24 (0, 0)) := by rw [hw1]; exact heap_alloc_new w _
  have hrd : ∀ w', Below w1.heap.size w1 w' → w'.cell? ⟨w.heap.size, 0, none⟩ = some (.slice A n c) ∧ w'.cell? ⟨w.heap.size, 1, none⟩ = some (.slice A2 m c2) := fun w' hb => by
    have hr := (hb.block _ (row_lt hrow)).trans hrow
    exact ⟨by rw [cell_of_row w' _ 0 _ _ _ hr]; rfl, by rw [cell_of_row w' _ 1 _ _ _ hr]; rfl⟩
  have HRD := Lib.hid hrd
  have HB1 := Lib.hid hb1
  obtain ⟨k0, k1⟩ := hrd w1 (Below.refl _ _)
  have hs0 := fun w' (hb : Below w1.heap.size w1 w') => h.has1 x w' (By.ext hb1 hb)
  have hs1 := fun w' (hb : Below w1.heap.size w1 w') => h.has2 x w' (By.ext hb1 hb)
  generalize decide (x ∈ vs) = b0 at hs0 ⊢
  generalize decide (x ∈ ls) = b1 at hs1 ⊢
  have HS0 := Lib.hid hs0
  have HS1 := Lib.hid hs1
  clear hrow hb1 hrd h hs0 hs1
  cases b0
  · go_enter Try.func30, Try.ntmps30
    go_wp2_with fail
    rw [← hw1]
    clear hw1
    have HY := Lib.hid (Below.refl w1.heap.size w1)
    go_wp2_with fail
    refine (HS0.out _ HY.out).mono ?_
    rintro e wn ⟨rfl, hbn⟩
    have HYN := Lib.hid (By.ext HY.out hbn)
    obtain ⟨k0, k1⟩ := HRD.out wn HYN.out
    clear hbn HY
    have HY := HYN
    clear HYN
    go_wp2_with fail
    go_wp2_with fail
    refine (HS1.out _ HY.out).mono ?_
    rintro e wn ⟨rfl, hbn⟩
    have HYN := Lib.hid (By.ext HY.out hbn)
    obtain ⟨k0, k1⟩ := HRD.out wn HYN.out
    clear hbn HY
    have HY := HYN
    clear HYN
    go_wp2_with fail
    go_ret
    exact ⟨rfl, By.ext HB1.out HY.out⟩
  · go_enter Try.func30, Try.ntmps30
    go_wp2_with fail
    rw [← hw1]
    clear hw1
    have HY := Lib.hid (Below.refl w1.heap.size w1)
    go_wp2_with fail
    refine (HS0.out _ HY.out).mono ?_
    rintro e wn ⟨rfl, hbn⟩
    have HYN := Lib.hid (By.ext HY.out hbn)
    obtain ⟨k0, k1⟩ := HRD.out wn HYN.out
    clear hbn HY
    have HY := HYN
    clear HYN
    go_wp2_with fail
    go_ret
    exact ⟨rfl, By.ext HB1.out HY.out⟩
set_option maxHeartbeats 1000000 in
theorem member_any (h : CfAt w (Old w) A n c A2 m c2 vs ls) (x : Int) : Calls Try.prog 13 #[cfV A n c A2 m c2, .int .i64 x] w (Says (confB vs ls && (decide (x ∈ vs) || decide (x ∈ ls))) w) := by
  obtain ⟨w1, hw1⟩ : ∃ w1, w1 = w.alloc (.cells #[.slice A n c, .slice A2 m c2] 24) := ⟨_, rfl⟩
  have hb1 : Below w.heap.size w w1 := by rw [hw1]; exact (Below.refl _ _).alloc (Nat.le_refl _) _
  have hrow : w1.heap[w.heap.size]? = some (.cells #[.slice A n c, .slice A2 m c2] 24 (0, 0)) := by rw [hw1]; exact heap_alloc_new w _
  have hrd : ∀ w', Below w1.heap.size w1 w' → w'.cell? ⟨w.heap.size, 0, none⟩ = some (.slice A n c) ∧ w'.cell? ⟨w.heap.size, 1, none⟩ = some (.slice A2 m c2) := fun w' hb => by
    have hr := (hb.block _ (row_lt hrow)).trans hrow
    exact ⟨by rw [cell_of_row w' _ 0 _ _ _ hr]; rfl, by rw [cell_of_row w' _ 1 _ _ _ hr]; rfl⟩
  have HRD := Lib.hid hrd
  have HB1 := Lib.hid hb1
  obtain ⟨k0, k1⟩ := hrd w1 (Below.refl _ _)
  have hs0 := fun w' (hb : Below w1.heap.size w1 w') => checkc_any h w' (By.ext hb1 hb)
  have hs1 := fun w' (hb : Below w1.heap.size w1 w') => (fun w2 hb2 => isMember_any (h.below hb2) x) w' (By.ext hb1 hb)
  generalize confB vs ls = b0 at hs0 ⊢
  generalize (decide (x ∈ vs) || decide (x ∈ ls)) = b1 at hs1 ⊢
  have HS0 := Lib.hid hs0
  have HS1 := Lib.hid hs1
  clear hrow hb1 hrd h hs0 hs1
  cases b0
  · go_enter Try.func13, Try.ntmps13
    go_wp2_with fail
    rw [← hw1]
    clear hw1
    have HY := Lib.hid (Below.refl w1.heap.size w1)
    go_wp2_with fail
    refine (HS0.out _ HY.out).mono ?_
    rintro e wn ⟨rfl, hbn⟩
    have HYN := Lib.hid (By.ext HY.out hbn)
    obtain ⟨k0, k1⟩ := HRD.out wn HYN.out
    clear hbn HY
    have HY := HYN
    clear HYN
    go_wp2_with fail
    go_ret
    exact ⟨rfl, By.ext HB1.out HY.out⟩
  · go_enter Try.func13, Try.ntmps13
    go_wp2_with fail
    rw [← hw1]
    clear hw1
    have HY := Lib.hid (Below.refl w1.heap.size w1)
    go_wp2_with fail
    refine (HS0.out _ HY.out).mono ?_
    rintro e wn ⟨rfl, hbn⟩
    have HYN := Lib.hid (By.ext HY.out hbn)
    obtain ⟨k0, k1⟩ := HRD.out wn HYN.out
    clear hbn HY
    have HY := HYN
    clear HYN
    go_wp2_with fail
    go_wp2_with fail
    refine (HS1.out _ HY.out).mono ?_
    rintro e wn ⟨rfl, hbn⟩
    have HYN := Lib.hid (By.ext HY.out hbn)
    obtain ⟨k0, k1⟩ := HRD.out wn HYN.out
    clear hbn HY
    have HY := HYN
    clear HYN
    go_wp2_with fail
    go_ret
    exact ⟨rfl, By.ext HB1.out HY.out⟩
set_option maxHeartbeats 1000000 in
theorem voter_any (h : CfAt w (Old w) A n c A2 m c2 vs ls) (x : Int) : Calls Try.prog 15 #[cfV A n c A2 m c2, .int .i64 x] w (Says (confB vs ls && decide (x ∈ vs)) w) := by
  obtain ⟨w1, hw1⟩ : ∃ w1, w1 = w.alloc (.cells #[.slice A n c, .slice A2 m c2] 24) := ⟨_, rfl⟩
  have hb1 : Below w.heap.size w w1 := by rw [hw1]; exact (Below.refl _ _).alloc (Nat.le_refl _) _
  have hrow : w1.heap[w.heap.size]? = some (.cells #[.slice A n c, .slice A2 m c2] 24 (0, 0)) := by rw [hw1]; exact heap_alloc_new w _
  have hrd : ∀ w', Below w1.heap.size w1 w' → w'.cell? ⟨w.heap.size, 0, none⟩ = some (.slice A n c) ∧ w'.cell? ⟨w.heap.size, 1, none⟩ = some (.slice A2 m c2) := fun w' hb => by
    have hr := (hb.block _ (row_lt hrow)).trans hrow
    exact ⟨by rw [cell_of_row w' _ 0 _ _ _ hr]; rfl, by rw [cell_of_row w' _ 1 _ _ _ hr]; rfl⟩
  have HRD := Lib.hid hrd
  have HB1 := Lib.hid hb1
  obtain ⟨k0, k1⟩ := hrd w1 (Below.refl _ _)
  have hs0 := fun w' (hb : Below w1.heap.size w1 w') => checkc_any h w' (By.ext hb1 hb)
  have hs1 := fun w' (hb : Below w1.heap.size w1 w') => h.has1 x w' (By.ext hb1 hb)
  generalize confB vs ls = b0 at hs0 ⊢
  generalize decide (x ∈ vs) = b1 at hs1 ⊢
  have HS0 := Lib.hid hs0
  have HS1 := Lib.hid hs1
  clear hrow hb1 hrd h hs0 hs1
  cases b0
  · go_enter Try.func15, Try.ntmps15
    go_wp2_with fail
    rw [← hw1]
    clear hw1
    have HY := Lib.hid (Below.refl w1.heap.size w1)
    go_wp2_with fail
    refine (HS0.out _ HY.out).mono ?_
    rintro e wn ⟨rfl, hbn⟩
    have HYN := Lib.hid (By.ext HY.out hbn)
    obtain ⟨k0, k1⟩ := HRD.out wn HYN.out
    clear hbn HY
    have HY := HYN
    clear HYN
    go_wp2_with fail
    go_ret
    exact ⟨rfl, By.ext HB1.out HY.out⟩
  · go_enter Try.func15, Try.ntmps15
    go_wp2_with fail
    rw [← hw1]
    clear hw1
    have HY := Lib.hid (Below.refl w1.heap.size w1)
    go_wp2_with fail
    refine (HS0.out _ HY.out).mono ?_
    rintro e wn ⟨rfl, hbn⟩
    have HYN := Lib.hid (By.ext HY.out hbn)
    obtain ⟨k0, k1⟩ := HRD.out wn HYN.out
    clear hbn HY
    have HY := HYN
    clear HYN
    go_wp2_with fail
    go_wp2_with fail
    refine (HS1.out _ HY.out).mono ?_
    rintro e wn ⟨rfl, hbn⟩
    have HYN := Lib.hid (By.ext HY.out hbn)
    obtain ⟨k0, k1⟩ := HRD.out wn HYN.out
    clear hbn HY
    have HY := HYN
    clear HYN
    go_wp2_with fail
    go_ret
    exact ⟨rfl, By.ext HB1.out HY.out⟩
set_option maxHeartbeats 1000000 in
theorem rVoter_any (h : CfAt w (Old w) A n c A2 m c2 vs ls) (x : Int) (h0 : -9223372036854775808 ≤ x) (h1 : x ≤ 9223372036854775807) : Calls Try.prog 16 #[cfV A n c A2 m c2, .int .i64 x] w (Says (confB vs ls && decide (x ∈ vs)) w) := by
  obtain ⟨w1, hw1⟩ : ∃ w1, w1 = w.alloc (.cells #[.slice A n c, .slice A2 m c2] 24) := ⟨_, rfl⟩
  have hb1 : Below w.heap.size w w1 := by rw [hw1]; exact (Below.refl _ _).alloc (Nat.le_refl _) _
  have hrow : w1.heap[w.heap.size]? = some (.cells #[.slice A n c, .slice A2 m c2] 24 (0, 0)) := by rw [hw1]; exact heap_alloc_new w _
  have hrd : ∀ w', Below w1.heap.size w1 w' → w'.cell? ⟨w.heap.size, 0, none⟩ = some (.slice A n c) ∧ w'.cell? ⟨w.heap.size, 1, none⟩ = some (.slice A2 m c2) := fun w' hb => by
    have hr := (hb.block _ (row_lt hrow)).trans hrow
    exact ⟨by rw [cell_of_row w' _ 0 _ _ _ hr]; rfl, by rw [cell_of_row w' _ 1 _ _ _ hr]; rfl⟩
  have HRD := Lib.hid hrd
  have HB1 := Lib.hid hb1
  obtain ⟨k0, k1⟩ := hrd w1 (Below.refl _ _)
  have hs0 := fun w' (hb : Below w1.heap.size w1 w') => confOKc_any h w' (By.ext hb1 hb)
  have hs1 := fun w' (hb : Below w1.heap.size w1 w') => h.rhas1 x h0 h1 w' (By.ext hb1 hb)
  generalize confB vs ls = b0 at hs0 ⊢
  generalize decide (x ∈ vs) = b1 at hs1 ⊢
  have HS0 := Lib.hid hs0
  have HS1 := Lib.hid hs1
  clear hrow hb1 hrd h hs0 hs1 h0 h1
  cases b0
  · go_enter Try.func16, Try.ntmps16
    go_wp2_with fail
    rw [← hw1]
    clear hw1
    have HY := Lib.hid (Below.refl w1.heap.size w1)
    go_wp2_with fail
    refine (HS0.out _ HY.out).mono ?_
    rintro e wn ⟨rfl, hbn⟩
    have HYN := Lib.hid (By.ext HY.out hbn)
    obtain ⟨k0, k1⟩ := HRD.out wn HYN.out
    clear hbn HY
    have HY := HYN
    clear HYN
    go_wp2_with fail
    go_ret
    exact ⟨rfl, By.ext HB1.out HY.out⟩
  · go_enter Try.func16, Try.ntmps16
    go_wp2_with fail
    rw [← hw1]
    clear hw1
    have HY := Lib.hid (Below.refl w1.heap.size w1)
    go_wp2_with fail
    refine (HS0.out _ HY.out).mono ?_
    rintro e wn ⟨rfl, hbn⟩
    have HYN := Lib.hid (By.ext HY.out hbn)
    obtain ⟨k0, k1⟩ := HRD.out wn HYN.out
    clear hbn HY
    have HY := HYN
    clear HYN
    go_wp2_with fail
    go_wp2_with fail
    refine (HS1.out _ HY.out).mono ?_
    rintro e wn ⟨rfl, hbn⟩
    have HYN := Lib.hid (By.ext HY.out hbn)
    obtain ⟨k0, k1⟩ := HRD.out wn HYN.out
    clear hbn HY
    have HY := HYN
    clear HYN
    go_wp2_with fail
    go_ret
    exact ⟨rfl, By.ext HB1.out HY.out⟩
set_option maxHeartbeats 1000000 in
theorem rMember_any (h : CfAt w (Old w) A n c A2 m c2 vs ls) (x : Int) (h0 : -9223372036854775808 ≤ x) (h1 : x ≤ 9223372036854775807) : Calls Try.prog 14 #[cfV A n c A2 m c2, .int .i64 x] w (Says (confB vs ls && (decide (x ∈ vs) || decide (x ∈ ls))) w) := by
  obtain ⟨w1, hw1⟩ : ∃ w1, w1 = w.alloc (.cells #[.slice A n c, .slice A2 m c2] 24) := ⟨_, rfl⟩
  have hb1 : Below w.heap.size w w1 := by rw [hw1]; exact (Below.refl _ _).alloc (Nat.le_refl _) _
  have hrow : w1.heap[w.heap.size]? = some (.cells #[.slice A n c, .slice A2 m c2] 24 (0, 0)) := by rw [hw1]; exact heap_alloc_new w _
  have hrd : ∀ w', Below w1.heap.size w1 w' → w'.cell? ⟨w.heap.size, 0, none⟩ = some (.slice A n c) ∧ w'.cell? ⟨w.heap.size, 1, none⟩ = some (.slice A2 m c2) := fun w' hb => by
    have hr := (hb.block _ (row_lt hrow)).trans hrow
    exact ⟨by rw [cell_of_row w' _ 0 _ _ _ hr]; rfl, by rw [cell_of_row w' _ 1 _ _ _ hr]; rfl⟩
  have HRD := Lib.hid hrd
  have HB1 := Lib.hid hb1
  obtain ⟨k0, k1⟩ := hrd w1 (Below.refl _ _)
  have hs0 := fun w' (hb : Below w1.heap.size w1 w') => confOKc_any h w' (By.ext hb1 hb)
  have hs1 := fun w' (hb : Below w1.heap.size w1 w') => h.rhas1 x h0 h1 w' (By.ext hb1 hb)
  have hs2 := fun w' (hb : Below w1.heap.size w1 w') => h.rhas2 x h0 h1 w' (By.ext hb1 hb)
  generalize confB vs ls = b0 at hs0 ⊢
  generalize decide (x ∈ vs) = b1 at hs1 ⊢
  generalize decide (x ∈ ls) = b2 at hs2 ⊢
  have HS0 := Lib.hid hs0
  have HS1 := Lib.hid hs1
  have HS2 := Lib.hid hs2
  clear hrow hb1 hrd h hs0 hs1 hs2 h0 h1
  cases b0
  · go_enter Try.func14, Try.ntmps14
    go_wp2_with fail
    rw [← hw1]
    clear hw1
    have HY := Lib.hid (Below.refl w1.heap.size w1)
    go_wp2_with fail
    refine (HS0.out _ HY.out).mono ?_
    rintro e wn ⟨rfl, hbn⟩
    have HYN := Lib.hid (By.ext HY.out hbn)
    obtain ⟨k0, k1⟩ := HRD.out wn HYN.out
    clear hbn HY
    have HY := HYN
    clear HYN
    go_wp2_with fail
    go_ret
    exact ⟨rfl, By.ext HB1.out HY.out⟩
  · cases b1
    · go_enter Try.func14, Try.ntmps14
      go_wp2_with fail
      rw [← hw1]
      clear hw1
      have HY := Lib.hid (Below.refl w1.heap.size w1)
      go_wp2_with fail
      refine (HS0.out _ HY.out).mono ?_
      rintro e wn ⟨rfl, hbn⟩
      have HYN := Lib.hid (By.ext HY.out hbn)
      obtain ⟨k0, k1⟩ := HRD.out wn HYN.out
      clear hbn HY
      have HY := HYN
      clear HYN
      go_wp2_with fail
      go_wp2_with fail
      refine (HS1.out _ HY.out).mono ?_
      rintro e wn ⟨rfl, hbn⟩
      have HYN := Lib.hid (By.ext HY.out hbn)
      obtain ⟨k0, k1⟩ := HRD.out wn HYN.out
      clear hbn HY
      have HY := HYN
      clear HYN
      go_wp2_with fail
      go_wp2_with fail
      refine (HS2.out _ HY.out).mono ?_
      rintro e wn ⟨rfl, hbn⟩
      have HYN := Lib.hid (By.ext HY.out hbn)
      obtain ⟨k0, k1⟩ := HRD.out wn HYN.out
      clear hbn HY
      have HY := HYN
      clear HYN
      go_wp2_with fail
      go_ret
      exact ⟨rfl, By.ext HB1.out HY.out⟩
    · go_enter Try.func14, Try.ntmps14
      go_wp2_with fail
      rw [← hw1]
      clear hw1
      have HY := Lib.hid (Below.refl w1.heap.size w1)
      go_wp2_with fail
      refine (HS0.out _ HY.out).mono ?_
      rintro e wn ⟨rfl, hbn⟩
      have HYN := Lib.hid (By.ext HY.out hbn)
      obtain ⟨k0, k1⟩ := HRD.out wn HYN.out
      clear hbn HY
      have HY := HYN
      clear HYN
      go_wp2_with fail
      go_wp2_with fail
      refine (HS1.out _ HY.out).mono ?_
      rintro e wn ⟨rfl, hbn⟩
      have HYN := Lib.hid (By.ext HY.out hbn)
      obtain ⟨k0, k1⟩ := HRD.out wn HYN.out
      clear hbn HY
      have HY := HYN
      clear HYN
      go_wp2_with fail
      go_ret
      exact ⟨rfl, By.ext HB1.out HY.out⟩
end
end Go.Proofs.Ythocmnfmialcaaa.Cn

/-! The package's most at ints, Quorum; the reference's Quorum; as contracts of calls. -/
namespace Go.Proofs.Ythocmnfmialcaaa.Cn
open Go.RowKit By CoP Co Mo Kd

theorem countP_step {p : Int → Bool} {l : List Int} {k : Nat} {y : Int} (hy : l[k]? = some y) : (l.take (k + 1)).countP p = (l.take k).countP p + (if p y then 1 else 0) := by
  obtain ⟨hk, e⟩ := List.getElem?_eq_some_iff.1 hy
  rw [List.take_succ_eq_append_getElem hk, List.countP_append, e, List.countP_singleton]
/-- More than half. -/
def mostB (p : Int → Bool) (l : List Int) : Bool := decide (l.length / 2 < l.countP p)
set_option maxHeartbeats 1000000 in
theorem mostI_any (A : Option Addr) (n c B : Nat) (l : List Int) (hn : n = l.length) (hm : n ≤ 140737488355328) (g : Nat) (lb : Array Value) (p : Int → Bool) (eg : ∀ args w, (callFunc g args).run Try.prog w = .ok (.enter g args) w) (w : World)
    (hB : B ≤ w.heap.size) (hr : LiesI w B A l) (hp : Asks g lb p w) :
    Calls Try.prog 32 #[.slice A n c, .func (.func g) #[] lb] w (Says (mostB p l) w) := by
  have HN := Lib.hid hn
  have HR := Lib.hid hr
  have HP := Lib.hid hp
  clear hn hr hp
  go_enter Try.func32, Try.ntmps32
  go_wp2
  go_loopw [5, 7, 10] (fun s _ i wr => ∃ k m : Nat, k ≤ n ∧ m ≤ k ∧ s = .int .i64 m ∧ i = .int .i64 k ∧ Below w.heap.size w wr ∧ (l.take k).countP p = m) (fun _ _ i _ => n - (intOf i).toNat)
  case atStart => exact ⟨0, 0, Nat.zero_le _, Nat.le_refl _, rfl, rfl, Below.refl _ _, rfl⟩
  case round =>
    obtain ⟨k, m, hk, hmk, rfl, rfl, hb, hcnt⟩ := hrel
    have HCN := Lib.hid hcnt
    have HB := Lib.hid hb
    clear hcnt
    by_cases hkn : k < n
    · have hkl : k < l.length := by have := HN.out; omega
      obtain ⟨gg, o, rfl, hg, hc, hy0, hy1⟩ := (HR.out.below (hb.mono hB)).at_ hkl
      have HY := Lib.hid (List.getElem?_eq_getElem hkl)
      generalize l[k] = y at hc hy0 hy1 HY
      have HC := Lib.hid (HP.out _ y hy0 hy1 hb)
      have HS := Lib.hid (countP_step (p := p) HY.out)
      clear hkl hb hy0 hy1
      cases hq : p y with
      | true =>
        rw [hq, HCN.out] at HS
        rw [hq] at HC
        have HS2 := Lib.hid HS.out
        clear hq HS
        go_wp2_with (go_at_fn g; refine HC.out.mono ?_; rintro e w' ⟨rfl, hb'⟩; have HB' := Lib.hid hb'; clear hb')
        go_roundw
        case rel => exact ⟨k + 1, m + 1, by omega, by omega, by go_num, by go_num, ext HB.out HB'.out, HS2.out⟩
        case measure => simp [intOf]; omega
      | false =>
        rw [hq, HCN.out] at HS
        rw [hq] at HC
        have HS2 := Lib.hid HS.out
        clear hq HS
        go_wp2_with (go_at_fn g; refine HC.out.mono ?_; rintro e w' ⟨rfl, hb'⟩; have HB' := Lib.hid hb'; clear hb')
        go_roundw
        case rel => exact ⟨k + 1, m, by omega, by omega, rfl, by go_num, ext HB.out HB'.out, HS2.out⟩
        case measure => simp [intOf]; omega
    · obtain rfl : k = n := by omega
      have hI : mostB p l = decide ((k : Int) / 2 < (m : Int)) := by
        have h1 := HCN.out
        have h2 := HN.out
        rw [List.take_of_length_le (by omega)] at h1
        unfold mostB
        rw [h1, ← h2]
        exact decide_eq_decide.2 ⟨fun h => by omega, fun h => by omega⟩
      have HI := Lib.hid hI
      clear hb hI
      go_wp2
      go_ret
      rw [HI.out]
      exact ⟨rfl, HB.out⟩
/-- The closure of Quorum. -/
theorem quorum1_asks (w : World) (g : Nat) (A : Option Addr) (n c : Nat) (ids : List Int) (hn : n = ids.length) (hm : n ≤ 140737488355328) (hr : LiesI w w.heap.size A ids) (hg : g < w.heap.size) (hc : w.cell? ⟨g, 0, none⟩ = some (.slice A n c)) :
    Asks 33 #[.pointer (some ⟨g, 0, none⟩)] (fun y => decide (y ∈ ids)) w := fun W y h0 h1 hb => by
  have hc' := (hb.cell (p := ⟨g, 0, none⟩) hg).trans hc
  have HC := Lib.hid (cHas_any A n c w.heap.size ids hn hm y W hb.size (hr.below hb))
  clear hc hg hr hn hb h0 h1
  obtain ⟨b, hbq⟩ : ∃ b, b = decide (y ∈ ids) := ⟨_, rfl⟩
  rw [← hbq] at HC
  have HBQ := Lib.hid hbq
  clear hbq
  go_enter Try.func33, Try.ntmps33
  go_wp2_with fail
  refine HC.out.mono ?_
  rintro e w2 ⟨rfl, hb2⟩
  have HB := Lib.hid hb2
  clear hb2
  go_wp2
  go_ret
  refine ⟨?_, HB.out⟩
  rw [← HBQ.out]
  rfl
theorem quorum1_enters : ∀ args w, (callFunc 33 args).run Try.prog w = .ok (.enter 33 args) w := enters_of Try.func33 (by kernel_rfl) rfl
/-- Is it a majority? -/
def quorB (vs ls ids : List Int) : Bool := confB vs ls && mostB (fun v => decide (v ∈ ids)) vs
section
variable {w : World} {A A2 : Option Addr} {n c m c2 : Nat} {vs ls : List Int}
set_option maxHeartbeats 1000000 in
theorem quorum_any (h : CfAt w (Old w) A n c A2 m c2 vs ls) (A3 : Option Addr) (q c3 : Nat) (ids : List Int) (hq : q = ids.length) (hq47 : q ≤ 140737488355328) (hr : LiesI w w.heap.size A3 ids) :
    Calls Try.prog 17 #[cfV A n c A2 m c2, .slice A3 q c3] w (Says (quorB vs ls ids) w) := by
  obtain ⟨w1, hw1⟩ : ∃ w1, w1 = (w.alloc (.cells #[.slice A n c, .slice A2 m c2] 24)).alloc (.cells #[.slice A3 q c3] 22) := ⟨_, rfl⟩
  have hb1 : Below w.heap.size w w1 := by rw [hw1]; exact ((Below.refl _ _).alloc (Nat.le_refl _) _).alloc (by simp) _
  have hrow : w1.heap[w.heap.size]? = some (.cells #[.slice A n c, .slice A2 m c2] 24 (0, 0)) := by rw [hw1]; exact heap_alloc2_old w _ _
  have hrow2 : w1.heap[w.heap.size + 1]? = some (.cells #[.slice A3 q c3] 22 (0, 0)) := by rw [hw1]; exact heap_alloc2_new w _ _
  have hrd : ∀ w', Below w1.heap.size w1 w' → w'.cell? ⟨w.heap.size, 0, none⟩ = some (.slice A n c) ∧ w'.cell? ⟨w.heap.size, 1, none⟩ = some (.slice A2 m c2) := fun w' hb => by
    have hr := (hb.block _ (row_lt hrow)).trans hrow
    exact ⟨by rw [cell_of_row w' _ 0 _ _ _ hr]; rfl, by rw [cell_of_row w' _ 1 _ _ _ hr]; rfl⟩
  have hask : ∀ w', Below w1.heap.size w1 w' → Asks 33 #[.pointer (some ⟨w.heap.size + 1, 0, none⟩)] (fun y => decide (y ∈ ids)) w' := fun w' hb => by
    have hr2 := (hb.block _ (row_lt hrow2)).trans hrow2
    exact quorum1_asks w' _ A3 q c3 ids hq hq47 ((hr.below (hb1.trans (hb.mono hb1.size))).more (Nat.le_trans hb1.size hb.size)) (row_lt hr2) (by rw [cell_of_row w' _ 0 _ _ _ hr2]; rfl)
  have hs1 : ∀ w', Below w1.heap.size w1 w' → Calls Try.prog 32 #[.slice A n c, .func (.func 33) #[] #[.pointer (some ⟨w.heap.size + 1, 0, none⟩)]] w' (Says (mostB (fun v => decide (v ∈ ids)) vs) w') := fun w' hb =>
    mostI_any A n c w'.heap.size vs h.hn (by have := h.nv; omega) _ _ _ quorum1_enters w' (Nat.le_refl _) (h.below (By.ext hb1 hb)).v.lies (hask w' hb)
  have hs0 := checkc_any h w1 hb1
  unfold quorB
  generalize mostB (fun v => decide (v ∈ ids)) vs = b1 at hs1 ⊢
  generalize confB vs ls = b0 at hs0 ⊢
  obtain ⟨k0, k1⟩ := hrd w1 (Below.refl _ _)
  have HS0 := Lib.hid hs0
  have HS1 := Lib.hid hs1
  have HRD := Lib.hid hrd
  have HB1 := Lib.hid hb1
  clear hs0 hs1 hrd hb1 hask hrow hrow2 h hr hq
  cases b0
  · go_enter Try.func17, Try.ntmps17
    go_wp2_with fail
    rw [← hw1]
    clear hw1
    refine HS0.out.mono ?_
    rintro e w2 ⟨rfl, hb2⟩
    have HB2 := Lib.hid hb2
    obtain ⟨k0, k1⟩ := HRD.out w2 hb2
    clear hb2
    go_wp2
    go_ret
    exact ⟨rfl, By.ext HB1.out HB2.out⟩
  · go_enter Try.func17, Try.ntmps17
    go_wp2_with fail
    rw [← hw1]
    clear hw1
    refine HS0.out.mono ?_
    rintro e w2 ⟨rfl, hb2⟩
    have HB2 := Lib.hid hb2
    obtain ⟨k0, k1⟩ := HRD.out w2 hb2
    clear hb2
    go_wp2_with fail
    refine (HS1.out w2 HB2.out).mono ?_
    rintro e w3 ⟨rfl, hb3⟩
    have HB3 := Lib.hid hb3
    clear hb3
    go_wp2
    go_ret
    exact ⟨rfl, By.ext HB1.out (By.ext HB2.out HB3.out)⟩
end
end Go.Proofs.Ythocmnfmialcaaa.Cn

/-! The reference's Quorum, as a contract of a call. -/
namespace Go.Proofs.Ythocmnfmialcaaa.Cn
open Go.RowKit By CoP Co Mo Kd
variable {w : World} {A A2 : Option Addr} {n c m c2 : Nat} {vs ls : List Int}
set_option maxHeartbeats 1000000 in
theorem rQuorum_any (h : CfAt w (Old w) A n c A2 m c2 vs ls) (A3 : Option Addr) (q c3 : Nat) (ids : List Int) (hq : q = ids.length) (hq47 : q ≤ 140737488355328) (hr : LiesI w w.heap.size A3 ids) :
    Calls Try.prog 18 #[cfV A n c A2 m c2, .slice A3 q c3] w (Says (quorB vs ls ids) w) := by
  obtain ⟨w1, hw1⟩ : ∃ w1, w1 = w.alloc (.cells #[.slice A n c, .slice A2 m c2] 24) := ⟨_, rfl⟩
  have hb1 : Below w.heap.size w w1 := by rw [hw1]; exact (Below.refl _ _).alloc (Nat.le_refl _) _
  have hrow : w1.heap[w.heap.size]? = some (.cells #[.slice A n c, .slice A2 m c2] 24 (0, 0)) := by rw [hw1]; exact heap_alloc_new w _
  have hrd : ∀ w', Below w1.heap.size w1 w' → w'.cell? ⟨w.heap.size, 0, none⟩ = some (.slice A n c) ∧ w'.cell? ⟨w.heap.size, 1, none⟩ = some (.slice A2 m c2) := fun w' hb => by
    have hr := (hb.block _ (row_lt hrow)).trans hrow
    exact ⟨by rw [cell_of_row w' _ 0 _ _ _ hr]; rfl, by rw [cell_of_row w' _ 1 _ _ _ hr]; rfl⟩
  have hs1 : ∀ w', Below w1.heap.size w1 w' → ∀ y : Int, -9223372036854775808 ≤ y → y ≤ 9223372036854775807 → Calls Try.prog 22 #[.slice A3 q c3, .int .i64 y] w' (Ret (.bool (decide (y ∈ ids))) w') := fun w' hb y h0 h1 =>
    has_any A3 q c3 w.heap.size ids hq hq47 y h0 h1 w' (hr.below (hb1.trans (hb.mono hb1.size)))
  have hs0 : ∀ w', Below w1.heap.size w1 w' → Calls Try.prog 11 #[cfV A n c A2 m c2] w' (Says (confB vs ls) w') := fun w' hb => confOKc_any h w' (By.ext hb1 hb)
  have hv : LiesI w1 w.heap.size A vs := h.v.lies.below hb1
  have hnv := h.nv
  obtain ⟨k0, k1⟩ := hrd w1 (Below.refl _ _)
  have HS0 := Lib.hid hs0
  have HS1 := Lib.hid hs1
  have HRD := Lib.hid hrd
  have HB1 := Lib.hid hb1
  have HV := Lib.hid hv
  have HN := Lib.hid h.hn
  clear hs0 hs1 hrd hb1 hv hrow h hr hq
  go_enter Try.func18, Try.ntmps18
  go_wp2
  rw [← hw1]
  clear hw1
  go_loopw [5, 6] (fun s i wr => ∃ k z : Nat, k ≤ n ∧ z ≤ k ∧ s = .int .i64 z ∧ i = .int .i64 k ∧ wr = w1 ∧ (vs.take k).countP (fun v => decide (v ∈ ids)) = z) (fun _ i _ => n - (intOf i).toNat)
  case atStart => exact ⟨0, 0, Nat.zero_le _, Nat.le_refl _, rfl, rfl, rfl, rfl⟩
  case round =>
    obtain ⟨k, z, hk, hzk, rfl, rfl, rfl, hcnt⟩ := hrel
    have HCN := Lib.hid hcnt
    clear hcnt
    by_cases hkn : k < n
    · have hkl : k < vs.length := by have := HN.out; omega
      obtain ⟨gg, o, rfl, hg, hc, hy0, hy1⟩ := HV.out.at_ hkl
      have HY := Lib.hid (List.getElem?_eq_getElem hkl)
      generalize vs[k] = y at hc hy0 hy1 HY
      have HC := Lib.hid (HS1.out _ (Below.refl _ _) y hy0 hy1)
      have HS := Lib.hid (countP_step (p := fun v => decide (v ∈ ids)) HY.out)
      clear hkl hy0 hy1
      cases hq : decide (y ∈ ids) with
      | true =>
        rw [HCN.out, hq] at HS
        rw [hq] at HC
        have HS2 := Lib.hid HS.out
        clear hq HS
        go_wp2_with fail
        refine HC.out.mono ?_
        rintro e w2 ⟨rfl, rfl⟩
        go_wp2
        go_roundw
        case rel => exact ⟨k + 1, z + 1, by omega, by omega, by go_num, by go_num, trivial, HS2.out⟩
        case measure => simp [intOf]; omega
      | false =>
        rw [HCN.out, hq] at HS
        rw [hq] at HC
        have HS2 := Lib.hid HS.out
        clear hq HS
        go_wp2_with fail
        refine HC.out.mono ?_
        rintro e w2 ⟨rfl, rfl⟩
        go_wp2
        go_roundw
        case rel => exact ⟨k + 1, z, by omega, by omega, rfl, by go_num, trivial, HS2.out⟩
        case measure => simp [intOf]; omega
    · obtain rfl : k = n := by omega
      have hI : quorB vs ls ids = (confB vs ls && decide ((k : Int) - (z : Int) < (z : Int))) := by
        have h1 := HCN.out
        have h2 := HN.out
        rw [List.take_of_length_le (by omega)] at h1
        unfold quorB mostB
        rw [h1, ← h2]
        congr 1
        exact decide_eq_decide.2 ⟨fun h => by omega, fun h => by omega⟩
      have HI := Lib.hid hI
      have HC := Lib.hid (HS0.out _ (Below.refl _ _))
      clear hI
      generalize confB vs ls = b0 at HC HI
      have hzi : (z : Int) ≤ (k : Int) := by omega
      cases b0 with
      | false =>
        go_wp2_with fail
        refine HC.out.mono ?_
        rintro e w2 ⟨rfl, hb2⟩
        have HB2 := Lib.hid hb2
        clear hb2
        go_wp2
        go_ret
        rw [HI.out]
        exact ⟨rfl, By.ext HB1.out HB2.out⟩
      | true =>
        go_wp2_with fail
        refine HC.out.mono ?_
        rintro e w2 ⟨rfl, hb2⟩
        obtain ⟨k0, k1⟩ := HRD.out w2 hb2
        have HB2 := Lib.hid hb2
        have hw : IntKind.i64.wrap ((k : Int) - (z : Int)) = (k : Int) - (z : Int) := IntWalk.i64_in _ (by constructor <;> omega)
        clear hb2
        go_wp2
        go_ret
        rw [HI.out]
        exact ⟨rfl, By.ext HB1.out HB2.out⟩
end Go.Proofs.Ythocmnfmialcaaa.Cn
