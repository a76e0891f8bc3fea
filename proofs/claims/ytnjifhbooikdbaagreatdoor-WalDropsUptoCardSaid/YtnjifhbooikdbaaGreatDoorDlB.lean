/- Package disk's Names, as a contract of a call. -/
import Derived.Test.YtnjifhbooikdbaaGreatDoorDlA
namespace Go.Proofs.YtnjifhbooikdbaaGreatDoor.Dk
open Go.RowKit Go.Maps Go.Sort By Mp

def namesOf (F : Fs) : List Bs := F.map (·.1)
theorem blt_lt : ∀ {a b : Bs}, blt a b = true → a < b
  | [], [], h => by cases h
  | [], _ :: _, _ => List.nil_lt_cons _ _
  | _ :: _, [], h => by cases h
  | a :: r, b :: s, h => by
    have h : (decide (a < b) || (a == b && bytesBefore r s)) = true := h
    rw [List.cons_lt_cons_iff]
    rw [Bool.or_eq_true, decide_eq_true_eq, Bool.and_eq_true, beq_iff_eq] at h
    rcases h with h | ⟨h1, h2⟩
    · exact .inl h
    · exact .inr ⟨h1, blt_lt h2⟩
theorem names_sorted {F : Fs} (h : Up F) {ss : List Bs} (hp : ss.Perm (namesOf F)) : ss.mergeSort leB = namesOf F := by
  have tr : ∀ a b c : Bs, leB a b = true → leB b c = true → leB a c = true := fun a b c h1 h2 => by simp only [leB, decide_eq_true_eq] at *; exact List.le_trans h1 h2
  have tot : ∀ a b : Bs, (leB a b || leB b a) = true := fun a b => by simp only [leB, Bool.or_eq_true, decide_eq_true_eq]; exact List.le_total a b
  refine List.Perm.eq_of_pairwise (le := fun a b => leB a b = true) (fun a b _ _ h1 h2 => ?_) (List.pairwise_mergeSort tr tot ss) ?_ ((List.mergeSort_perm ss leB).trans hp)
  · simp only [leB, decide_eq_true_eq] at h1 h2
    exact List.le_antisymm h1 h2
  · unfold namesOf
    rw [List.pairwise_map]
    refine List.Pairwise.imp ?_ h
    intro p q hpq
    simp only [leB, decide_eq_true_eq]
    exact List.le_of_lt (blt_lt hpq)
theorem names_nodup {F : Fs} (h : Up F) : (namesOf F).Nodup := by
  unfold namesOf
  rw [List.Nodup, List.pairwise_map]
  exact List.Pairwise.imp (fun {p q} hpq => blt_ne hpq) h
theorem mem_names {F : Fs} {x : Bs} : x ∈ namesOf F ↔ (fget F x).isSome = true := by
  unfold namesOf
  constructor
  · intro h
    obtain ⟨p, hp, rfl⟩ := List.mem_map.1 h
    unfold fget
    rw [Option.isSome_map, List.find?_isSome]
    exact ⟨p, hp, by simp⟩
  · intro h
    obtain ⟨b, hb⟩ := Option.isSome_iff_exists.1 h
    exact List.mem_map.2 ⟨_, mem_fget hb, rfl⟩
/-- Strings in a row of the call's own. -/
def OwnSs (base : Nat) (w : World) (v : Value) (l : List Bs) : Prop := w.ownsRow base tStr 1 v l.length (l.map fun s => Value.string (str s))
def GivesN (l : List Bs) (w : World) (e : Ending) (w' : World) : Prop := ∃ v, e = .returned v ∧ OwnSs w.heap.size w' v l ∧ Below w.heap.size w w'
theorem fnames_some (g q : Nat) (F : Fs) (pb : Bs → Option Nat) (w : World) (hc0 : w.cell? ⟨g, 0, none⟩ = some (.map (some q))) (hf : FilesAt w (some q) F pb) (hup : Up F) (hlen : F.length ≤ 68719476736) :
    Calls Tryz.prog 61 #[.pointer (some ⟨g, 0, none⟩)] w (GivesN (namesOf F) w) := by
  obtain ⟨D, hown, hsz, hsay⟩ := hf.map q rfl
  have hperm : (namesOf F).Perm (strKeys D) := by
    refine Collected.perm (left := fun _ => false) ⟨names_nodup hup, fun x => ?_⟩ hown keyS Tryz.underlying9 (fun _ => rfl)
    have h1 := (hsay (.string x) (by simp [WideAt.IsKeyLit])).1
    rw [h1, mem_names]
    simp [fsGet]
  have hmax : Maps.size D ≤ maxLen := by rw [hsz]; unfold maxLen; omega
  have hbytes : Maps.size D * 16 ≤ 140737488355328 := by rw [hsz]; omega
  have HP := Lib.hid hperm
  have HU := Lib.hid hup
  clear hf hsay hperm hup hsz
  refine (callsIn_wide (n := 6)).1 ?_
  have hfK : Fence.wide.fn 79 := trivial
  have hfS : Fence.wide.fn 78 := trivial
  refine callsIn_of_wp Tryz.func61 rfl trivial ?_ rfl
  simp only [Tryz.ntmps61, List.size_toArray, List.length_cons, List.length_nil, Nat.reduceAdd, Nat.reduceSub, Array.replicate_succ, Array.replicate_zero, List.push_toArray, List.append_toArray, List.nil_append, List.cons_append]
  gi_wp2_with (first
    | (gi_at_call 79; refine (It.keysAt _ _).mono ?_; rintro e w' ⟨rfl, rfl⟩)
    | (gi_at_call 78; refine (It.sortedAt q _ D heldR w hown hmax hbytes).mono ?_; rintro e w' ⟨v, ss, rfl, hS, hrow, hnil, hb⟩))
  go_ret
  have hb0 : Below w.heap.size w w' := ((Below.refl _ w).alloc (Nat.le_refl _) _).trans (hb.mono (by simp))
  have hp : ss.Perm (namesOf F) := hS.trans HP.out.symm
  have hs := names_sorted HU.out hp
  refine ⟨v, rfl, ?_, hb0⟩
  unfold OwnSs
  rw [← hp.length_eq, ← hs]
  exact ownsRow_base hrow (by simp)
theorem fnames_none (g : Nat) (w : World) (hc0 : w.cell? ⟨g, 0, none⟩ = some (.map none)) :
    Calls Tryz.prog 61 #[.pointer (some ⟨g, 0, none⟩)] w (GivesN [] w) := by
  refine (callsIn_wide (n := 6)).1 ?_
  have hfK : Fence.wide.fn 79 := trivial
  have hfS : Fence.wide.fn 78 := trivial
  refine callsIn_of_wp Tryz.func61 rfl trivial ?_ rfl
  simp only [Tryz.ntmps61, List.size_toArray, List.length_cons, List.length_nil, Nat.reduceAdd, Nat.reduceSub, Array.replicate_succ, Array.replicate_zero, List.push_toArray, List.append_toArray, List.nil_append, List.cons_append]
  gi_wp2_with (first
    | (gi_at_call 79; refine (It.keysAt _ _).mono ?_; rintro e w' ⟨rfl, rfl⟩)
    | (gi_at_call 78; refine (It.sortedNil w).mono ?_; rintro e w' ⟨v, ss, rfl, hS, hrow, hnil, hb⟩))
  go_ret
  have hb0 : Below w.heap.size w w' := ((Below.refl _ w).alloc (Nat.le_refl _) _).trans (hb.mono (by simp))
  subst hS
  rw [List.mergeSort_nil] at hrow
  have hrow' : w'.ownsRow (w.alloc (.cells #[.map none] 41)).heap.size tStr 1 v 0 [] := hrow
  exact ⟨v, rfl, ownsRow_base hrow' (by simp), hb0⟩
/-- The names that are answered. -/
def namesS (s : DS) : List Bs := if s.down = true then [] else namesOf s.files
set_option maxHeartbeats 400000 in
theorem names_any (g : Nat) (s : DS) (S : Nat → Prop) (w : World) (h : DiskAt w g s S) (hcnt : s.cnt ≤ 68719476736) : Calls Tryz.prog 34 #[.pointer (some ⟨g, 0, none⟩)] w (GivesN (namesS s) w) := by
  obtain ⟨bm, sm, pb, ps, v, h⟩ := h
  have HWK := Lib.hid (works_any g s.down w h.down_)
  have hc0 : w.cell? ⟨g, 0, none⟩ = some (.map bm) := h.cells.1
  have hfn : Calls Tryz.prog 61 #[.pointer (some ⟨g, 0, none⟩)] w (GivesN (namesOf s.files) w) := by
    cases hb : bm with
    | none =>
      subst hb
      have := h.cur.none rfl
      rw [this]
      exact fnames_none g w hc0
    | some q =>
      subst hb
      exact fnames_some g q s.files pb w hc0 h.cur (up_all h.ok.up) (Nat.le_trans (files_le h.ok) hcnt)
  have HFN := Lib.hid hfn
  clear h hc0 hfn
  go_enter Tryz.func34, Tryz.ntmps34
  go_wp2_with fail
  refine HWK.out.mono ?_
  rintro e w' ⟨rfl, rfl⟩
  clear HWK
  cases hdown : s.down with
  | true =>
    have HR := Lib.hid (show namesS s = [] by unfold namesS; rw [if_pos hdown])
    clear hdown
    go_wp2
    go_ret
    rw [HR.out]
    exact ⟨_, rfl, World.ownsRow_nil w _ _ 1, Below.refl _ _⟩
  | false =>
    have HR := Lib.hid (show namesS s = namesOf s.files by unfold namesS; rw [hdown, if_neg (by simp)])
    clear hdown
    go_wp2_with fail
    refine HFN.out.mono ?_
    rintro e w1 ⟨v1, rfl, ho1, hb1⟩
    obtain ⟨A1, c1, rfl⟩ := ownsRow_form ho1
    have HO := Lib.hid ho1
    have HB := Lib.hid hb1
    clear ho1 hb1 HFN
    go_wp2
    go_ret
    rw [HR.out]
    exact ⟨_, rfl, HO.out, HB.out⟩
end Go.Proofs.YtnjifhbooikdbaaGreatDoor.Dk
