/- Append to a log of one segment at most, over what its files hold. | WalBack's calls: the first Append, Open behind a fall, the second Append, whatever comes in. | WalBack's second Append, whatever comes in. | Rows of slices of bytes laid one behind the other: the model's records. -/
import Derived.Test.YtnjifhbooikdbaaGreatDoorWg4
import Derived.Test.YtnjifhbooikdbaaGreatDoorWg3
import Derived.Test.YtnjifhbooikdbaaGreatDoorWg1
/-! Append to a log of one segment at most, over what its files hold. -/
namespace Go.Proofs.YtnjifhbooikdbaaGreatDoor.Wa
open Go.RowKit Go.Maps By Mp Dk

theorem dig_name : ∀ m : Fin 36, nameC (dig m.val) = true ∧ dig m.val ≠ 46 := by decide
theorem b36_chars (n : Nat) : ∀ c ∈ b36 n, nameC c = true ∧ c ≠ 46 := by
  induction n using Nat.strongRecOn with
  | ind n ih =>
    intro c hc
    by_cases h : n < 36
    · rw [b36_lt h] at hc
      simp only [List.mem_cons, List.not_mem_nil, or_false] at hc
      rw [hc]
      exact dig_name ⟨n, h⟩
    · rw [b36_ge h] at hc
      rcases List.mem_append.1 hc with hc | hc
      · exact ih (n / 36) (by omega) c hc
      · simp only [List.mem_cons, List.not_mem_nil, or_false] at hc
        rw [hc]
        exact dig_name ⟨n % 36, Nat.mod_lt _ (by decide)⟩
theorem b36_ne (n : Nat) : 1 ≤ (b36 n).length := by
  by_cases h : n < 36
  · rw [b36_lt h]; simp
  · rw [b36_ge h]; simp
theorem seg_named {s : Seg} (h1 : s.era < 18446744073709551616) (h2 : s.first < 18446744073709551616) : named s.name = true := by
  have l1 := b36_le h1
  have l2 := b36_le h2
  rw [named_eq, Bool.and_eq_true, Bool.and_eq_true, decide_eq_true_eq, decide_eq_true_eq]
  unfold Seg.name
  refine ⟨⟨by simp, ?_⟩, ?_⟩
  · simp only [List.length_append]
    have h3 : (if s.base = true then ([46, 98] : Bs) else []).length ≤ 2 := by cases s.base <;> decide
    have h4 : ([119, 46] : Bs).length = 2 := rfl
    have h5 : ([46] : Bs).length = 1 := rfl
    omega
  · rw [List.all_eq_true]
    intro c hc
    simp only [List.mem_append] at hc
    rcases hc with (((hc | hc) | hc) | hc) | hc
    · simp only [List.mem_cons, List.not_mem_nil, or_false] at hc
      rcases hc with rfl | rfl <;> decide
    · exact (b36_chars _ c hc).1
    · simp only [List.mem_cons, List.not_mem_nil, or_false] at hc
      rw [hc]; decide
    · exact (b36_chars _ c hc).1
    · cases hb : s.base with
      | true =>
        rw [hb] at hc
        simp only [if_true, List.mem_cons, List.not_mem_nil, or_false] at hc
        rcases hc with rfl | rfl <;> decide
      | false => rw [hb] at hc; simp at hc
/-- A later segment's file is not the first one's. -/
theorem names_apart (f : Nat) (e1 e2 : List Nat) : (⟨0, f, false, e1⟩ : Seg).name ≠ (⟨0, 1, true, e2⟩ : Seg).name := by
  intro h
  unfold Seg.name at h
  simp only [if_true, Bool.false_eq_true, if_false, List.append_nil] at h
  rw [List.append_assoc ([119, 46] ++ b36 0) [46] (b36 f), List.append_assoc ([119, 46] ++ b36 0 ++ [46]), List.append_assoc ([119, 46] ++ b36 0) [46]] at h
  have h := List.append_cancel_left h
  have h := List.append_cancel_left h
  have hm : (46 : UInt8) ∈ b36 f := by rw [h]; simp
  exact (b36_chars f 46 hm).2 rfl
/-- A Put that is not refused, on a disk without a fuse. -/
theorem put_ok {s : DS} {nm D : Bs} {off : Nat} (hd : s.down = false) (hf : s.fuse = 0) (hn : named nm = true) (hoff : off ≤ 4194304) (hl : s.files.length < 4096) (hup : Up s.files) (ho : off = (bytesOf s.files nm).length) (hroom : ((fsize s.files + D.length : Nat) : Int) ≤ s.room) :
    chgE s 1 nm (off : Int) D = 0 ∧ chgS s 1 nm (off : Int) D = { s with unsure := s.unsure ++ [⟨1, nm, off, D⟩] } ∧ (chgS s 1 nm (off : Int) D).files = fput nm (bytesOf s.files nm ++ D) s.files ∧ fsize (chgS s 1 nm (off : Int) D).files = fsize s.files + D.length := by
  have hdo : doW s.files ⟨1, nm, off, D⟩ = fput nm (bytesOf s.files nm ++ D) s.files := by
    unfold doW
    rw [if_neg (fun e => absurd (show (1 : Nat) = 3 from e) (by decide)), if_neg (fun e => absurd (show (1 : Nat) = 2 from e) (by decide))]
    show fput nm (putB (bytesOf s.files nm) off D) s.files = _
    congr 1
    unfold putB padTo
    rw [ho]
    simp
  have hsz : fsize (fput nm (bytesOf s.files nm ++ D) s.files) = fsize s.files + D.length := by
    have h1 := (size_put nm (bytesOf s.files nm ++ D) hup).1
    have h2 : flen s.files nm = (bytesOf s.files nm).length := rfl
    rw [List.length_append] at h1
    omega
  have hr : Dk.refusal s 1 nm (off : Int) D = 0 := by
    unfold Dk.refusal
    rw [if_neg (by rw [hd]; decide), if_neg (by rw [hn]; simp; omega), if_neg (by omega), Int.toNat_natCast, hdo, hsz, if_neg (by omega)]
  have hb : burnt s = s := by unfold burnt; rw [if_pos hf]
  have hbs : burns s = false := by unfold burns; rw [hf]; rfl
  have hc : chgS s 1 nm (off : Int) D = { s with unsure := s.unsure ++ [⟨1, nm, off, D⟩] } := by
    unfold chgS
    rw [hr, if_neg (by simp), if_neg (by rw [hbs]; decide), hb, Int.toNat_natCast]
  have hfl : (chgS s 1 nm (off : Int) D).files = fput nm (bytesOf s.files nm ++ D) s.files := by
    rw [hc]
    show (s.unsure ++ [_]).foldl doW s.sure = _
    rw [List.foldl_append]
    exact hdo
  refine ⟨?_, hc, hfl, by rw [hfl, hsz]⟩
  unfold chgE
  rw [hr, if_neg (by simp), if_neg (by rw [hbs]; decide)]
end Go.Proofs.YtnjifhbooikdbaaGreatDoor.Wa

/-! WalBack's calls: the first Append, Open behind a fall, the second Append, whatever comes in. -/
namespace Go.Proofs.YtnjifhbooikdbaaGreatDoor.Wa
open Go.RowKit Go.Maps By Mp Dk

/-- The files of a log of these records. -/
def oneF (a : List Bs) : Fs := if a = [] then [] else [(nmW, framesB a)]
theorem segW_name (a : List Bs) : (segW a).name = nmW := seg0_name
theorem last_in_empty (g d : Nat) (T : Nat → Prop) (w : World) (h : LogAt w g d [] false T) : Calls Tryz.prog 19 #[.pointer (some ⟨g, 0, none⟩)] w (LastIn w) :=
  (last_empty g d false T w h).mono fun e w' ⟨he, hb⟩ => ⟨0, seg0, none, 0, he, ⟨by decide, by decide, by decide⟩, by decide, fun hn => absurd hn (by decide), hb⟩
theorem lays_one {b : List Bs} {F : Fs} (hF : fget F nmW = some (framesB b)) (h6 : ∀ l ∈ b, l.length ≤ 65520) : Lays [segW b] [b] F := by
  refine ⟨rfl, fun k s p hs hp => ?_, fun p hp r hr => ?_⟩
  · cases k with
    | zero =>
      simp only [List.getElem?_cons_zero, Option.some.injEq] at hs hp
      subst hs
      subst hp
      exact ⟨rfl, rfl, by rw [segW_name]; exact hF, by rw [segW_name]; decide⟩
    | succ k => simp at hs
  · simp only [List.mem_cons, List.not_mem_nil, or_false] at hp
    subst hp
    exact h6 r hr
theorem lays_none (F : Fs) : Lays [] [] F := ⟨rfl, fun k s p hs _ => by simp at hs, fun p hp => by simp at hp⟩
def FirstPost (g d : Nat) (a : List Bs) (S T : Nat → Prop) (w : World) (e : Ending) (w' : World) : Prop :=
  e = .returned (.int .i64 0) ∧ ∃ (l : List Seg) (s : DS) (S' T' : Nat → Prop), LogAt w' g d l false T' ∧ DiskAt w' d s S' ∧ (∀ x, T' x → S' x → False) ∧ s.down = false ∧ s.fuse = 0 ∧ s.room = 4000000 ∧ s.cnt ≤ 3 ∧ s.files = oneF a ∧ (∃ P, Lays l P s.files ∧ P.flatten = a) ∧ (∀ x, S' x → S x ∨ w.heap.size ≤ x) ∧ (∀ x, T' x → T x ∨ w.heap.size ≤ x) ∧ Kept (fun x => S x ∨ T x) w w'
theorem put_first {s : DS} {a : List Bs} (hd : s.down = false) (hf : s.fuse = 0) (hfl : s.files = []) (hroom : s.room = 4000000) (hb : (framesB a).length ≤ 1000640) :
    chgE s 1 seg0.name 0 (framesB a) = 0 ∧ chgS s 1 seg0.name 0 (framesB a) = { s with unsure := s.unsure ++ [⟨1, seg0.name, 0, framesB a⟩] } ∧ (chgS s 1 seg0.name 0 (framesB a)).files = [(nmW, framesB a)] := by
  have hn : named seg0.name = true := by rw [seg0_name]; decide
  have h := put_ok (s := s) (nm := seg0.name) (D := framesB a) (off := 0) hd hf hn (by omega) (by rw [hfl]; decide) (by rw [hfl]; exact List.Pairwise.nil) (by rw [hfl]; rfl) (by rw [hfl, hroom]; simp [fsize]; omega)
  refine ⟨h.1, h.2.1, ?_⟩
  have h3 := h.2.2.1
  rw [hfl] at h3
  rw [show ((0 : Nat) : Int) = 0 from rfl] at h3
  rw [h3, seg0_name]
  rfl
theorem first_append (g d : Nat) (a : List Bs) (A : Option Addr) (c : Nat) (S T : Nat → Prop) (s : DS) (w : World) (hw : LogW w g d [] false T (.slice none 0 0) []) (hd : DiskAt w d s S) (hsep : ∀ b, T b → S b → False) (hdn : s.down = false) (hf : s.fuse = 0) (hfl : s.files = []) (hroom : s.room = 4000000) (hcnt : s.cnt ≤ 2)
    (hr : LiesL w w.heap.size A a) (h6 : ∀ l ∈ a, l.length ≤ 65520) (hn : a.length ≤ 40) (hb : (framesB a).length ≤ 1000640) :
    Calls Tryz.prog 7 #[.pointer (some ⟨g, 0, none⟩), .slice A a.length c] w (FirstPost g d a S T w) := by
  by_cases ha : a = []
  · subst ha
    refine (append_none g d s S T [] A c w ⟨_, _, hw⟩ hd hdn (last_in_empty g d T w ⟨_, _, hw⟩)).mono ?_
    rintro e w' ⟨he, hb'⟩
    exact ⟨he, [], s, S, T, (show LogAt w g d [] false T from ⟨_, _, hw⟩).below hb', hd.below hb', hsep, hdn, hf, hroom, by omega, by rw [hfl]; rfl, ⟨[], lays_none _, rfl⟩, fun _ h => .inl h, fun _ h => .inl h, Kept.of_below hb'⟩
  · have hp := put_first (s := s) (a := a) hdn hf hfl hroom hb
    have hlen : 0 < a.length := by cases a with | nil => exact absurd rfl ha | cons x r => simp
    refine (append_first g d s S T A c a w hw hd hsep (by omega) hr h6 (by omega) hlen (by omega) hp.1).mono ?_
    rintro e w' ⟨he, S', T', h1, h2, h3, h4, h5, hk⟩
    rw [hp.2.1] at h1
    have hF : ({ s with unsure := s.unsure ++ [⟨1, seg0.name, 0, framesB a⟩] } : DS).files = [(nmW, framesB a)] := by rw [← hp.2.1]; exact hp.2.2
    refine ⟨he, _, _, S', T', h2, h1, h3, hdn, hf, hroom, ?_, ?_, ⟨[a], ?_, by simp⟩, h4, h5, hk⟩
    · unfold DS.cnt at hcnt ⊢
      simp only [List.length_append, List.length_cons, List.length_nil]
      omega
    · rw [hF]; unfold oneF; rw [if_neg ha]
    · rw [hF]; exact lays_one (by rw [fget_cons, if_pos rfl]) h6
/-- Behind Open. -/
def AgainPost (d : Nat) (a : List Bs) (w : World) (e : Ending) (w' : World) : Prop :=
  ∃ (g : Nat) (T : Nat → Prop), e = .returned (.tuple #[.pointer (some ⟨g, 0, none⟩), .int .i64 0]) ∧ ((a = [] ∧ LogW w' g d [] false T (.slice none 0 0) []) ∨ (a ≠ [] ∧ LogAt w' g d [segW a] false T)) ∧ (∀ b, T b → w.heap.size ≤ b) ∧ Below w.heap.size w w'
theorem open_again (d : Nat) (a : List Bs) (S : Nat → Prop) (w : World) (hd : DiskAt w d (calmS (oneF a) 4000000) S) (h6 : ∀ l ∈ a, l.length ≤ 65520) (hn : a.length ≤ 40) (hb : (framesB a).length ≤ 1000640) :
    Calls Tryz.prog 5 #[.pointer (some ⟨d, 0, none⟩)] w (AgainPost d a w) := by
  by_cases ha : a = []
  · subst ha
    refine (open_new d _ S w hd rfl (by decide) rfl).mono ?_
    rintro e w' ⟨g, T, he, h1, h2, h3⟩
    exact ⟨g, T, he, .inl ⟨rfl, h1⟩, h2, h3⟩
  · have hF : oneF a = [(nmW, framesB a)] := by unfold oneF; rw [if_neg ha]
    rw [hF] at hd
    have hre : readE (calmS [(nmW, framesB a)] 4000000) nmW = 0 := by
      unfold readE
      rw [if_neg (by show ¬ (false = true); decide), if_neg (by decide), if_neg]
      show ¬ ((fget [(nmW, framesB a)] nmW).isSome = false)
      rw [fget_cons, if_pos rfl]
      simp
    have hrb : readB (calmS [(nmW, framesB a)] 4000000) nmW = framesB a := by
      unfold readB
      rw [if_pos hre]
      show (fget [(nmW, framesB a)] nmW).getD [] = _
      rw [fget_cons, if_pos rfl]
      rfl
    refine (open_one d _ S a w hd rfl (by unfold DS.cnt calmS; simp) rfl hre hrb (by omega) (fun r hr => by have := h6 r hr; omega) (by omega)).mono ?_
    rintro e w' ⟨g, T, he, h1, h2, h3⟩
    exact ⟨g, T, he, .inr ⟨ha, h1⟩, h2, h3⟩
theorem lays_two {a b : List Bs} {F : Fs} (hF : fget F nmW = some (framesB a)) (hF2 : fget F (⟨0, 1 + a.length, false, endsOf 0 b⟩ : Seg).name = some (framesB b)) (hl : a.length ≤ 40) (h6 : ∀ l ∈ a, l.length ≤ 65520) (h6' : ∀ l ∈ b, l.length ≤ 65520) : Lays [segW a, ⟨0, 1 + a.length, false, endsOf 0 b⟩] [a, b] F := by
  refine ⟨rfl, fun k s p hs hp => ?_, fun p hp r hr => ?_⟩
  · cases k with
    | zero =>
      simp only [List.getElem?_cons_zero, Option.some.injEq] at hs hp
      subst hs
      subst hp
      exact ⟨rfl, rfl, by rw [segW_name]; exact hF, by rw [segW_name]; decide⟩
    | succ k =>
      cases k with
      | zero =>
        simp only [List.getElem?_cons_succ, List.getElem?_cons_zero, Option.some.injEq] at hs hp
        subst hs
        subst hp
        exact ⟨by simp [starts], rfl, hF2, seg_named (by show (0 : Nat) < _; decide) (by show 1 + a.length < _; omega)⟩
      | succ k => simp at hs
  · simp only [List.mem_cons, List.not_mem_nil, or_false] at hp
    rcases hp with rfl | rfl
    · exact h6 r hr
    · exact h6' r hr
end Go.Proofs.YtnjifhbooikdbaaGreatDoor.Wa

/-! WalBack's second Append, whatever comes in. -/
namespace Go.Proofs.YtnjifhbooikdbaaGreatDoor.Wa
open Go.RowKit Go.Maps By Mp Dk

def SecondPost (g d : Nat) (R : List Bs) (S T : Nat → Prop) (w : World) (e : Ending) (w' : World) : Prop :=
  e = .returned (.int .i64 0) ∧ ∃ (l : List Seg) (P : List (List Bs)) (s : DS) (S' T' : Nat → Prop), LogAt w' g d l false T' ∧ DiskAt w' d s S' ∧ Lays l P s.files ∧ P.flatten = R ∧ s.down = false ∧ (∀ x, S' x → S x ∨ w.heap.size ≤ x) ∧ (∀ x, T' x → T x ∨ w.heap.size ≤ x) ∧ Kept (fun x => S x ∨ T x) w w'
theorem last_in_one (g d : Nat) (a : List Bs) (T : Nat → Prop) (w : World) (h : LogAt w g d [segW a] false T) (_hn : a.length ≤ 40) (hb : (framesB a).length ≤ 1000640) : Calls Tryz.prog 19 #[.pointer (some ⟨g, 0, none⟩)] w (LastIn w) := by
  obtain ⟨v, ac, hw⟩ := h
  refine (last_any g d [segW a] false T v ac w hw (by simp)).mono ?_
  rintro e w' ⟨k, sg, A, c, he, hl, hok, hor, hb'⟩
  refine ⟨k, sg, A, c, he, hok, ?_, ?_, hb'⟩
  · rcases hor with ⟨_, h2, _⟩ | ⟨_, h2, _⟩
    · have hk : k = 0 := by have := (List.getElem?_eq_some_iff.1 h2).1; simp at this; omega
      subst hk
      simp at h2
      rw [← h2, segW_size]
      omega
    · unfold Seg.size Seg.start Seg.next
      rw [h2]
      simp
  · rcases hor with ⟨_, h2, h3⟩ | ⟨_, h2, _⟩
    · have hk : k = 0 := by have := (List.getElem?_eq_some_iff.1 h2).1; simp at this; omega
      subst hk
      obtain ⟨ub, cap, A', c', _, _, h4, h5, _⟩ := hw.at_ (k := 0) (by simp)
      rw [h3] at h4
      injection h4 with h4
      injection h4 with h4 _
      simp at h2
      subst h2
      rw [h4]
      exact h5
    · rw [h2]
      exact fun hn => absurd hn (by simp)
theorem second_append (g d : Nat) (a b : List Bs) (A : Option Addr) (c : Nat) (S T : Nat → Prop) (w : World) (hop : (a = [] ∧ LogW w g d [] false T (.slice none 0 0) []) ∨ (a ≠ [] ∧ LogAt w g d [segW a] false T)) (hd : DiskAt w d (calmS (oneF a) 4000000) S) (hsep : ∀ b, T b → S b → False)
    (hr : LiesL w w.heap.size A b) (h6 : ∀ l ∈ a, l.length ≤ 65520) (h6' : ∀ l ∈ b, l.length ≤ 65520) (hn : a.length ≤ 40) (hn' : b.length ≤ 40) (hb : (framesB a).length + (framesB b).length ≤ 1000640) :
    Calls Tryz.prog 7 #[.pointer (some ⟨g, 0, none⟩), .slice A b.length c] w (SecondPost g d (a ++ b) S T w) := by
  rcases hop with ⟨ha, hw⟩ | ⟨ha, hlog⟩
  · subst ha
    refine (first_append g d b A c S T (calmS (oneF []) 4000000) w hw hd hsep rfl rfl rfl rfl (by decide) hr h6' hn' (by omega)).mono ?_
    rintro e w' ⟨he, l, s, S', T', h1, h2, h3, h4, h5, h7, h8, h9, ⟨P, h10, h11⟩, h12, h13, h14⟩
    exact ⟨he, l, P, s, S', T', h1, h2, h10, by rw [h11]; rfl, h4, h12, h13, h14⟩
  · have hF : oneF a = [(nmW, framesB a)] := by unfold oneF; rw [if_neg ha]
    have hfl : (calmS (oneF a) 4000000).files = [(nmW, framesB a)] := hF
    have hg : fget [(nmW, framesB a)] nmW = some (framesB a) := by rw [fget_cons, if_pos rfl]
    by_cases hb0 : b = []
    · subst hb0
      refine (append_none g d _ S T [segW a] A c w hlog hd rfl (last_in_one g d a T w hlog hn (by omega))).mono ?_
      rintro e w' ⟨he, hb'⟩
      exact ⟨he, [segW a], [a], _, S, T, hlog.below hb', hd.below hb', by rw [hfl]; exact lays_one hg h6, by simp, rfl, fun _ h => .inl h, fun _ h => .inl h, Kept.of_below hb'⟩
    · have hlen : 0 < b.length := by cases b with | nil => exact absurd rfl hb0 | cons x r => simp
      obtain ⟨v, ac, hw⟩ := hlog
      have hls : lastS [segW a] = if (segW a).size < 512 ∨ 1024 ≤ 1 then (0, segW a) else (1, ⟨0, (segW a).next, false, []⟩) := lastS_at (l := [segW a]) (k := 0) (by simp) rfl
      have hnx : (segW a).next = 1 + a.length := by show 1 + (endsOf 0 a).length = _; rw [endsOf_length]
      rw [segW_size, hnx] at hls
      by_cases hsm : (framesB a).length < 512
      · rw [if_pos (.inl hsm)] at hls
        have hp := put_ok (s := calmS (oneF a) 4000000) (nm := nmW) (D := framesB b) (off := (framesB a).length) rfl rfl (by decide) (by omega) (by rw [hfl]; simp) (by rw [hfl]; exact List.pairwise_singleton _ _) (by rw [hfl]; unfold bytesOf; rw [hg]; rfl) (by rw [hfl]; show ((fsize [(nmW, framesB a)] + _ : Nat) : Int) ≤ 4000000; rw [fsize_cons]; simp [fsize]; omega)
        refine (append_any g d _ S T [segW a] v ac A c b w hw (by simp) hd hsep (by rw [hF]; unfold DS.cnt calmS; simp) hr h6' (by omega) hlen ?_ (by simp)).mono ?_
        · rw [hls]
          refine ⟨by show (segW a).size + _ ≤ _; rw [segW_size]; omega, by show (segW a).next + _ < _; rw [hnx]; omega, by show (endsOf 0 a).length + _ ≤ _; rw [endsOf_length]; omega, ?_⟩
          show chgE _ 1 (segW a).name ((segW a).size : Int) _ = 0
          rw [segW_name, segW_size]
          exact hp.1
        · rintro e w' ⟨he, S', T', h1, h2, h3, h4, h5, hk⟩
          have hl : appL [segW a] b = [segW (a ++ b)] := by
            unfold appL
            rw [hls]
            show [] ++ [(⟨0, 1, true, endsOf 0 a ++ endsOf (segW a).size b⟩ : Seg)] = _
            rw [segW_size, List.nil_append]
            show [(⟨0, 1, true, _⟩ : Seg)] = [⟨0, 1, true, endsOf 0 (a ++ b)⟩]
            rw [endsOf_app, Nat.zero_add]
          have hD : appD [segW a] (calmS (oneF a) 4000000) b = chgS (calmS (oneF a) 4000000) 1 nmW ((framesB a).length : Int) (framesB b) := by
            unfold appD
            rw [hls]
            show chgS _ 1 (segW a).name ((segW a).size : Int) _ = _
            rw [segW_name, segW_size]
          rw [hl] at h2
          rw [hD] at h1
          refine ⟨he, [segW (a ++ b)], [a ++ b], _, S', T', h2, h1, lays_one ?_ (fun l hl => ?_), by simp, by rw [hp.2.1]; rfl, h4, h5, hk⟩
          · rw [hp.2.2.1, fget_put, if_pos rfl, framesB_app, hfl]
            unfold bytesOf
            rw [hg]
            rfl
          · rcases List.mem_append.1 hl with h | h
            · exact h6 l h
            · exact h6' l h
      · rw [if_neg (by omega)] at hls
        obtain ⟨nn, hnn⟩ : ∃ nn, nn = (⟨0, 1 + a.length, false, []⟩ : Seg).name := ⟨_, rfl⟩
        have hne : nn ≠ nmW := by rw [hnn, ← segW_name a]; exact names_apart _ _ _
        have hgn : fget [(nmW, framesB a)] nn = none := by rw [fget_cons, if_neg (fun e => hne e.symm)]; rfl
        have hnd : named nn = true := by rw [hnn]; exact seg_named (by show (0 : Nat) < _; decide) (by show 1 + a.length < _; omega)
        have hp := put_ok (s := calmS (oneF a) 4000000) (nm := nn) (D := framesB b) (off := 0) rfl rfl hnd (by omega) (by rw [hfl]; simp) (by rw [hfl]; exact List.pairwise_singleton _ _) (by rw [hfl]; unfold bytesOf; rw [hgn]; rfl) (by rw [hfl]; show ((fsize [(nmW, framesB a)] + _ : Nat) : Int) ≤ 4000000; rw [fsize_cons]; simp [fsize]; omega)
        have hs0 : (⟨0, 1 + a.length, false, []⟩ : Seg).size = 0 := by unfold Seg.size Seg.start Seg.next; simp
        refine (append_any g d _ S T [segW a] v ac A c b w hw (by simp) hd hsep (by rw [hF]; unfold DS.cnt calmS; simp) hr h6' (by omega) hlen ?_ (by simp)).mono ?_
        · rw [hls]
          refine ⟨by show (⟨0, 1 + a.length, false, []⟩ : Seg).size + _ ≤ _; rw [hs0]; omega, by show 1 + a.length + 0 + _ < _; omega, by show 0 + _ ≤ _; omega, ?_⟩
          show chgE _ 1 (⟨0, 1 + a.length, false, []⟩ : Seg).name ((⟨0, 1 + a.length, false, []⟩ : Seg).size : Int) _ = 0
          rw [hs0, ← hnn]
          exact hp.1
        · rintro e w' ⟨he, S', T', h1, h2, h3, h4, h5, hk⟩
          have hl : appL [segW a] b = [segW a, ⟨0, 1 + a.length, false, endsOf 0 b⟩] := by
            unfold appL
            rw [hls]
            show [segW a] ++ [(⟨0, 1 + a.length, false, [] ++ endsOf (⟨0, 1 + a.length, false, []⟩ : Seg).size b⟩ : Seg)] = _
            rw [hs0]
            rfl
          have hD : appD [segW a] (calmS (oneF a) 4000000) b = chgS (calmS (oneF a) 4000000) 1 nn ((0 : Nat) : Int) (framesB b) := by
            unfold appD
            rw [hls]
            show chgS _ 1 (⟨0, 1 + a.length, false, []⟩ : Seg).name ((⟨0, 1 + a.length, false, []⟩ : Seg).size : Int) _ = _
            rw [hs0, ← hnn]
          rw [hl] at h2
          rw [hD] at h1
          have hnb : (⟨0, 1 + a.length, false, endsOf 0 b⟩ : Seg).name = nn := by rw [hnn]; rfl
          refine ⟨he, _, [a, b], _, S', T', h2, h1, lays_two ?_ ?_ hn h6 h6', by simp, by rw [hp.2.1]; rfl, h4, h5, hk⟩
          · rw [hp.2.2.1, fget_put, if_neg (fun e => hne e.symm), hfl]
            exact hg
          · rw [hnb, hp.2.2.1, fget_put, if_pos rfl, hfl]
            unfold bytesOf
            rw [hgn]
            rfl
end Go.Proofs.YtnjifhbooikdbaaGreatDoor.Wa

/-! Rows of slices of bytes laid one behind the other: the model's records. -/
namespace Go.Proofs.YtnjifhbooikdbaaGreatDoor.Wa
open Go.RowKit Go.Maps By Mp Dk

/-- Appending a row of slices to a row of the call's own, by its run. -/
theorem run_appR {base base2 : Nat} {w : World} {v : Value} {vs us : List Value} (hown : Sl.OwnL base w v vs) {A : Option Addr} {m c : Nat} (hx : Sl.OwnL base2 w (.slice A m c) us) (hone : ∀ u ∈ us, u.oneCell' = true)
    (hsz : vs.length + us.length ≤ 1048577) (hbase : base ≤ w.heap.size) (ty : TypeId) :
    ∃ v' w', (Builtin.append_ #[22, 22] ty #[v, .slice A m c]).run Tryz.prog w = .ok v' w' ∧ Sl.OwnL base w' v' (vs ++ us) ∧ Below base w w' ∧ w.grownBy w' v.ownBlock := by
  obtain ⟨i0, hi, hz0, hz1, hz2⟩ := info_parts Sl.slInfo
  have hm : m = us.length := by
    obtain ⟨A', c', e⟩ := ownsRow_form hx
    injection e
  subst hm
  rcases hx.2 with ⟨hv, h0⟩ | ⟨g, cap, cur, hv, hb, hg, hnc, hmm, hs, ht⟩
  · injection hv with e1 e2 e3
    have hu : us = [] := List.length_eq_zero_iff.1 h0
    subst hu e1
    exact ⟨v, w, By.run_append_none w base _ ty _ i0 1 Tryz.underlying22 hi v _ _ hown c, by simpa using hown, Below.refl _ _, ⟨rfl, rfl, rfl, Nat.le_refl _, fun _ _ _ => rfl⟩⟩
  · injection hv with e1 e2 e3
    subst e1
    have hcells : ∀ (j : Nat) (u : Value), us[j]? = some u → w.cell? ((⟨g, 0, none⟩ : Addr).add j) = some u := fun j u hu => World.ownsRow.cells hx (g := g) rfl j u hu
    obtain ⟨v', w', hrun, h2, h3, _⟩ := run_append_own (P := Tryz.prog) w base 22 ty 32 i0 (.slice none 0 0) 1 24 Tryz.underlying22 hi hz0 hz1 hz2 rfl (by decide) v vs.length vs hown ⟨g, 0, none⟩ us.length c us (by omega) hcells hone
      (by unfold maxLen; omega) (by omega) hbase
    exact ⟨v', w', hrun, by unfold Sl.OwnL; rw [List.length_append]; exact h2, (Below.refl base w).grown h3 hbase (fun k hk => (ownsRow_lt hown hk).1), h3⟩
theorem wpList_appR {ops : Array Oper} {rest : List Oper} {o : Oper} {a : Act} {Q : Exit → Act → World → Prop} {w : World} (hgd : o.guard = none) (s x : Operand)
    (ho : o.op = .call { callee := .builtin .append, args := #[s, x], argTypes := #[22, 22] })
    {base base2 : Nat} {v : Value} {vs us : List Value} (hs : a.eval s = v) (hown : Sl.OwnL base w v vs) {A : Option Addr} {m c : Nat} (hx : a.eval x = .slice A m c) (hu : Sl.OwnL base2 w (.slice A m c) us) (hone : ∀ u ∈ us, u.oneCell' = true)
    (hsz : vs.length + us.length ≤ 1048577) (hbase : base ≤ w.heap.size)
    (h : ∀ v' w', Sl.OwnL base w' v' (vs ++ us) → Below base w w' → wpList Tryz.prog ops Q rest (a.put o.dst v') w') : wpList Tryz.prog ops Q (o :: rest) a w :=
  wpList_plain hgd fun K hK => by
    obtain ⟨v', w', hrun, h2, h3, _⟩ := run_appR hown hu hone hsz hbase o.type
    exact By.wp_app_run s x _ ho hs hx hrun (hK _ _ (h v' w' h2 h3))
theorem copied_one {base : Nat} {w : World} {v : Value} {ls : List Bs} (h : Copied base w v ls ls.length) : ∃ vs : List Value, Sl.OwnL base w v vs ∧ vs.length = ls.length ∧ (∀ u ∈ vs, u.oneCell' = true) ∧ ∀ (i : Nat) (l : Bs), ls[i]? = some l → ∃ A c, vs[i]? = some (Value.slice A l.length c) ∧ Own base w (.slice A l.length c) l := by
  obtain ⟨vs, h1, h2, h3⟩ := h
  have h4 : ∀ (i : Nat) (l : Bs), ls[i]? = some l → ∃ A c, vs[i]? = some (Value.slice A l.length c) ∧ Own base w (.slice A l.length c) l := fun i l hl => h3 i l (List.getElem?_eq_some_iff.1 hl).1 hl
  refine ⟨vs, h1, h2, fun u hu => ?_, h4⟩
  obtain ⟨i, hi, rfl⟩ := List.getElem_of_mem hu
  obtain ⟨A, c, h5, _⟩ := h4 i _ (List.getElem?_eq_getElem (by omega : i < ls.length))
  rw [List.getElem?_eq_getElem hi] at h5
  injection h5 with h5
  rw [h5]; rfl
/-- Two rows of copies, one behind the other, are records. -/
theorem two_rows {base base1 base2 : Nat} {w : World} {A : Option Addr} {m c : Nat} {vs us : List Value} {a b : List Bs} (h : Sl.OwnL base w (.slice A m c) (vs ++ us)) (hl1 : vs.length = a.length) (hl2 : us.length = b.length)
    (h1 : ∀ (i : Nat) (l : Bs), a[i]? = some l → ∃ A c, vs[i]? = some (Value.slice A l.length c) ∧ Own base1 w (.slice A l.length c) l) (h2 : ∀ (i : Nat) (l : Bs), b[i]? = some l → ∃ A c, us[i]? = some (Value.slice A l.length c) ∧ Own base2 w (.slice A l.length c) l) :
    m = (a ++ b).length ∧ LiesL w w.heap.size A (a ++ b) := by
  have hc : Copied 0 w (.slice A m c) (a ++ b) (a ++ b).length := by
    refine ⟨vs ++ us, ownsRow_base h (Nat.zero_le _), by simp [hl1, hl2], fun i l hi hl => ?_⟩
    by_cases hia : i < a.length
    · rw [List.getElem?_append_left hia] at hl
      obtain ⟨A', c', h3, h4⟩ := h1 i l hl
      exact ⟨A', c', by rw [List.getElem?_append_left (by omega)]; exact h3, ownsRow_base h4 (Nat.zero_le _)⟩
    · rw [List.getElem?_append_right (by omega)] at hl
      obtain ⟨A', c', h3, h4⟩ := h2 _ l hl
      exact ⟨A', c', by rw [List.getElem?_append_right (by omega), hl1]; exact h3, ownsRow_base h4 (Nat.zero_le _)⟩
  exact hc.lies
theorem framesB_len (l : List Bs) : (framesB l).length = (l.map List.length).sum + 8 * l.length := by
  induction l with
  | nil => rfl
  | cons r l ih =>
    show (CoP.frame r ++ framesB l).length = _
    rw [List.length_append, CoP.frame_length, ih]
    simp
    omega
end Go.Proofs.YtnjifhbooikdbaaGreatDoor.Wa
