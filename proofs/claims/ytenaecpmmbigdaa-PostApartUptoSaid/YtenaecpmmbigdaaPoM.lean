/- What every law of layer 8 asks first; a post beside the reference's; cuts of slices. -/
import Derived.Test.YtenaecpmmbigdaaPoL
namespace Go.Proofs.Ytenaecpmmbigdaa.Po
open Go.RowKit Go.Maps By Mp

theorem send_first : sendR ⟨[], [], 1⟩ 1 2 [] = (⟨[⟨1, 2, []⟩], [], 1⟩, 0) := by simp [sendR, Sound8, End8]
theorem send_second : sendR ⟨[⟨1, 2, []⟩], [], 1⟩ 1 2 [] = (⟨[⟨1, 2, []⟩], [], 1⟩, 10) := by simp [sendR, Sound8, End8]
set_option maxHeartbeats 1600000 in
theorem answers_any (w : World) : Calls Try.prog 9 #[] w (True_ w) := by
  have HN := Lib.hid (new_ok 1 w (by decide) (by decide))
  have q := ptrTest
  go_enter Try.func9, Try.ntmps9
  go_wp2_with fail
  refine HN.out.mono ?_
  rintro e w1 ⟨rfl, hp1, hb1⟩
  have HS := Lib.hid (send_any w.heap.size ⟨[], [], 1⟩ _ 1 2 none 0 0 [] w1 hp1 rfl (Lies.empty _ _ _))
  rw [send_first] at HS
  have HB1 := Lib.hid hb1
  clear hp1 hb1 HN
  go_wp2_with fail
  refine HS.out.mono ?_
  rintro e w2 ⟨rfl, S2, hp2, hs2, hk2⟩
  have hk : Below w.heap.size w w2 := HB1.out.trans (hk2.below HB1.out.size (fun b hb => by
    have hb : b = w.heap.size := hb
    rw [hb]; exact Nat.le_refl _))
  have hsl : ∀ b, S2 b → w.heap.size ≤ b := fun b hb => by
    rcases hs2 b hb with h | h
    · have h : b = w.heap.size := h
      omega
    · exact Nat.le_trans HB1.out.size h
  have HL := Lib.hid (len_any w.heap.size _ S2 w2 hp2)
  have HP2 := Lib.hid hp2
  have HB2 := Lib.hid hk
  have HSL := Lib.hid hsl
  clear hp2 hs2 hk2 hk hsl HS
  go_wp2_with fail
  refine HL.out.mono ?_
  rintro e w3 ⟨rfl, hb3⟩
  have HS := Lib.hid (send_any w.heap.size _ S2 1 2 none 0 0 [] w3 (HP2.out.below hb3) rfl (Lies.empty _ _ _))
  rw [send_second] at HS
  have HB3 := Lib.hid (By.ext HB2.out hb3)
  clear hb3 HL
  go_wp2_with fail
  refine HS.out.mono ?_
  rintro e w4 ⟨rfl, S4, -, -, hk4⟩
  have HB4 := Lib.hid (HB3.out.trans (hk4.below HB3.out.size HSL.out))
  clear hk4 HS
  go_wp2
  go_ret
  exact ⟨rfl, HB4.out⟩
/-- What a Look comes to, beside takeR. -/
def peekR (p : P8) (i : Int) : P8 × L8 × Int :=
  match (if i < 0 then none else p.l[i.toNat]?) with
  | none => (p, zeroL, 8)
  | some x => (p, x, 0)
theorem peek_any (g : Nat) (p : P8) (S : Nat → Prop) (i : Int) (w : World) (h : PostIs w g p S) : Calls Try.prog 19 #[.pointer (some ⟨g, 0, none⟩), .int .i64 i] w (TakePost g (peekR p i) S w) := by
  have hgen : ∀ x er e w', LookPost x er w e w' → TakePost g (p, x, er) S w e w' := fun x er e w' ⟨A, c, h1, h2, h3, h4⟩ => ⟨A, c, h1, h2, h3, S, h.below h4, fun b hb => .inl hb, Kept.of_below h4⟩
  unfold peekR
  cases hx : (if i < 0 then none else p.l[i.toNat]?) with
  | none => exact (look_none g p S i w h (at_out hx)).mono fun e w' hl => hgen _ _ e w' hl
  | some x =>
    obtain ⟨k, rfl, hk⟩ := at_in hx
    exact (look_some g p S k x w h hk).mono fun e w' hl => hgen _ _ e w' hl
/-- A post and the reference's, apart. -/
structure Two (w : World) (g r : Nat) (p q : P8) (S T : Nat → Prop) : Prop where
  post : PostIs w g p S
  ref : RefIs w r q T
  sep : ∀ b, S b → T b → False
/-- What a call on both comes to. -/
def BStep (ok : Prop) (g r : Nat) (p' q' : P8) (S T : Nat → Prop) (w : World) (e : Ending) (w' : World) : Prop :=
  ∃ bb, e = .returned (.bool bb) ∧ (ok → bb = true) ∧ ∃ S' T', Two w' g r p' q' S' T' ∧ (∀ b, S' b → S b ∨ w.heap.size ≤ b) ∧ (∀ b, T' b → T b ∨ w.heap.size ≤ b) ∧ Kept (fun b => S b ∨ T b) w w'
theorem PostIs.lt {w : World} {g : Nat} {p : P8} {S : Nat → Prop} (h : PostIs w g p S) {b : Nat} (hb : S b) : b < w.heap.size := by
  obtain ⟨v, mb, h⟩ := h
  exact h.lt b hb
theorem RefIs.lt {w : World} {g : Nat} {p : P8} {S : Nat → Prop} (h : RefIs w g p S) {b : Nat} (hb : S b) : b < w.heap.size := by
  obtain ⟨lv, cv, dv, h⟩ := h
  exact h.lt b hb
/-- Behind a step of the post alone. -/
theorem Two.step {w w1 : World} {g r : Nat} {p q p' : P8} {S T S' : Nat → Prop} (h : Two w g r p q S T) (hp : PostIs w1 g p' S') (hs : ∀ b, S' b → S b ∨ w.heap.size ≤ b) (hk : Kept S w w1) : Two w1 g r p' q S' T :=
  ⟨hp, h.ref.keep (fun b hb => hk.block b (h.ref.lt hb) (fun e => h.sep b e hb)) hk.size, fun b h1 h2 => by
    rcases hs b h1 with e | e
    · exact h.sep b e h2
    · have := h.ref.lt h2; omega⟩
/-- Behind a step of the reference's alone. -/
theorem Two.rstep {w w1 : World} {g r : Nat} {p q q' : P8} {S T T' : Nat → Prop} (h : Two w g r p q S T) (hq : RefIs w1 r q' T') (hs : ∀ b, T' b → T b ∨ w.heap.size ≤ b) (hk : Kept T w w1) : Two w1 g r p q' S T' :=
  ⟨h.post.keep (fun b hb => hk.block b (h.post.lt hb) (fun e => h.sep b hb e)) hk.size, hq, fun b h1 h2 => by
    rcases hs b h2 with e | e
    · exact h.sep b h1 e
    · have := h.post.lt h1; omega⟩
theorem Two.below {w w1 : World} {g r : Nat} {p q : P8} {S T : Nat → Prop} (h : Two w g r p q S T) (hb : Below w.heap.size w w1) : Two w1 g r p q S T := ⟨h.post.below hb, h.ref.below hb, h.sep⟩
/-- Where 's[k:]' begins, of a slice of sz cells an element. -/
def cutG (b c k sz : Nat) : Addr := if c = k then ⟨b, 0, none⟩ else ⟨b, k * sz, none⟩
theorem run_loG {tes te : TypeId} {sz : Nat} (ht : Try.prog.underlying tes = some (.slice te)) (hsz : ∀ w, (sizeOf te).run Try.prog w = .ok sz w) (w : World) (b n c k : Nat) (hk : k ≤ c) : (Instr.slice tes (.slice (some ⟨b, 0, none⟩) n c) none (some (.int .i64 (k : Int))) none).run Try.prog w = .ok (.slice (some ⟨b, 0, none⟩) k c) w := by
  have hel : Try.prog.elem tes = te := by simp [Program.elem, ht]
  rw [run_slice_h w _ _ _ _ (by rw [hel]; exact ht) .i64 _ (by omega) (by omega), hel, hsz]
  simp [Result.andThen, sliced, Addr.add]
theorem run_hiG {tes te : TypeId} {sz : Nat} (ht : Try.prog.underlying tes = some (.slice te)) (hsz : ∀ w, (sizeOf te).run Try.prog w = .ok sz w) (w : World) (b n c k : Nat) (J : Int) (hJ : J = k) (hk : k ≤ n) : (Instr.slice tes (.slice (some ⟨b, 0, none⟩) n c) (some (.int .i64 J)) none none).run Try.prog w = .ok (.slice (some (cutG b c k sz)) (n - k) (c - k)) w := by
  subst hJ
  have hel : Try.prog.elem tes = te := by simp [Program.elem, ht]
  rw [run_slice_l w _ _ _ _ (by rw [hel]; exact ht) .i64 _ (by omega) (by omega), hel, hsz]
  unfold cutG
  by_cases h : c = k
  · simp [Result.andThen, sliced, h]
  · simp [Result.andThen, sliced, h, plainAdd]
theorem rletSize (w : World) : (sizeOf tRL).run Try.prog w = .ok 3 w := by kernel_rfl
theorem pairSize (w : World) : (sizeOf tPair).run Try.prog w = .ok 2 w := by kernel_rfl
/-- The cells of the front, and of what is behind the k-th. -/
theorem front_cells {w : World} {e : TypeId} {sz n c b k : Nat} {xs : List Value} (h : w.ownsRow 0 e sz (.slice (some ⟨b, 0, none⟩) n c) n xs) : ∀ j u, (xs.take (k * sz))[j]? = some u → w.cell? ((⟨b, 0, none⟩ : Addr).add j) = some u := fun j u hu => by
  rw [List.getElem?_take] at hu
  split at hu
  · exact World.ownsRow.cells h (g := b) rfl j u hu
  · cases hu
theorem rest_cells {w : World} {e : TypeId} {sz n c b k : Nat} {xs : List Value} (h : w.ownsRow 0 e sz (.slice (some ⟨b, 0, none⟩) n c) n xs) (hk : k ≤ n) : ∀ j u, (xs.drop (k * sz))[j]? = some u → w.cell? ((cutG b c k sz).add j) = some u := fun j u hu => by
  rw [List.getElem?_drop] at hu
  have hl := (List.getElem?_eq_some_iff.1 hu).1
  have hnc : n ≤ c := by
    rcases h.2 with ⟨h1, _⟩ | ⟨g, cap, cur, hv, h1, h2, h3, h4, h5, h6⟩
    · cases h1
    · injection hv with e1 e2 e3
      omega
  have hck : ¬ c = k := fun e => by
    have : n = k := by omega
    rw [h.1, this] at hl
    omega
  unfold cutG
  rw [if_neg hck, plainAdd]
  have := World.ownsRow.cells h (g := b) rfl _ u hu
  rwa [plainAdd, Nat.zero_add] at this
end Go.Proofs.Ytenaecpmmbigdaa.Po
