/- For the law RlogSplits: two pairs of logs, apart. -/
import Derived.Test.YtdbaajgkcjpnoaaGreatRhD
namespace Go.Proofs.YtdbaajgkcjpnoaaGreat.Rg
open Go.RowKit By CoP Co Mo Kd

theorem step_code {B p q : Nat} {s1 s2 s1' : Lg} {v u : Value} {S T F : Nat → Prop} {w wa wb : World} (h1 : LogIs w p s1 v S) (h2 : RefIs w q s2 u T (fun b => b < B)) (h3 : ∀ b, S b → F b) (h4 : ∀ b, T b → F b) (h5 : ∀ b, S b → ¬ T b) (h6 : ∀ b, F b → B ≤ b ∧ b < w.heap.size)
    (hba : Below w.heap.size w wa) (hl : LStep p s1' S wa wb) : BStep B p q s1' s2 F w wb :=
  two_step h1 h2 h3 h4 h5 h6 hba hl (Below.refl _ _) (RStep.same (ref_after h2 (fun b hs => (h6 b (h3 b hs)).1) h5 hba (by obtain ⟨_, _, _, _, hk⟩ := hl; exact hk)) (Below.refl _ _)) (Below.refl _ _)
theorem step_ref {B p q : Nat} {s1 s2 s2' : Lg} {v u : Value} {S T F : Nat → Prop} {w wa wb : World} (h1 : LogIs w p s1 v S) (h2 : RefIs w q s2 u T (fun b => b < B)) (h3 : ∀ b, S b → F b) (h4 : ∀ b, T b → F b) (h5 : ∀ b, S b → ¬ T b) (h6 : ∀ b, F b → B ≤ b ∧ b < w.heap.size)
    (hba : Below w.heap.size w wa) (hr : RStep q s2' T (fun b => b < B) wa wb) : BStep B p q s1 s2' F w wb :=
  two_step2 h1 h2 h3 h4 h5 h6 hba hr (Below.refl _ _) (LStep.same (log_after h1 h5 hba (by obtain ⟨_, _, _, _, hk⟩ := hr; exact hk)) (Below.refl _ _)) (Below.refl _ _)
theorem TwoAt.lt {B p q : Nat} {s1 s2 : Lg} {F : Nat → Prop} {w : World} (h : TwoAt B w p q s1 s2 F) : ∀ b, F b → B ≤ b ∧ b < w.heap.size := by
  obtain ⟨_, _, _, _, _, _, _, _, _, h6⟩ := h
  exact h6
theorem TwoAt.other {B p q : Nat} {s1 s2 : Lg} {F F2 : Nat → Prop} {w w' : World} (h : TwoAt B w p q s1 s2 F) (hk : Kept F2 w w') (hd : ∀ b, F b → ¬ F2 b) (hB : ∀ b, F2 b → B ≤ b) : TwoAt B w' p q s1 s2 F := by
  have hl := h.low
  refine h.keep hk.size (fun b e => hk.block b ?_ ?_)
  · rcases e with e | e
    · exact (h.lt b e).2
    · omega
  · rcases e with e | e
    · exact hd b e
    · intro h2; have := hB b h2; omega
theorem disj_step {F F' F2 : Nat → Prop} {n : Nat} (hd : ∀ b, F b → ¬ F2 b) (hf : ∀ b, F' b → F b ∨ n ≤ b) (h2 : ∀ b, F2 b → b < n) : ∀ b, F' b → ¬ F2 b := fun b hb hs => by
  rcases hf b hb with h | h
  · exact hd b h hs
  · have := h2 b hs; omega
theorem disj_symm {F F2 : Nat → Prop} (hd : ∀ b, F b → ¬ F2 b) : ∀ b, F2 b → ¬ F b := fun b h1 h2 => hd b h2 h1
theorem okL_append : ∀ {a b : List En} {i t : Nat}, okL i t (a ++ b) = (okL i t a && okL (endOf i t a).1 (endOf i t a).2 b)
  | [], b, i, t => by simp [okL, endOf]
  | e :: r, b, i, t => by
    rw [List.cons_append, okL_cons2, okL_cons2, okL_append (a := r), endOf_cons]
    simp only [Bool.and_assoc]
/-- Two pairs of logs, apart. -/
def Pairs (B : Nat) (w : World) (p q x y : Nat) (s s2 u u2 : Lg) : Prop := ∃ F G, TwoAt B w p q s s2 F ∧ TwoAt B w x y u u2 G ∧ ∀ b, F b → ¬ G b
theorem Pairs.symm {B : Nat} {w : World} {p q x y : Nat} {s s2 u u2 : Lg} (h : Pairs B w p q x y s s2 u u2) : Pairs B w x y p q u u2 s s2 := by
  obtain ⟨F, G, h1, h2, h3⟩ := h
  exact ⟨G, F, h2, h1, disj_symm h3⟩
theorem Pairs.below {B : Nat} {w w' : World} {p q x y : Nat} {s s2 u u2 : Lg} (h : Pairs B w p q x y s s2 u u2) (hb : Below w.heap.size w w') : Pairs B w' p q x y s s2 u u2 := by
  obtain ⟨F, G, h1, h2, h3⟩ := h
  exact ⟨F, G, h1.below hb, h2.below hb, h3⟩
theorem Pairs.step {B : Nat} {w w' : World} {p q x y : Nat} {s s2 s' s2' u u2 : Lg} {F G : Nat → Prop} (hF : TwoAt B w p q s s2 F) (hG : TwoAt B w x y u u2 G) (hd : ∀ b, F b → ¬ G b) (hs : BStep B p q s' s2' F w w') : Pairs B w' p q x y s' s2' u u2 ∧ Below B w w' := by
  obtain ⟨F', h1, h2, h3⟩ := hs
  exact ⟨⟨F', G, h1, hG.other h3 (disj_symm hd) (fun b hb => (hF.lt b hb).1), disj_step hd h2 (fun b hb => (hG.lt b hb).2)⟩, h3.below hF.low (fun b hb => (hF.lt b hb).1)⟩
theorem pair_append {B : Nat} {w w4 : World} {p q x y : Nat} {s s2 u u2 : Lg} (h : Pairs B w p q x y s s2 u u2) (hb : Below w.heap.size w w4) (i t : Nat) (hi : i < 18446744073709551616) {A : Option Addr} {n c : Nat} {l : List En} {most : Int}
    (hl : (listK entryK most).rep w4 (New w w4) [.slice A n c] (.agg (l.map eD))) (hn : s.es.length + l.length ≤ 1073741823) :
    Calls Tryz.prog 17 #[ptr p, .int .u64 (i : Int), .int .u64 (t : Int), .slice A n c] w4 (fun e w' => e = .returned (appV (appA s i t l)) ∧ Pairs B w' p q x y (appS s i t l) s2 u u2 ∧ Below B w w') := by
  obtain ⟨F, G, hF, hG, hd⟩ := h
  obtain ⟨v, S, u', T, a1, a2, a3, a4, a5, a6⟩ := id hF
  refine (append_any w4 (a1.below hb) i t hi hl (fun b hb2 => ⟨hb2.2, fun hs => by have h1 := a1.lt b hs; have h2 : w.heap.size ≤ b := hb2.1; omega⟩) hn).mono ?_
  rintro e w5 ⟨rfl, hst⟩
  exact ⟨rfl, Pairs.step hF hG hd (step_code a1 a2 a3 a4 a5 a6 hb hst)⟩
theorem pair_rappend {B : Nat} {w : World} {p q x y : Nat} {s s2 u u2 : Lg} (h : Pairs B w p q x y s s2 u u2) (i t : Nat) (hi : i < 18446744073709551616) {A : Option Addr} {n c : Nat} {l : List En} {most : Int}
    (hl : (listK entryK most).rep w (fun b => b < B) [.slice A n c] (.agg (l.map eD))) (hn : s2.es.length + l.length ≤ 1073741823) :
    Calls Tryz.prog 27 #[ptr q, .int .u64 (i : Int), .int .u64 (t : Int), .slice A n c] w (fun e w' => e = .returned (appV (appA s2 i t l)) ∧ Pairs B w' p q x y s (appS s2 i t l) u u2 ∧ Below B w w') := by
  obtain ⟨F, G, hF, hG, hd⟩ := h
  obtain ⟨v, S, u', T, a1, a2, a3, a4, a5, a6⟩ := id hF
  refine (rappend_any w a2 i t hi hl hn).mono ?_
  rintro e w5 ⟨rfl, hst⟩
  exact ⟨rfl, Pairs.step hF hG hd (step_ref a1 a2 a3 a4 a5 a6 (Below.refl _ _) hst)⟩
theorem pair_term {B : Nat} {w : World} {p q x y : Nat} {s s2 u u2 : Lg} (h : Pairs B w p q x y s s2 u u2) (k : Nat) : Calls Tryz.prog 19 #[ptr p, .int .u64 (k : Int)] w (RetB (errV (termR s k)) w) := by
  obtain ⟨F, G, ⟨v, S, u', T, a1, _⟩, _⟩ := h
  exact term_any w a1 k
theorem pair_alike {B : Nat} {w : World} {p q x y : Nat} {s u u2 : Lg} (h : Pairs B w p q x y s s u u2) (hn : s.es.length ≤ 1073741823) : Calls Tryz.prog 13 #[ptr p, ptr q] w (True_ w) := by
  obtain ⟨F, G, h1, _⟩ := h
  exact alike_any h1 hn
end Go.Proofs.YtdbaajgkcjpnoaaGreat.Rg
