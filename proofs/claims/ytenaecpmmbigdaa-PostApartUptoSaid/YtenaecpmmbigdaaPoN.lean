/- The law's look, on a post and the reference's, as a contract of a call. -/
import Derived.Test.YtenaecpmmbigdaaPoM
namespace Go.Proofs.Ytenaecpmmbigdaa.Po
open Go.RowKit Go.Maps By Mp

theorem own_sameR (w : World) : (w.alloc (.cells #[] tRL)).ownsRow w.heap.size tRL 3 (.slice (some ⟨w.heap.size, 0, none⟩) 0 0) 0 [] :=
  ⟨by simp, .inr ⟨w.heap.size, 0, #[], rfl, Nat.le_refl _, heap_alloc_new w _, Nat.le_refl _, by decide, by simp, by simp⟩⟩
theorem rRow_one : ∀ (l : List L8) (vs : List Value), (∀ v ∈ vs, v.oneCell' = true) → ∀ u ∈ rRow l vs, u.oneCell' = true
  | [], _, _, u, h => by cases h
  | _ :: _, [], _, u, h => by cases h
  | x :: l, v :: vs, hv, u, h => by
    rcases List.mem_append.1 (show u ∈ rC x v ++ rRow l vs from h) with h | h
    · simp only [rC, List.mem_cons, List.not_mem_nil, or_false] at h
      rcases h with rfl | rfl | rfl
      · rfl
      · rfl
      · exact hv _ List.mem_cons_self
    · exact rRow_one l vs (fun v' h' => hv v' (List.mem_cons_of_mem _ h')) u h
theorem RAt.ones {w : World} {g : Nat} {p : P8} {lv cv : Value} {dv : List Value} {S : Nat → Prop} (h : RAt w g p lv cv dv S) : ∀ v ∈ dv, v.oneCell' = true := fun v hv => by
  obtain ⟨k, hk, rfl⟩ := List.getElem_of_mem hv
  obtain ⟨A, c, e, -⟩ := (h.data k _ _ (List.getElem?_eq_getElem (by rw [← h.len]; exact hk)) (List.getElem?_eq_getElem hk)).1.form
  rw [e]; rfl
/-- The k-th letter of the reference's. -/
theorem RAt.letter {w : World} {g : Nat} {p : P8} {lv cv : Value} {dv : List Value} {S : Nat → Prop} (h : RAt w g p lv cv dv S) {k : Nat} {x : L8} (hx : p.l[k]? = some x) :
    ∃ b c Av c2, lv = .slice (some ⟨b, 0, none⟩) p.l.length c ∧ dv[k]? = some (.slice Av x.d.length c2) ∧ w.cell? ⟨b, k * 3, none⟩ = some (.int .i64 x.a) ∧ w.cell? ⟨b, k * 3 + 1, none⟩ = some (.int .i64 x.b) ∧ w.cell? ⟨b, k * 3 + 2, none⟩ = some (.slice Av x.d.length c2) ∧ Own 0 w (.slice Av x.d.length c2) x.d ∧ Lies w w.heap.size Av x.d := by
  have hk := (List.getElem?_eq_some_iff.1 hx).1
  obtain ⟨b, c, hv, h1, h2⟩ := World.ownsRow.form h.list (by omega)
  have hd : dv[k]? = some (dv[k]'(by rw [h.len]; exact hk)) := List.getElem?_eq_getElem (by rw [h.len]; exact hk)
  have ho := (h.data k x _ hx hd).1
  obtain ⟨Av, c2, e, -, -, -, hl, -⟩ := ho.form
  rw [e] at hd ho
  obtain ⟨e1, e2, e3⟩ := rRow_at hx hd
  have hc := fun j u hu => World.ownsRow.cells h.list (g := b) (by rw [hv]; rfl) j u hu
  refine ⟨b, c, Av, c2, hv, hd, ?_, ?_, ?_, ho, hl⟩
  · have := hc _ _ e1; rwa [plainAdd, Nat.zero_add] at this
  · have := hc _ _ e2; rwa [plainAdd, Nat.zero_add] at this
  · have := hc _ _ e3; rwa [plainAdd, Nat.zero_add] at this
theorem rRow_erase (l : List L8) (vs : List Value) (h : vs.length = l.length) (k : Nat) (hk : k < l.length) : (rRow l vs).take (k * 3) ++ (rRow l vs).drop ((k + 1) * 3) = rRow (l.eraseIdx k) (vs.eraseIdx k) := by
  rw [← rRow_take l vs h k (by omega), ← rRow_drop l vs h (k + 1) (by omega), ← rRow_app _ _ _ _ (by simp [h]), List.eraseIdx_eq_take_drop_succ, List.eraseIdx_eq_take_drop_succ]
theorem ref_removed {w1 w2 w4 : World} {r : Nat} {q : P8} {lv cv v4 : Value} {dv : List Value} {T : Nat → Prop} {k n4 : Nat} (h : RAt w1 r q lv cv dv T) (hb2 : Below w1.heap.size w1 w2) (hb4 : Below w2.heap.size w2 w4) (hk : k < q.l.length)
    (ho : w4.ownsRow w2.heap.size tRL 3 v4 n4 ((rRow q.l dv).take (k * 3) ++ (rRow q.l dv).drop ((k + 1) * 3))) (hn4 : n4 = k + (q.l.length - (k + 1))) :
    RefIs (w4.setCell ⟨r, 1, none⟩ v4) r { q with l := q.l.eraseIdx k } (fun b => T b ∨ (w1.heap.size ≤ b ∧ b < w4.heap.size)) ∧ Kept T w1 (w4.setCell ⟨r, 1, none⟩ v4) := by
  have hb : Below w1.heap.size w1 w4 := By.ext hb2 hb4
  have h4 := h.below hb
  have hz2 := hb2.size
  have hz4 := hb.size
  have hrl := h.lt r h.sg
  have hs : (w4.setCell ⟨r, 1, none⟩ v4).heap.size = w4.heap.size := by simp [World.setCell]
  have hgo : ∀ b, b ≠ r → (w4.setCell ⟨r, 1, none⟩ v4).heap[b]? = w4.heap[b]? := fun b hb => heap_setCell_other w4 ⟨r, 1, none⟩ b _ hb
  rw [rRow_erase _ _ h.len _ hk] at ho
  have hlen : (q.l.eraseIdx k).length = n4 := by rw [List.length_eraseIdx_of_lt hk, hn4]; omega
  have hdl : (dv.eraseIdx k).length = n4 := by rw [List.length_eraseIdx_of_lt (by rw [h.len]; exact hk), h.len, hn4]; omega
  refine ⟨⟨v4, cv, dv.eraseIdx k, ⟨heap_setCell_same w4 r 1 _ _ _ h4.row, ?_, by rw [hdl]; exact hlen.symm, fun j y v h1 h2 => ?_, ?_, .inl h.sg, fun b hb => ?_, fun b hb => .inl (h.sc b hb), fun b hb => ?_, erase_ok h.ok k⟩⟩, ⟨hb.os, hb.tape, hb.output, by rw [hs]; exact hz4, fun b hb2 hn => (hgo b (fun e => hn (e ▸ h.sg))).trans (hb.block b hb2)⟩⟩
  · show World.ownsRow _ 0 tRL 3 _ (q.l.eraseIdx k).length _
    rw [hlen]
    refine ownsRow_base (ownsRow_keep ho (fun b hb => hgo b (fun e => ?_))) (Nat.zero_le _)
    have := (ownsRow_lt ho hb).1
    omega
  · rw [List.getElem?_eraseIdx] at h1 h2
    have hdat : ∀ j', q.l[j']? = some y → dv[j']? = some v → Own 0 (w4.setCell ⟨r, 1, none⟩ v4) v y.d ∧ ∀ b, v.ownBlock = some b → T b ∨ (w1.heap.size ≤ b ∧ b < w4.heap.size) := fun j' g1 g2 => by
      obtain ⟨d1, d2⟩ := h4.data j' y v g1 g2
      exact ⟨ownsRow_keep d1 (fun b hb => hgo b (fun e => row_apart d1 h4.row tRP_ne8 (by rw [← e]; exact hb))), fun b hb => .inl (d2 b hb)⟩
    by_cases hj : j < k
    · rw [if_pos hj] at h1 h2
      exact hdat j h1 h2
    · rw [if_neg hj] at h1 h2
      exact hdat (j + 1) h1 h2
  · exact ownsRow_keep h4.cuts (fun b hb => hgo b (fun e => row_apart h4.cuts h4.row tRP_neP (by rw [← e]; exact hb)))
  · have := ownsRow_lt ho hb
    exact .inr ⟨by omega, this.2⟩
  · rw [hs]
    rcases hb with hb | hb
    · have := h.lt b hb; omega
    · exact hb.2
theorem bstep_of {ok : Prop} {g r : Nat} {p' q' : P8} {S T S1 T1 : Nat → Prop} {w w1 : World} {v : Bool} (h : Two w1 g r p' q' S1 T1) (hs : ∀ b, S1 b → S b ∨ w.heap.size ≤ b) (ht : ∀ b, T1 b → T b ∨ w.heap.size ≤ b) (hk : Kept (fun b => S b ∨ T b) w w1) (hv : ok → v = true) : BStep ok g r p' q' S T w (.returned (.bool v)) w1 :=
  ⟨v, rfl, hv, S1, T1, h, hs, ht, hk⟩
theorem own_cap {w : World} {base : Nat} {e : TypeId} {sz n c b : Nat} {xs : List Value} (h : w.ownsRow base e sz (.slice (some ⟨b, 0, none⟩) n c) n xs) : n ≤ c := by
  rcases h.2 with ⟨h1, _⟩ | ⟨g, cap, cur, hv, h1, h2, h3, h4, h5, h6⟩
  · cases h1
  · injection hv with e1 e2 e3
    omega
theorem str_eq (a b : Bs) : ((str a).toList == (str b).toList) = decide (a = b) := by
  rw [ByteArray.toList_eq, ByteArray.toList_eq]
  by_cases h : a = b
  · subst h; simp
  · rw [decide_eq_false h, beq_eq_false_iff_ne]
    intro e
    apply h
    simpa [str] using e
/-- What a look comes to: the post's part. -/
def lookP (p : P8) (i : Int) (take : Bool) : P8 × L8 × Int := if take then takeR p i else peekR p i
def lookQ (q : P8) (i : Int) (take : Bool) : P8 := if take then (takeR q i).1 else q
set_option maxRecDepth 100000 in
set_option maxHeartbeats 4000000 in
theorem look_none_f (g r : Nat) (p q p1 : P8) (S T : Nat → Prop) (i er : Int) (x : L8) (w : World) (h : Two w g r p q S T) (hq : (if i < 0 then none else q.l[i.toNat]?) = none) (hpr : lookP p i false = (p1, x, er)) (hA : p = q → (x, er) = (zeroL, 8)) :
    Calls Try.prog 24 #[.pointer (some ⟨g, 0, none⟩), .pointer (some ⟨r, 0, none⟩), .int .i64 i, .bool false] w (BStep (p = q) g r p1 q S T w) := by
  have HC := Lib.hid (peek_any g p S i w h.post)
  rw [show peekR p i = (p1, x, er) from hpr] at HC
  have HT := Lib.hid h
  have HA := Lib.hid hA
  have HOUT := Lib.hid (at_out hq)
  clear h hA hpr hq
  go_enter Try.func24, Try.ntmps24
  go_wp2_with fail
  refine HC.out.mono ?_
  rintro e w1 ⟨A, c, rfl, hl, hf, S1, hp1, hs1, hk1⟩
  dsimp only at hl hf hp1
  have HT1 := Lib.hid (HT.out.step hp1 hs1 hk1)
  have HS1 := Lib.hid hs1
  have HK1 := Lib.hid (hk1.mono (M' := fun b => S b ∨ T b) (fun _ _ e => .inl e))
  have HL := Lib.hid hl
  obtain ⟨lv, cv, dv, hr1⟩ := HT1.out.ref
  obtain ⟨Al, cl, hlv⟩ := ownsRow_form hr1.list
  obtain ⟨c0, c1, c2⟩ := hr1.cells
  rw [hlv] at c1
  clear hl hf hp1 hs1 hk1 hr1 HC hlv
  obtain ⟨n, hn⟩ : ∃ n, n = x.d.length := ⟨_, rfl⟩
  rw [← hn]
  by_cases h0 : i < 0
  · by_cases h1 : er = 8
    · have bh1 : (er == 8) = true := beq_iff_eq.2 (by omega)
      by_cases h2 : x.a = 0
      · have bh2 : (x.a == 0) = true := beq_iff_eq.2 (by omega)
        by_cases h3 : x.b = 0
        · have bh3 : (x.b == 0) = true := beq_iff_eq.2 (by omega)
          by_cases h4 : n = 0
          · have bh4 : ((n : Int) == 0) = true := beq_iff_eq.2 (by omega)
            go_wp2
            go_ret
            exact bstep_of HT1.out HS1.out (fun b hb => .inl hb) HK1.out (fun _ => by first | exact bh4 | (rw [← hn]; exact bh4))
          · have bh4 : ((n : Int) == 0) = false := beq_eq_false_iff_ne.2 (by omega)
            have HNO := Lib.hid h4
            clear h4
            go_wp2
            go_ret
            refine bstep_of HT1.out HS1.out (fun b hb => .inl hb) HK1.out (fun e => ?_)
            have := congrArg (fun z => z.1.d.length) (HA.out e)
            exact absurd (by have h0 : x.d.length = 0 := this; omega) HNO.out
        · have bh3 : (x.b == 0) = false := beq_eq_false_iff_ne.2 (by omega)
          have HNO := Lib.hid h3
          clear h3
          go_wp2
          go_ret
          refine bstep_of HT1.out HS1.out (fun b hb => .inl hb) HK1.out (fun e => ?_)
          have := congrArg (fun z => z.1.b) (HA.out e)
          exact absurd this HNO.out
      · have bh2 : (x.a == 0) = false := beq_eq_false_iff_ne.2 (by omega)
        have HNO := Lib.hid h2
        clear h2
        go_wp2
        go_ret
        refine bstep_of HT1.out HS1.out (fun b hb => .inl hb) HK1.out (fun e => ?_)
        have := congrArg (fun z => z.1.a) (HA.out e)
        exact absurd this HNO.out
    · have bh1 : (er == 8) = false := beq_eq_false_iff_ne.2 (by omega)
      have HNO := Lib.hid h1
      clear h1
      go_wp2
      go_ret
      refine bstep_of HT1.out HS1.out (fun b hb => .inl hb) HK1.out (fun e => ?_)
      have := congrArg Prod.snd (HA.out e)
      exact absurd this HNO.out
  · have h5 : (q.l.length : Int) ≤ i := HOUT.out.resolve_left h0
    by_cases h1 : er = 8
    · have bh1 : (er == 8) = true := beq_iff_eq.2 (by omega)
      by_cases h2 : x.a = 0
      · have bh2 : (x.a == 0) = true := beq_iff_eq.2 (by omega)
        by_cases h3 : x.b = 0
        · have bh3 : (x.b == 0) = true := beq_iff_eq.2 (by omega)
          by_cases h4 : n = 0
          · have bh4 : ((n : Int) == 0) = true := beq_iff_eq.2 (by omega)
            go_wp2
            go_ret
            exact bstep_of HT1.out HS1.out (fun b hb => .inl hb) HK1.out (fun _ => by first | exact bh4 | (rw [← hn]; exact bh4))
          · have bh4 : ((n : Int) == 0) = false := beq_eq_false_iff_ne.2 (by omega)
            have HNO := Lib.hid h4
            clear h4
            go_wp2
            go_ret
            refine bstep_of HT1.out HS1.out (fun b hb => .inl hb) HK1.out (fun e => ?_)
            have := congrArg (fun z => z.1.d.length) (HA.out e)
            exact absurd (by have h0 : x.d.length = 0 := this; omega) HNO.out
        · have bh3 : (x.b == 0) = false := beq_eq_false_iff_ne.2 (by omega)
          have HNO := Lib.hid h3
          clear h3
          go_wp2
          go_ret
          refine bstep_of HT1.out HS1.out (fun b hb => .inl hb) HK1.out (fun e => ?_)
          have := congrArg (fun z => z.1.b) (HA.out e)
          exact absurd this HNO.out
      · have bh2 : (x.a == 0) = false := beq_eq_false_iff_ne.2 (by omega)
        have HNO := Lib.hid h2
        clear h2
        go_wp2
        go_ret
        refine bstep_of HT1.out HS1.out (fun b hb => .inl hb) HK1.out (fun e => ?_)
        have := congrArg (fun z => z.1.a) (HA.out e)
        exact absurd this HNO.out
    · have bh1 : (er == 8) = false := beq_eq_false_iff_ne.2 (by omega)
      have HNO := Lib.hid h1
      clear h1
      go_wp2
      go_ret
      refine bstep_of HT1.out HS1.out (fun b hb => .inl hb) HK1.out (fun e => ?_)
      have := congrArg Prod.snd (HA.out e)
      exact absurd this HNO.out
set_option maxRecDepth 100000 in
set_option maxHeartbeats 4000000 in
theorem look_none_t (g r : Nat) (p q p1 : P8) (S T : Nat → Prop) (i er : Int) (x : L8) (w : World) (h : Two w g r p q S T) (hq : (if i < 0 then none else q.l[i.toNat]?) = none) (hpr : lookP p i true = (p1, x, er)) (hA : p = q → (x, er) = (zeroL, 8)) :
    Calls Try.prog 24 #[.pointer (some ⟨g, 0, none⟩), .pointer (some ⟨r, 0, none⟩), .int .i64 i, .bool true] w (BStep (p = q) g r p1 q S T w) := by
  have HC := Lib.hid (take_any g p S i w h.post)
  rw [show takeR p i = (p1, x, er) from hpr] at HC
  have HT := Lib.hid h
  have HA := Lib.hid hA
  have HOUT := Lib.hid (at_out hq)
  clear h hA hpr hq
  go_enter Try.func24, Try.ntmps24
  go_wp2_with fail
  refine HC.out.mono ?_
  rintro e w1 ⟨A, c, rfl, hl, hf, S1, hp1, hs1, hk1⟩
  dsimp only at hl hf hp1
  have HT1 := Lib.hid (HT.out.step hp1 hs1 hk1)
  have HS1 := Lib.hid hs1
  have HK1 := Lib.hid (hk1.mono (M' := fun b => S b ∨ T b) (fun _ _ e => .inl e))
  have HL := Lib.hid hl
  obtain ⟨lv, cv, dv, hr1⟩ := HT1.out.ref
  obtain ⟨Al, cl, hlv⟩ := ownsRow_form hr1.list
  obtain ⟨c0, c1, c2⟩ := hr1.cells
  rw [hlv] at c1
  clear hl hf hp1 hs1 hk1 hr1 HC hlv
  obtain ⟨n, hn⟩ : ∃ n, n = x.d.length := ⟨_, rfl⟩
  rw [← hn]
  by_cases h0 : i < 0
  · by_cases h1 : er = 8
    · have bh1 : (er == 8) = true := beq_iff_eq.2 (by omega)
      by_cases h2 : x.a = 0
      · have bh2 : (x.a == 0) = true := beq_iff_eq.2 (by omega)
        by_cases h3 : x.b = 0
        · have bh3 : (x.b == 0) = true := beq_iff_eq.2 (by omega)
          by_cases h4 : n = 0
          · have bh4 : ((n : Int) == 0) = true := beq_iff_eq.2 (by omega)
            go_wp2
            go_ret
            exact bstep_of HT1.out HS1.out (fun b hb => .inl hb) HK1.out (fun _ => by first | exact bh4 | (rw [← hn]; exact bh4))
          · have bh4 : ((n : Int) == 0) = false := beq_eq_false_iff_ne.2 (by omega)
            have HNO := Lib.hid h4
            clear h4
            go_wp2
            go_ret
            refine bstep_of HT1.out HS1.out (fun b hb => .inl hb) HK1.out (fun e => ?_)
            have := congrArg (fun z => z.1.d.length) (HA.out e)
            exact absurd (by have h0 : x.d.length = 0 := this; omega) HNO.out
        · have bh3 : (x.b == 0) = false := beq_eq_false_iff_ne.2 (by omega)
          have HNO := Lib.hid h3
          clear h3
          go_wp2
          go_ret
          refine bstep_of HT1.out HS1.out (fun b hb => .inl hb) HK1.out (fun e => ?_)
          have := congrArg (fun z => z.1.b) (HA.out e)
          exact absurd this HNO.out
      · have bh2 : (x.a == 0) = false := beq_eq_false_iff_ne.2 (by omega)
        have HNO := Lib.hid h2
        clear h2
        go_wp2
        go_ret
        refine bstep_of HT1.out HS1.out (fun b hb => .inl hb) HK1.out (fun e => ?_)
        have := congrArg (fun z => z.1.a) (HA.out e)
        exact absurd this HNO.out
    · have bh1 : (er == 8) = false := beq_eq_false_iff_ne.2 (by omega)
      have HNO := Lib.hid h1
      clear h1
      go_wp2
      go_ret
      refine bstep_of HT1.out HS1.out (fun b hb => .inl hb) HK1.out (fun e => ?_)
      have := congrArg Prod.snd (HA.out e)
      exact absurd this HNO.out
  · have h5 : (q.l.length : Int) ≤ i := HOUT.out.resolve_left h0
    by_cases h1 : er = 8
    · have bh1 : (er == 8) = true := beq_iff_eq.2 (by omega)
      by_cases h2 : x.a = 0
      · have bh2 : (x.a == 0) = true := beq_iff_eq.2 (by omega)
        by_cases h3 : x.b = 0
        · have bh3 : (x.b == 0) = true := beq_iff_eq.2 (by omega)
          by_cases h4 : n = 0
          · have bh4 : ((n : Int) == 0) = true := beq_iff_eq.2 (by omega)
            go_wp2
            go_ret
            exact bstep_of HT1.out HS1.out (fun b hb => .inl hb) HK1.out (fun _ => by first | exact bh4 | (rw [← hn]; exact bh4))
          · have bh4 : ((n : Int) == 0) = false := beq_eq_false_iff_ne.2 (by omega)
            have HNO := Lib.hid h4
            clear h4
            go_wp2
            go_ret
            refine bstep_of HT1.out HS1.out (fun b hb => .inl hb) HK1.out (fun e => ?_)
            have := congrArg (fun z => z.1.d.length) (HA.out e)
            exact absurd (by have h0 : x.d.length = 0 := this; omega) HNO.out
        · have bh3 : (x.b == 0) = false := beq_eq_false_iff_ne.2 (by omega)
          have HNO := Lib.hid h3
          clear h3
          go_wp2
          go_ret
          refine bstep_of HT1.out HS1.out (fun b hb => .inl hb) HK1.out (fun e => ?_)
          have := congrArg (fun z => z.1.b) (HA.out e)
          exact absurd this HNO.out
      · have bh2 : (x.a == 0) = false := beq_eq_false_iff_ne.2 (by omega)
        have HNO := Lib.hid h2
        clear h2
        go_wp2
        go_ret
        refine bstep_of HT1.out HS1.out (fun b hb => .inl hb) HK1.out (fun e => ?_)
        have := congrArg (fun z => z.1.a) (HA.out e)
        exact absurd this HNO.out
    · have bh1 : (er == 8) = false := beq_eq_false_iff_ne.2 (by omega)
      have HNO := Lib.hid h1
      clear h1
      go_wp2
      go_ret
      refine bstep_of HT1.out HS1.out (fun b hb => .inl hb) HK1.out (fun e => ?_)
      have := congrArg Prod.snd (HA.out e)
      exact absurd this HNO.out
set_option maxRecDepth 100000 in
set_option maxHeartbeats 4000000 in
theorem look_some_f (g r : Nat) (p q p1 : P8) (S T : Nat → Prop) (i er : Int) (x : L8) (k : Nat) (y : L8) (w : World) (h : Two w g r p q S T) (hk : i = (k : Int)) (hq : q.l[k]? = some y) (hpr : lookP p i false = (p1, x, er)) (hA : p = q → (x, er) = (y, 0)) :
    Calls Try.prog 24 #[.pointer (some ⟨g, 0, none⟩), .pointer (some ⟨r, 0, none⟩), .int .i64 i, .bool false] w (BStep (p = q) g r p1 q S T w) := by
  subst hk
  have HC := Lib.hid (peek_any g p S (k : Int) w h.post)
  rw [show peekR p (k : Int) = (p1, x, er) from hpr] at HC
  have HT := Lib.hid h
  have HA := Lib.hid hA
  have HQ := Lib.hid hq
  clear h hA hpr hq
  go_enter Try.func24, Try.ntmps24
  go_wp2_with fail
  refine HC.out.mono ?_
  rintro e w1 ⟨A, c, rfl, hl, hf, S1, hp1, hs1, hk1⟩
  dsimp only at hl hf hp1
  have HT1 := Lib.hid (HT.out.step hp1 hs1 hk1)
  have HS1 := Lib.hid hs1
  have HK1 := Lib.hid (hk1.mono (M' := fun b => S b ∨ T b) (fun _ _ e => .inl e))
  have HL := Lib.hid hl
  have HF := Lib.hid hf
  obtain ⟨lv, cv, dv, hr1⟩ := HT1.out.ref
  obtain ⟨b, cl, Av, c2, hlv, hdv, d0, d1, d2, hoy, hly⟩ := hr1.letter HQ.out
  obtain ⟨c0, c1, c2'⟩ := hr1.cells
  rw [hlv] at c1
  have hkl := (List.getElem?_eq_some_iff.1 HQ.out).1
  have hki : (k : Int) < (q.l.length : Int) := by omega
  have hk4 : (k : Int) < 4096 := by have := hr1.ok.few; have := hr1.ok.room.2; omega
  have hb2 : Below w1.heap.size w1 (w1.alloc (.cells #[.int .i64 y.a, .int .i64 y.b, .slice Av y.d.length c2] tRL)) := (Below.refl _ _).alloc (Nat.le_refl _) _
  have hx2 : (w1.alloc (.cells #[.int .i64 y.a, .int .i64 y.b, .slice Av y.d.length c2] tRL)).heap[w1.heap.size]? = some (.cells #[.int .i64 y.a, .int .i64 y.b, .slice Av y.d.length c2] tRL (0, 0)) := heap_alloc_new w1 _
  obtain ⟨w2, hw2⟩ : ∃ w2, w2 = w1.alloc (.cells #[.int .i64 y.a, .int .i64 y.b, .slice Av y.d.length c2] tRL) := ⟨_, rfl⟩
  rw [← hw2] at hb2 hx2
  have HB2 := Lib.hid hb2
  have HX2 := Lib.hid hx2
  have HW2 := Lib.hid hw2
  have HR1 := Lib.hid hr1
  have HOY := Lib.hid hoy
  have HLY := Lib.hid hly
  have HLV := Lib.hid hlv
  obtain ⟨n, hn⟩ : ∃ n, n = x.d.length := ⟨_, rfl⟩
  rw [← hn]
  have HN := Lib.hid hn
  clear hl hf hp1 hs1 hk1 hr1 HC hlv hdv hoy hly hkl hb2 hx2 hw2 hn
  go_upto_region 8 with fail
  rw [← HW2.out]
  obtain ⟨e0, e1, e2⟩ := lcells HX2.out
  have t1 : (convert 33 9 (.slice A n c)).run Try.prog w2 = .ok (.string (str x.d)) w2 := run_text w2 c HN.out (HL.out.below HB2.out)
  have t2 : (convert 33 9 (.slice Av y.d.length c2)).run Try.prog w2 = .ok (.string (str y.d)) w2 := run_text w2 c2 rfl (HLY.out.below HB2.out)
  have HT2 := Lib.hid (HT1.out.below HB2.out)
  have HK2 := Lib.hid (HK1.out.trans (Kept.of_below HB2.out))
  by_cases h1 : er = 0
  · have bh1 : (er == 0) = true := beq_iff_eq.2 (by omega)
    by_cases h2 : x.a = y.a
    · have bh2 : (x.a == y.a) = true := beq_iff_eq.2 (by omega)
      by_cases h3 : x.b = y.b
      · have bh3 : (x.b == y.b) = true := beq_iff_eq.2 (by omega)
        go_wp2
        go_ret
        refine bstep_of HT2.out HS1.out (fun b hb => .inl hb) HK2.out (fun e => ?_)
        have := congrArg (fun z => z.1.d) (HA.out e)
        rw [str_eq]
        exact decide_eq_true this
      · have bh3 : (x.b == y.b) = false := beq_eq_false_iff_ne.2 (by omega)
        have HNO := Lib.hid h3
        clear h3
        go_wp2
        go_ret
        refine bstep_of HT2.out HS1.out (fun b hb => .inl hb) HK2.out (fun e => ?_)
        have := congrArg (fun z => z.1.b) (HA.out e)
        exact absurd this HNO.out
    · have bh2 : (x.a == y.a) = false := beq_eq_false_iff_ne.2 (by omega)
      have HNO := Lib.hid h2
      clear h2
      go_wp2
      go_ret
      refine bstep_of HT2.out HS1.out (fun b hb => .inl hb) HK2.out (fun e => ?_)
      have := congrArg (fun z => z.1.a) (HA.out e)
      exact absurd this HNO.out
  · have bh1 : (er == 0) = false := beq_eq_false_iff_ne.2 (by omega)
    have HNO := Lib.hid h1
    clear h1
    go_wp2
    go_ret
    refine bstep_of HT2.out HS1.out (fun b hb => .inl hb) HK2.out (fun e => ?_)
    have := congrArg Prod.snd (HA.out e)
    exact absurd this HNO.out
set_option maxRecDepth 100000 in
set_option maxHeartbeats 4000000 in
theorem look_some_t (g r : Nat) (p q p1 : P8) (S T : Nat → Prop) (i er : Int) (x : L8) (k : Nat) (y : L8) (w : World) (h : Two w g r p q S T) (hk : i = (k : Int)) (hq : q.l[k]? = some y) (hpr : lookP p i true = (p1, x, er)) (hA : p = q → (x, er) = (y, 0)) :
    Calls Try.prog 24 #[.pointer (some ⟨g, 0, none⟩), .pointer (some ⟨r, 0, none⟩), .int .i64 i, .bool true] w (BStep (p = q) g r p1 { q with l := q.l.eraseIdx k } S T w) := by
  subst hk
  have HC := Lib.hid (take_any g p S (k : Int) w h.post)
  rw [show takeR p (k : Int) = (p1, x, er) from hpr] at HC
  have HT := Lib.hid h
  have HA := Lib.hid hA
  have HQ := Lib.hid hq
  clear h hA hpr hq
  go_enter Try.func24, Try.ntmps24
  go_wp2_with fail
  refine HC.out.mono ?_
  rintro e w1 ⟨A, c, rfl, hl, hf, S1, hp1, hs1, hk1⟩
  dsimp only at hl hf hp1
  have HT1 := Lib.hid (HT.out.step hp1 hs1 hk1)
  have HS1 := Lib.hid hs1
  have HK1 := Lib.hid (hk1.mono (M' := fun b => S b ∨ T b) (fun _ _ e => .inl e))
  have HL := Lib.hid hl
  have HF := Lib.hid hf
  obtain ⟨lv, cv, dv, hr1⟩ := HT1.out.ref
  obtain ⟨b, cl, Av, c2, hlv, hdv, d0, d1, d2, hoy, hly⟩ := hr1.letter HQ.out
  obtain ⟨c0, c1, c2'⟩ := hr1.cells
  rw [hlv] at c1
  have hkl := (List.getElem?_eq_some_iff.1 HQ.out).1
  have hki : (k : Int) < (q.l.length : Int) := by omega
  have hk4 : (k : Int) < 4096 := by have := hr1.ok.few; have := hr1.ok.room.2; omega
  have hb2 : Below w1.heap.size w1 (w1.alloc (.cells #[.int .i64 y.a, .int .i64 y.b, .slice Av y.d.length c2] tRL)) := (Below.refl _ _).alloc (Nat.le_refl _) _
  have hx2 : (w1.alloc (.cells #[.int .i64 y.a, .int .i64 y.b, .slice Av y.d.length c2] tRL)).heap[w1.heap.size]? = some (.cells #[.int .i64 y.a, .int .i64 y.b, .slice Av y.d.length c2] tRL (0, 0)) := heap_alloc_new w1 _
  obtain ⟨w2, hw2⟩ : ∃ w2, w2 = w1.alloc (.cells #[.int .i64 y.a, .int .i64 y.b, .slice Av y.d.length c2] tRL) := ⟨_, rfl⟩
  rw [← hw2] at hb2 hx2
  have HB2 := Lib.hid hb2
  have HX2 := Lib.hid hx2
  have HW2 := Lib.hid hw2
  have HR1 := Lib.hid hr1
  have HOY := Lib.hid hoy
  have HLY := Lib.hid hly
  have HLV := Lib.hid hlv
  obtain ⟨n, hn⟩ : ∃ n, n = x.d.length := ⟨_, rfl⟩
  rw [← hn]
  have HN := Lib.hid hn
  have HNC := Lib.hid (own_cap (hlv ▸ hr1.list))
  have hlo := fun w' : World => run_loG Try.underlying28 rletSize w' b q.l.length cl k (by have := HNC.out; omega)
  obtain ⟨t, ht⟩ : ∃ t, t = q.l.length - (k + 1) := ⟨_, rfl⟩
  have hhi : ∀ w' : World, (Instr.slice tRLs (.slice (some ⟨b, 0, none⟩) q.l.length cl) (some (.int .i64 ((k : Int) + 1))) none none).run Try.prog w' = .ok (.slice (some (cutG b cl (k + 1) 3)) t (cl - (k + 1))) w' := fun w' => by
    rw [ht]; exact run_hiG Try.underlying28 rletSize w' b q.l.length cl (k + 1) _ (by omega) (by omega)
  have HO2 := Lib.hid (show w2.ownsRow 0 tRL 3 (.slice (some ⟨b, 0, none⟩) q.l.length cl) q.l.length (rRow q.l dv) from hlv ▸ (hr1.below hb2).list)
  have HFL := Lib.hid (show ((rRow q.l dv).take (k * 3)).length = k * 3 by rw [List.length_take, rRow_length _ _ hr1.len]; omega)
  have HRL := Lib.hid (show ((rRow q.l dv).drop ((k + 1) * 3)).length = t * 3 by rw [List.length_drop, rRow_length _ _ hr1.len, ht]; omega)
  have HON := Lib.hid (rRow_one q.l dv hr1.ones)
  have HKL := Lib.hid hkl
  have HTT := Lib.hid ht
  have HBO := Lib.hid (show q.l.length ≤ 4096 by have := hr1.ok.few; have := hr1.ok.room.2; omega)
  clear hl hf hp1 hs1 hk1 hr1 HC hlv hdv hoy hly hkl hb2 hx2 hw2 hn ht
  go_upto_region 9 with fail
  rw [← HW2.out]
  obtain ⟨-, k1, -⟩ := (HR1.out.below HB2.out).cells
  rw [HLV.out] at k1
  have hba : Below w2.heap.size w2 (w2.alloc (.cells #[] tRL)) := (Below.refl _ _).alloc (Nat.le_refl _) _
  obtain ⟨-, l1, -⟩ := ((HR1.out.below HB2.out).below hba).cells
  rw [HLV.out] at l1
  have HBA := Lib.hid hba
  clear hba
  go_upto_region 10 with (at_builtin; refine wpList_appG Try.underlying28 rletInfo rfl (by decide) (by decide) rfl (.tmp 66) (.tmp 72) rfl w2.heap.size (.slice (some ⟨w2.heap.size, 0, none⟩) 0 0) 0 [] rfl (own_sameR w2) (some ⟨b, 0, none⟩) k cl rfl ((rRow q.l dv).take (k * 3)) HFL.out (fun _ => ⟨_, rfl, front_cells (ownsRow_keep HO2.out (fun q hq => HBA.out.block q (ownsRow_lt HO2.out hq).2))⟩) (fun u hu => HON.out u (List.mem_of_mem_take hu)) (by have := HBO.out; have := HKL.out; omega) HBA.out.size ?_; intro v3 w3 ho3 hg3 hv3)
  have HB3 := Lib.hid (show Below w2.heap.size w2 w3 from HBA.out.trans (grown_below hg3 HBA.out.size (fun q hq => by
    have hq : some w2.heap.size = some q := hq
    injection hq with hq
    omega)))
  rw [List.nil_append, Nat.zero_add] at ho3
  have HO3 := Lib.hid ho3
  obtain ⟨-, m1, -⟩ := ((HR1.out.below HB2.out).below HB3.out).cells
  rw [HLV.out] at m1
  clear ho3 hg3 hv3 k1 l1 c0 c1 c2' d0 d1 d2
  go_upto_region 11 with (at_builtin; refine wpList_appG Try.underlying28 rletInfo rfl (by decide) (by decide) rfl (.tmp 75) (.tmp 82) rfl w2.heap.size v3 k _ rfl HO3.out (some (cutG b cl (k + 1) 3)) t (cl - (k + 1)) rfl ((rRow q.l dv).drop ((k + 1) * 3)) HRL.out (fun _ => ⟨_, rfl, rest_cells (ownsRow_keep HO2.out (fun q hq => HB3.out.block q (ownsRow_lt HO2.out hq).2)) (by have := HKL.out; omega)⟩) (fun u hu => HON.out u (List.mem_of_mem_drop hu)) (by have := HBO.out; have := HKL.out; have := HTT.out; omega) HB3.out.size ?_; intro v4 w4 ho4 hg4 hv4
                          obtain ⟨A4, cA4, rfl⟩ := ownsRow_form ho4
                          have hb4 : Below w2.heap.size w2 w4 := HB3.out.trans (grown_below hg4 HB3.out.size (fun q hq => (ownsRow_lt HO3.out hq).1))
                          have hr4 := (HR1.out.below HB2.out).below hb4
                          have HO4 := Lib.hid ho4
                          have HB4 := Lib.hid hb4
                          have hc4 : w4.cell? ⟨r, 1, none⟩ = some lv := hr4.cells.2.1
                          have hf4 : w4.frozen? ⟨r, 1, none⟩ = false := frozen_of_row w4 r 1 _ _ hr4.row
                          clear ho4 hg4 hv4 hb4 hr4)
  obtain ⟨hrf, hkf⟩ := ref_removed HR1.out HB2.out HB4.out HKL.out HO4.out (by rw [HTT.out])
  obtain ⟨w5, hw5⟩ : ∃ w5, w5 = w4.setCell ⟨r, 1, none⟩ (.slice A4 (k + t) cA4) := ⟨_, rfl⟩
  rw [← hw5] at hrf hkf ⊢
  have hrne : r ≠ w1.heap.size := by have := HT1.out.ref.lt HR1.out.sg; omega
  have hx5 : w5.heap[w1.heap.size]? = some (.cells #[.int .i64 y.a, .int .i64 y.b, .slice Av y.d.length c2] tRL (0, 0)) := by
    rw [hw5]; exact (heap_setCell_other w4 ⟨r, 1, none⟩ _ _ (fun e => hrne e.symm)).trans ((HB4.out.block _ (row_lt HX2.out)).trans HX2.out)
  obtain ⟨e0, e1, e2⟩ := lcells hx5
  have hbl : ∀ q, q ≠ r → q < w1.heap.size → w5.heap[q]? = w1.heap[q]? := fun q h1 h2 => by
    rw [hw5]; exact (heap_setCell_other w4 ⟨r, 1, none⟩ _ _ h1).trans ((By.ext HB2.out HB4.out).block q h2)
  have t1 : (convert 33 9 (.slice A n c)).run Try.prog w5 = .ok (.string (str x.d)) w5 := run_text (B := w1.heap.size) w5 c HN.out (lies_far HL.out HF.out (fun q h1 h2 => hbl q (by have := HT.out.ref.lt HR1.out.sg; omega) h2))
  have t2 : (convert 33 9 (.slice Av y.d.length c2)).run Try.prog w5 = .ok (.string (str y.d)) w5 := by
    have ho5 : Own 0 w5 (.slice Av y.d.length c2) y.d := ownsRow_keep HOY.out (fun q hq => hbl q (fun e => row_apart HOY.out HR1.out.row tRP_ne8 (by rw [← e]; exact hq)) (ownsRow_lt HOY.out hq).2)
    obtain ⟨A', c', hv, -, -, -, hl, -⟩ := ho5.form
    injection hv with z1 z2 z3
    rw [← z1] at hl
    exact run_text w5 c2 rfl hl
  have HT5 := Lib.hid (HT1.out.rstep hrf (fun q hq => hq.imp id And.left) hkf)
  have HS5 := Lib.hid (show ∀ q, (T q ∨ (w1.heap.size ≤ q ∧ q < w4.heap.size)) → T q ∨ w.heap.size ≤ q from fun q hq => hq.imp id (fun h => Nat.le_trans HK1.out.size h.1))
  have HK5 := Lib.hid (HK1.out.trans (hkf.mono (M' := fun q => S q ∨ T q) (fun _ _ e => .inr e)))
  clear hrf hkf hw5 hrne hx5 hbl hc4 hf4 m1
  by_cases h1 : er = 0
  · have bh1 : (er == 0) = true := beq_iff_eq.2 (by omega)
    by_cases h2 : x.a = y.a
    · have bh2 : (x.a == y.a) = true := beq_iff_eq.2 (by omega)
      by_cases h3 : x.b = y.b
      · have bh3 : (x.b == y.b) = true := beq_iff_eq.2 (by omega)
        go_wp2
        go_ret
        refine bstep_of HT5.out HS1.out HS5.out HK5.out (fun e => ?_)
        have := congrArg (fun z => z.1.d) (HA.out e)
        rw [str_eq]
        exact decide_eq_true this
      · have bh3 : (x.b == y.b) = false := beq_eq_false_iff_ne.2 (by omega)
        have HNO := Lib.hid h3
        clear h3
        go_wp2
        go_ret
        refine bstep_of HT5.out HS1.out HS5.out HK5.out (fun e => ?_)
        have := congrArg (fun z => z.1.b) (HA.out e)
        exact absurd this HNO.out
    · have bh2 : (x.a == y.a) = false := beq_eq_false_iff_ne.2 (by omega)
      have HNO := Lib.hid h2
      clear h2
      go_wp2
      go_ret
      refine bstep_of HT5.out HS1.out HS5.out HK5.out (fun e => ?_)
      have := congrArg (fun z => z.1.a) (HA.out e)
      exact absurd this HNO.out
  · have bh1 : (er == 0) = false := beq_eq_false_iff_ne.2 (by omega)
    have HNO := Lib.hid h1
    clear h1
    go_wp2
    go_ret
    refine bstep_of HT5.out HS1.out HS5.out HK5.out (fun e => ?_)
    have := congrArg Prod.snd (HA.out e)
    exact absurd this HNO.out
theorem lookP_in {p : P8} {i : Int} {take : Bool} {x : L8} (h : (if i < 0 then none else p.l[i.toNat]?) = some x) : (lookP p i take).2 = (x, 0) := by
  unfold lookP
  cases take
  · simp only [Bool.false_eq_true, if_false]; unfold peekR; rw [h]
  · simp only [if_true]; unfold takeR; rw [h]
theorem lookP_out {p : P8} {i : Int} {take : Bool} (h : (if i < 0 then none else p.l[i.toNat]?) = (none : Option L8)) : (lookP p i take).2 = (zeroL, 8) := by
  unfold lookP
  cases take
  · simp only [Bool.false_eq_true, if_false]; unfold peekR; rw [h]
  · simp only [if_true]; unfold takeR; rw [h]
theorem look_any (g r : Nat) (p q : P8) (S T : Nat → Prop) (i : Int) (take : Bool) (w : World) (h : Two w g r p q S T) :
    Calls Try.prog 24 #[.pointer (some ⟨g, 0, none⟩), .pointer (some ⟨r, 0, none⟩), .int .i64 i, .bool take] w (BStep (p = q) g r (lookP p i take).1 (lookQ q i take) S T w) := by
  obtain ⟨⟨p1, x, er⟩, hpr⟩ : ∃ z, lookP p i take = z := ⟨_, rfl⟩
  rw [hpr]
  cases hq : (if i < 0 then none else q.l[i.toNat]?) with
  | none =>
    have hA : p = q → (x, er) = (zeroL, 8) := fun e => by
      have := lookP_out (take := take) hq
      rw [← e, hpr] at this
      exact this
    have hQ : lookQ q i take = q := by
      unfold lookQ takeR
      rw [hq]
      cases take <;> rfl
    rw [hQ]
    cases take
    · exact look_none_f g r p q p1 S T i er x w h hq hpr hA
    · exact look_none_t g r p q p1 S T i er x w h hq hpr hA
  | some y =>
    have hA : p = q → (x, er) = (y, 0) := fun e => by
      have := lookP_in (take := take) hq
      rw [← e, hpr] at this
      exact this
    obtain ⟨k, hk, hy⟩ := at_in hq
    cases take
    · exact look_some_f g r p q p1 S T i er x k y w h hk hy hpr hA
    · have hQ : lookQ q i true = { q with l := q.l.eraseIdx k } := by
        unfold lookQ takeR
        rw [hq, hk]
        simp
      rw [hQ]
      exact look_some_t g r p q p1 S T i er x k y w h hk hy hpr hA
end Go.Proofs.Ytenaecpmmbigdaa.Po
