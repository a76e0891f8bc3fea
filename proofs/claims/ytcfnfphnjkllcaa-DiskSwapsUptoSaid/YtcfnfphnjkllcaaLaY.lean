/- A whole row of changes appended to an empty one; two disks of the reference out of one, and the disk's copy beside it: two pairs (DiskSwaps). No walk. -/
import Derived.Test.YtcfnfphnjkllcaaLaX
namespace Go.Proofs.Ytcfnfphnjkllcaa.Dk
open Go.RowKit Go.Maps By Mp

theorem wRow_one : ∀ {l : List W1} {ac : List AC}, ∀ u ∈ wRow l ac, u.oneCell' = true
  | [], _, u, h => by simp [wRow] at h
  | _ :: _, [], u, h => by simp [wRow] at h
  | x :: l, a :: ac, u, h => by
    have h : u ∈ wCells x a ++ wRow l ac := h
    rcases List.mem_append.1 h with h | h
    · simp only [wCells, List.mem_cons, List.not_mem_nil, or_false] at h
      rcases h with rfl | rfl | rfl | rfl <;> rfl
    · exact wRow_one u h
theorem row_cells {w : World} {base : Nat} {e : TypeId} {sz n : Nat} {A : Option Addr} {c : Nat} {xs : List Value} (h : w.ownsRow base e sz (.slice A n c) n xs) (hp : 0 < n) : ∃ a, A = some a ∧ ∀ j u, xs[j]? = some u → w.cell? (a.add j) = some u := by
  rcases h.2 with ⟨h1, h2⟩ | ⟨g, cap, cur, hv, hb, hg, hn, hm, hs, ht⟩
  · omega
  · injection hv with h1 h2 h3
    subst h1
    refine ⟨_, rfl, fun j u hj => ?_⟩
    rw [plainAdd, Nat.zero_add, cell_of_row w g j _ _ _ hg]
    rw [← ht, List.getElem?_take] at hj
    split at hj
    · simpa using hj
    · cases hj
theorem row_form {w : World} {base : Nat} {e : TypeId} {sz n : Nat} {v : Value} {xs : List Value} (h : w.ownsRow base e sz v n xs) : ∃ A c, v = .slice A n c := by
  rcases h.2 with ⟨h1, h2⟩ | ⟨g, cap, cur, hv, -⟩
  · exact ⟨none, 0, by rw [h1, h2]⟩
  · exact ⟨_, _, hv⟩
theorem wpList_copyWs {ops : Array Oper} {rest : List Oper} {o : Oper} {a : Act} {Q : Exit → Act → World → Prop} {w : World} (hgd : o.guard = none) (s x : Operand) (hop : o.op = .call { callee := .builtin .append, args := #[s, x], argTypes := #[tWrites, tWrites] })
    (hs : a.eval s = .slice (some ⟨w.heap.size, 0, none⟩) 0 0) {A : Option Addr} {n c : Nat} {xs : List Value} (hx : a.eval x = .slice A n c) {b0 : Nat} (hown : w.ownsRow b0 tWrite 4 (.slice A n c) n xs) (h1 : ∀ u ∈ xs, u.oneCell' = true) (hn : n ≤ 1099511627776)
    (hK : ∀ A' c' w', w'.ownsRow w.heap.size tWrite 4 (.slice A' n c') n xs → Below w.heap.size w w' → wpList Try.prog ops Q rest (a.put o.dst (.slice A' n c')) w') : wpList Try.prog ops Q (o :: rest) a (w.alloc (.cells #[] 75)) :=
  wpList_plain hgd fun K hK' => by
    obtain ⟨i0, hi, hz0, hz1, hz2⟩ := info_parts wInfo
    have hlit : (w.alloc (.cells #[] 75)).ownsRow w.heap.size tWrite 4 (.slice (some ⟨w.heap.size, 0, none⟩) 0 0) 0 [] := World.ownsRow_made (base := w.heap.size) (e := tWrite) (size := 4) w #[] 0 (Nat.le_refl _) (by decide) rfl
    have hown' := hown.alloc (.cells #[] 75)
    have hz : (w.alloc (.cells #[] 75)).heap.size = w.heap.size + 1 := World.size_alloc w _
    obtain ⟨v', w', hrun, h2, h3, h4⟩ := run_appG Try.underlying42 hi hz0 hz1 hz2 rfl (by decide) _ o.type w.heap.size _ 0 [] hlit A n c xs hown'.1 (row_cells hown') h1 (by omega) (by omega) (by omega)
    rw [Nat.zero_add, List.nil_append] at h2
    obtain ⟨A', c', rfl⟩ := row_form h2
    have hb : Below w.heap.size w w' := ((Below.refl w.heap.size w).alloc (Nat.le_refl _) _).grown h3 (by omega) (fun k hk => by
      simp only [Value.ownBlock, Option.some.injEq] at hk
      omega)
    exact wp_app_run s x _ hop hs hx hrun (hK' _ _ (hK A' c' w' h2 hb))
/-- Behind the append and the store: the row at x has a copy of the changes, in a row of its own. -/
def CopiedU (s : DS) (v : Value) (n x : Nat) (xs : List Value) (w wx : World) : Prop := ∃ A c, wx.heap[x]? = some (.cells (rdC v (.slice A n c) s.room s.fuse s.down) tRD (0, 0)) ∧ wx.ownsRow w.heap.size tWrite 4 (.slice A n c) n xs ∧ Kept (fun b => b = x) w wx
theorem copiedU_of {s : DS} {v : Value} {n x : Nat} {xs : List Value} {w w' : World} {A A' : Option Addr} {c c' : Nat} (hx : w'.heap[x]? = some (.cells (rdC v (.slice A n c) s.room s.fuse s.down) tRD (0, 0))) (hxl : x < w.heap.size) (ho : w'.ownsRow w.heap.size tWrite 4 (.slice A' n c') n xs) (hb : Below w.heap.size w w') : CopiedU s v n x xs w (w'.setCell ⟨x, 1, none⟩ (.slice A' n c')) := by
  refine ⟨A', c', Go.heap_setCell_same w' x 1 _ _ (.slice A' n c') hx, ownsRow_keep ho (fun b hb => heap_setCell_other w' ⟨x, 1, none⟩ b _ (fun e => ?_)), (Kept.of_below (M := fun b => b = x) hb).setCell (p := ⟨x, 1, none⟩) (fun _ => rfl) _⟩
  have := (ownsRow_lt ho hb).1
  have e : b = x := e
  omega
theorem rdw_copied {w4 w8 : World} {r x m : Nat} {s : DS} {T M : Nat → Prop} {v u u' : Value} {ac : List AC} (hrd : RDW w4 r s T M v u) (hac : ac.length = s.unsure.length) (hda : WData w4 (fun b => T b ∧ U8 w4 b) s.unsure ac) (hb8 : Below w4.heap.size w4 w8)
    (hx8 : w8.heap[x]? = some (.cells (rdC v u' s.room s.fuse s.down) tRD (0, 0))) (ho : w8.ownsRow m tWrite 4 u' s.unsure.length (wRow s.unsure ac)) :
    RDW w8 x s (fun b => T b ∨ b = x ∨ u'.ownBlock = some b) (fun b => b = x ∨ u'.ownBlock = some b) v u' where
  row := hx8
  sure := hrd.sure.keep (fun b hb => hb8.block b (hrd.lt b (hrd.tv b hb))) (fun b hb => hb8.block b (hrd.lt b hb.1)) (fun b hb => ⟨.inl hb.1, u8_keep hb.2 (hb8.block b (hrd.lt b hb.1))⟩)
  un := ⟨ac, hac, ownsRow_base ho (Nat.zero_le _), fun i y a hy ha => ⟨(hda i y a hy ha).1, (hda i y a hy ha).2.keep (fun b hb => hb8.block b (hrd.lt b hb.1)) (fun b hb => ⟨.inl hb.1, u8_keep hb.2 (hb8.block b (hrd.lt b hb.1))⟩)⟩⟩
  mr := .inl rfl
  tv := fun b hb => .inl (hrd.tv b hb)
  mu := fun b hb => .inr hb
  mt := fun b hb => .inr hb
  lt := fun b hb => by
    rcases hb with hb | hb | hb
    · exact Nat.lt_of_lt_of_le (hrd.lt b hb) hb8.size
    · rw [hb]; exact row_lt hx8
    · exact (ownsRow_lt ho hb).2
  ok := hrd.ok
theorem two_of {w wz w4 w8 : World} {g gc r x m m' n : Nat} {s : DS} {S Sc T M : Nat → Prop} {v u u7 u8 : Value} {ac : List AC} (hpa : PairAt wz g r s S T M) (hfr : ∀ b, S b ∨ T b → w.heap.size ≤ b) (hfa : Below w.heap.size w wz)
    (hd4 : DiskAt w4 gc s Sc) (hS4 : ∀ b, Sc b → wz.heap.size ≤ b) (hb4 : Below wz.heap.size wz w4) (hrd : RDW w4 r s T M v u) (hx : x = w4.heap.size) (hac : ac.length = s.unsure.length) (hda : WData w4 (fun b => T b ∧ U8 w4 b) s.unsure ac) (hb8 : Below w4.heap.size w4 w8)
    (hx8 : w8.heap[x]? = some (.cells (rdC v u7 s.room s.fuse s.down) tRD (0, 0))) (hy8 : w8.heap[x + 1]? = some (.cells (rdC v u8 s.room s.fuse s.down) tRD (0, 0)))
    (hn : n = s.unsure.length) (ho7 : w8.ownsRow m tWrite 4 u7 n (wRow s.unsure ac)) (hm : x + 2 ≤ m) (h7 : ∀ b, u7.ownBlock = some b → b < m') (ho8 : w8.ownsRow m' tWrite 4 u8 n (wRow s.unsure ac)) (hm' : m ≤ m') :
    Two w w8 g x gc (x + 1) r (.cells (rdC v u s.room s.fuse s.down) tRD (0, 0)) s s := by
  subst hn
  have l7 : ∀ b, u7.ownBlock = some b → m ≤ b := fun b hb => (ownsRow_lt ho7 hb).1
  have l8 : ∀ b, u8.ownBlock = some b → m' ≤ b := fun b hb => (ownsRow_lt ho8 hb).1
  have lS : ∀ b, S b → b < wz.heap.size := hpa.d.lt.1
  have lT : ∀ b, T b → b < wz.heap.size := hpa.r.lt.1
  have lC : ∀ b, Sc b → b < w4.heap.size := hd4.lt.1
  have hz4 := hb4.size
  have hz0 := hfa.size
  have hTr : T r := hrd.mt r hrd.mr
  have hrl := lT r hTr
  refine ⟨S, _, _, Sc, _, _, ⟨hpa.d.keep (fun b hb => (hb8.block b (by have := lS b hb; omega)).trans (hb4.block b (lS b hb))) (Nat.le_trans hz4 hb8.size), ⟨v, u7, rdw_copied hrd hac hda hb8 hx8 ho7⟩, fun b ha hb => ?_⟩, ⟨hd4.keep (fun b hb => hb8.block b (lC b hb)) hb8.size, ⟨v, u8, rdw_copied hrd hac hda hb8 hy8 ho8⟩, fun b ha hb => ?_⟩, fun b hb => ?_, fun b hb => ?_, fun b ha hb => ?_, fun b ha hb => ?_, fun b ha hb => ?_, fun b ha hb => ?_, fun b ha hb => ?_, (hb8.block r (by omega)).trans hrd.row, ⟨fun e => hpa.sep r e hTr, fun e => ?_⟩, ⟨fun e => ?_, fun e => ?_⟩, hfa.trans ((hb4.trans (hb8.mono hz4)).mono hz0)⟩
  · have := lS b ha
    rcases hb with hb | hb | hb
    · exact hpa.sep b ha hb
    · omega
    · have := l7 b hb; omega
  · have := lC b ha
    have := hS4 b ha
    rcases hb with hb | hb | hb
    · have := lT b hb; omega
    · omega
    · have := l8 b hb; omega
  · rcases hb with hb | hb | hb | hb
    · exact hfr b (.inl hb)
    · exact hfr b (.inr hb)
    · omega
    · have := l7 b hb; omega
  · rcases hb with hb | hb | hb | hb
    · have := hS4 b hb; omega
    · exact hfr b (.inr hb)
    · omega
    · have := l8 b hb; omega
  · have := lS b ha
    have := hS4 b hb
    omega
  · have := lS b ha
    rcases hb with hb | hb | hb
    · exact hpa.sep b ha hb
    · omega
    · have := l8 b hb; omega
  · have := lC b hb
    have := hS4 b hb
    rcases ha with ha | ha | ha
    · have := lT b ha; omega
    · omega
    · have := l7 b ha; omega
  · rcases ha with ha | ha
    · rcases hb with hb | hb | hb
      · have := lT b hb; omega
      · omega
      · have := l8 b hb; omega
    · have h1 := l7 b ha
      have h2 := h7 b ha
      rcases hb with hb | hb | hb
      · have := lT b hb; omega
      · omega
      · have := l8 b hb; omega
  · rcases hb with hb | hb
    · rcases ha with ha | ha | ha
      · have := lT b ha; omega
      · omega
      · have := l7 b ha; omega
    · have h1 := l8 b hb
      rcases ha with ha | ha | ha
      · have := lT b ha; omega
      · omega
      · have := h7 b ha; omega
  · rcases e with e | e
    · omega
    · have := l7 r e; omega
  · have := hS4 r e; omega
  · rcases e with e | e
    · omega
    · have := l8 r e; omega
/-- The lengths that the law looks at. -/
theorem two_len {w wr : World} {g x gc y r : Nat} {row : Obj} {s1 s2 : DS} (h : Two w wr g x gc y r row s1 s2) : ∃ A1 c1 A2 c2, wr.cell? ⟨x, 1, none⟩ = some (.slice A1 s1.unsure.length c1) ∧ wr.cell? ⟨y, 1, none⟩ = some (.slice A2 s2.unsure.length c2) ∧ wr.heap[r]? = some row := by
  obtain ⟨S1, T1, M1, S2, T2, M2, h⟩ := h
  obtain ⟨v1, u1, h1⟩ := h.p1.r
  obtain ⟨v2, u2, h2⟩ := h.p2.r
  obtain ⟨A1, c1, rfl, -⟩ := h1.un.form
  obtain ⟨A2, c2, rfl, -⟩ := h2.un.form
  exact ⟨A1, c1, A2, c2, by rw [cell_of_row wr x 1 _ _ _ h1.row]; rfl, by rw [cell_of_row wr y 1 _ _ _ h2.row]; rfl, h.row⟩
/-- Two disks of the call's own, apart. -/
structure TwoDAt (w wr : World) (g gc : Nat) (s1 s2 : DS) (S1 S2 : Nat → Prop) : Prop where
  d1 : DiskAt wr g s1 S1
  d2 : DiskAt wr gc s2 S2
  f1 : ∀ b, S1 b → w.heap.size ≤ b
  f2 : ∀ b, S2 b → w.heap.size ≤ b
  sep : ∀ b, S1 b → S2 b → False
  far : Below w.heap.size w wr
def TwoD (w wr : World) (g gc : Nat) (s1 s2 : DS) : Prop := ∃ S1 S2, TwoDAt w wr g gc s1 s2 S1 S2
theorem Two.disks {w wr : World} {g x gc y r : Nat} {row : Obj} {s1 s2 : DS} (h : Two w wr g x gc y r row s1 s2) : TwoD w wr g gc s1 s2 := by
  obtain ⟨S1, T1, M1, S2, T2, M2, h⟩ := h
  exact ⟨S1, S2, h.p1.d, h.p2.d, fun b hb => h.f1 b (.inl hb), fun b hb => h.f2 b (.inl hb), h.ss, h.far⟩
theorem TwoD.swap {w wr : World} {g gc : Nat} {s1 s2 : DS} (h : TwoD w wr g gc s1 s2) : TwoD w wr gc g s2 s1 := by
  obtain ⟨S1, S2, h⟩ := h
  exact ⟨S2, S1, h.d2, h.d1, h.f2, h.f1, fun b a c => h.sep b c a, h.far⟩
theorem TwoD.below {w wr w' : World} {g gc : Nat} {s1 s2 : DS} (h : TwoD w wr g gc s1 s2) (hb : Below wr.heap.size wr w') : TwoD w w' g gc s1 s2 := by
  obtain ⟨S1, S2, h⟩ := h
  exact ⟨S1, S2, h.d1.below hb, h.d2.below hb, h.f1, h.f2, h.sep, By.ext h.far hb⟩
theorem TwoD.far {w wr : World} {g gc : Nat} {s1 s2 : DS} (h : TwoD w wr g gc s1 s2) : Below w.heap.size w wr := by
  obtain ⟨S1, S2, h⟩ := h
  exact h.far
theorem fall_two (g gc : Nat) (s1 s2 : DS) (w wr : World) (h : TwoD w wr g gc s1 s2) (hcnt : s1.cnt ≤ 68719476736) :
    Calls Try.prog 20 #[.pointer (some ⟨g, 0, none⟩), .int .u64 18446744073709551615, .int .i64 (-1)] wr (fun e w' => e = .returned (.int .i64 0) ∧ TwoD w w' g gc (calmS s1.files s1.room) s2) := by
  obtain ⟨S1, S2, h⟩ := h
  have hf := fall_any g s1 S1 18446744073709551615 (-1) wr h.d1 (by decide) hcnt
  rw [falS_all] at hf
  refine Calls.mono hf (fun e w' hp => ?_)
  obtain ⟨he, S', hd, hS, hk⟩ := hp
  have hz := h.far.size
  refine ⟨he, S', S2, hd, h.d2.keep (fun b hb => hk.block b (h.d2.lt.1 b hb) (fun e => h.sep b e hb)) hk.size, fun b hb => ?_, h.f2, fun b ha hb => ?_, h.far.trans (hk.below hz h.f1)⟩
  · rcases hS b hb with hb | hb
    · exact h.f1 b hb
    · omega
  · rcases hS b ha with ha | ha
    · exact h.sep b ha hb
    · have := h.d2.lt.1 b hb
      omega
theorem names_two (g gc : Nat) (s1 s2 : DS) (w wr : World) (h : TwoD w wr g gc s1 s2) (hcnt : s1.cnt ≤ 68719476736) : Calls Try.prog 24 #[.pointer (some ⟨g, 0, none⟩)] wr (GivesN (namesS s1) wr) := by
  obtain ⟨S1, S2, h⟩ := h
  exact names_any g s1 S1 wr h.d1 hcnt
theorem read_two (g gc : Nat) (s1 s2 : DS) (w wr : World) (nm : Bs) (h : TwoD w wr g gc s1 s2) (hnl : nm.length ≤ 140737488355328) : Calls Try.prog 23 #[.pointer (some ⟨g, 0, none⟩), .string (str nm)] wr (GivesE (readB s1 nm) (readE s1 nm) wr) := by
  obtain ⟨S1, S2, h⟩ := h
  exact read_any g s1 S1 nm wr h.d1 hnl
theorem ss_cell {base n c : Nat} {w : World} {A : Option Addr} {F : Fs} (h : OwnSs base w (.slice A n c) (namesOf F)) (_hn : n = F.length) {k : Nat} (hk : k < F.length) : ∃ ub, A = some ⟨ub, 0, none⟩ ∧ ub < w.heap.size ∧ w.cell? ⟨ub, k, none⟩ = some (.string (str F[k].1)) := by
  have hl : (namesOf F).length = F.length := by simp [namesOf]
  rcases h.2 with ⟨h1, h2⟩ | ⟨g, cap, cur, hv, hb, hg, hnc, hm, hs, ht⟩
  · omega
  · injection hv with h1 h2 h3
    refine ⟨g, h1, row_lt hg, ?_⟩
    rw [cell_of_row w g k _ _ _ hg]
    have h4 : ((namesOf F).map fun s => Value.string (str s))[k]? = some (.string (str F[k].1)) := by simp [namesOf, List.getElem?_eq_getElem hk]
    rw [← ht, List.getElem?_take] at h4
    split at h4
    · simpa using h4
    · cases h4
end Go.Proofs.Ytcfnfphnjkllcaa.Dk
