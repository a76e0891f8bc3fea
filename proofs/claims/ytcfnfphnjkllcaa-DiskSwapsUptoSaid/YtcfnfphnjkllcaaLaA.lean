/- A disk and the reference's beside it; what an act comes to. No walk. -/
import Derived.Test.YtcfnfphnjkllcaaDlD
import Derived.Test.YtcfnfphnjkllcaaEG
import Derived.Test.YtcfnfphnjkllcaaRfL
namespace Go.Proofs.Ytcfnfphnjkllcaa.Dk
open Go.RowKit Go.Maps By Mp

/-- An act. -/
structure A1 where
  kind : Int
  name : Bs
  n : Int
  data : Bs
  mask : Nat
abbrev tAct : TypeId := 31
def aCells (a : A1) (p : AC) : List Value := [.int .i64 a.kind, .string (str a.name), .int .i64 a.n, .slice p.1 a.data.length p.2, .int .u64 (a.mask : Int)]
def aV (a : A1) (p : AC) : Value := .agg #[.int .i64 a.kind, .string (str a.name), .int .i64 a.n, .slice p.1 a.data.length p.2, .int .u64 (a.mask : Int)]
/-- What a disk is behind an act. -/
def actS (s : DS) (a : A1) : DS :=
  if a.kind = 1 then chgS s 1 a.name a.n a.data
  else if a.kind = 2 then chgS s 2 a.name a.n []
  else if a.kind = 3 then chgS s 3 a.name 0 []
  else if a.kind = 4 then synS s
  else if a.kind = 6 then roomS s a.n
  else if a.kind = 7 then fuseS s a.n
  else if a.kind = 8 then falS s a.mask a.n
  else s
theorem chg_cnt (s : DS) (k : Nat) (nm : Bs) (off : Int) (d : Bs) : (chgS s k nm off d).cnt ≤ s.cnt + 1 := by
  unfold chgS
  have hb : (burnt s).sure = s.sure ∧ (burnt s).unsure = s.unsure := by
    unfold burnt
    split
    · exact ⟨rfl, rfl⟩
    · split <;> exact ⟨rfl, rfl⟩
  unfold DS.cnt
  split
  · omega
  · split
    · rw [hb.1, hb.2]; omega
    · show (burnt s).sure.length + (s.unsure ++ [_]).length ≤ _
      rw [hb.1, List.length_append, List.length_singleton]; omega
theorem act_cnt {s : DS} (h : s.Ok) (a : A1) : (actS s a).cnt ≤ s.cnt + 1 := by
  unfold actS
  split
  · exact chg_cnt _ _ _ _ _
  · split
    · exact chg_cnt _ _ _ _ _
    · split
      · exact chg_cnt _ _ _ _ _
      · split
        · unfold synS
          have hf := files_le h
          have hb : (burnt s).sure = s.sure ∧ (burnt s).unsure = s.unsure := ⟨(burnt_ok h).1, (burnt_ok h).2.1⟩
          split
          · omega
          · split
            · unfold DS.cnt; rw [hb.1, hb.2]; omega
            · show s.files.length + 0 ≤ _
              omega
        · split
          · unfold roomS DS.cnt
            split <;> simp
          · split
            · unfold fuseS DS.cnt
              split <;> simp
            · split
              · show ((torn a.n (staying a.mask 0 s.unsure)).foldl doW s.sure).length + 0 ≤ _
                have h1 := len_all (l := torn a.n (staying a.mask 0 s.unsure)) h.up
                have h2 := staying_le a.mask s.unsure 0
                rw [torn_length] at h1
                unfold DS.cnt
                omega
              · omega
theorem DiskAt.lt {w : World} {g : Nat} {s : DS} {S : Nat → Prop} (h : DiskAt w g s S) : (∀ b, S b → b < w.heap.size) ∧ S g ∧ s.Ok := by
  obtain ⟨bm, sm, pb, ps, v, h⟩ := h
  exact ⟨h.lt, h.subg, h.ok⟩
theorem RDAt.lt {w : World} {r : Nat} {s : DS} {T M : Nat → Prop} (h : RDAt w r s T M) : (∀ b, T b → b < w.heap.size) ∧ (∀ b, M b → T b) ∧ M r := by
  obtain ⟨v, u, h⟩ := h
  exact ⟨h.lt, h.mt, h.mr⟩
/-- A disk and the reference's are both s, and have no block in common. -/
structure PairAt (w : World) (g r : Nat) (s : DS) (S T M : Nat → Prop) : Prop where
  d : DiskAt w g s S
  r : RDAt w r s T M
  sep : ∀ b, S b → T b → False
theorem PairAt.below {w w' : World} {g r : Nat} {s : DS} {S T M : Nat → Prop} (h : PairAt w g r s S T M) (hb : Below w.heap.size w w') : PairAt w' g r s S T M := ⟨h.d.below hb, h.r.below hb, h.sep⟩
/-- A call that gives val and makes both s'. -/
def PStep (val : Value) (g r : Nat) (s' : DS) (S T M : Nat → Prop) (w : World) (e : Ending) (w' : World) : Prop := e = .returned val ∧ ∃ S' T' M', PairAt w' g r s' S' T' M' ∧ (∀ b, S' b → S b ∨ w.heap.size ≤ b) ∧ (∀ b, T' b → T b ∨ w.heap.size ≤ b) ∧ (∀ b, M' b → M b ∨ w.heap.size ≤ b) ∧ Kept (fun b => S b ∨ M b) w w'
theorem pstep_same {val : Value} {w w' : World} {g r : Nat} {s : DS} {S T M : Nat → Prop} (h : PairAt w g r s S T M) (hb : Below w.heap.size w w') : PStep val g r s S T M w (.returned val) w' := ⟨rfl, S, T, M, h.below hb, fun _ h => .inl h, fun _ h => .inl h, fun _ h => .inl h, Kept.of_below hb⟩
theorem pstep_dr {val : Value} {w w5 w6 w7 : World} {g r : Nat} {s s' : DS} {S T M S6 T7 M7 : Nat → Prop} (hp : PairAt w g r s S T M) (hb : Below w.heap.size w w5) (hd6 : DiskAt w6 g s' S6) (hS6 : ∀ b, S6 b → S b ∨ w5.heap.size ≤ b) (hk6 : Kept S w5 w6)
    (hr7 : RDAt w7 r s' T7 M7) (hT7 : ∀ b, T7 b → T b ∨ w6.heap.size ≤ b) (hM7 : ∀ b, M7 b → M b ∨ w6.heap.size ≤ b) (hk7 : Kept M w6 w7) : PStep val g r s' S T M w (.returned val) w7 := by
  have h1 := hb.size
  have h2 := hk6.size
  have h3 := hk7.size
  obtain ⟨hl, hmt, _⟩ := hp.r.lt
  have hsl := hp.d.lt.1
  refine ⟨rfl, S6, T7, M7, ⟨hd6.keep (fun b hs => hk7.block b (hd6.lt.1 b hs) (fun hm => ?_)) h3, hr7, fun b hs ht => ?_⟩, fun b hs => (hS6 b hs).imp id (fun h => by omega), fun b ht => (hT7 b ht).imp id (fun h => by omega), fun b ht => (hM7 b ht).imp id (fun h => by omega), ?_⟩
  · rcases hS6 b hs with h | h
    · exact hp.sep b h (hmt b hm)
    · have := hl b (hmt b hm); omega
  · rcases hT7 b ht with h | h
    · rcases hS6 b hs with h' | h'
      · exact hp.sep b h' h
      · have := hl b h; omega
    · have := hd6.lt.1 b hs; omega
  · exact ((Kept.of_below hb).step hk6 (fun b _ e => .inl e)).step hk7 (fun b _ e => .inr e)
theorem pstep_rd {val : Value} {w w5 w6 w7 : World} {g r : Nat} {s s' : DS} {S T M T6 M6 S7 : Nat → Prop} (hp : PairAt w g r s S T M) (hb : Below w.heap.size w w5) (hr6 : RDAt w6 r s' T6 M6) (hT6 : ∀ b, T6 b → T b ∨ w5.heap.size ≤ b) (hM6 : ∀ b, M6 b → M b ∨ w5.heap.size ≤ b) (hk6 : Kept M w5 w6)
    (hd7 : DiskAt w7 g s' S7) (hS7 : ∀ b, S7 b → S b ∨ w6.heap.size ≤ b) (hk7 : Kept S w6 w7) : PStep val g r s' S T M w (.returned val) w7 := by
  have h1 := hb.size
  have h2 := hk6.size
  have h3 := hk7.size
  obtain ⟨hl, hmt, _⟩ := hp.r.lt
  have hsl := hp.d.lt.1
  refine ⟨rfl, S7, T6, M6, ⟨hd7, hr6.keep (fun b ht => hk7.block b (hr6.lt.1 b ht) (fun hs => ?_)) h3, fun b hs ht => ?_⟩, fun b hs => (hS7 b hs).imp id (fun h => by omega), fun b ht => (hT6 b ht).imp id (fun h => by omega), fun b ht => (hM6 b ht).imp id (fun h => by omega), ?_⟩
  · rcases hT6 b ht with h | h
    · exact hp.sep b hs h
    · have := hsl b hs; omega
  · rcases hS7 b hs with h | h
    · rcases hT6 b ht with h' | h'
      · exact hp.sep b h h'
      · have := hsl b h; omega
    · have := hr6.lt.1 b ht; omega
  · exact ((Kept.of_below hb).step hk6 (fun b _ e => .inr e)).step hk7 (fun b _ e => .inl e)
theorem PStep.below {val : Value} {w w7 w8 : World} {g r : Nat} {s' : DS} {S T M : Nat → Prop} {e : Ending} (h : PStep val g r s' S T M w e w7) (hb : Below w7.heap.size w7 w8) : PStep val g r s' S T M w e w8 := by
  obtain ⟨he, S', T', M', hp, h1, h2, h3, hk⟩ := h
  exact ⟨he, S', T', M', hp.below hb, h1, h2, h3, hk.step (Kept.of_below (M := fun _ => False) hb) (fun _ _ e => e.elim)⟩
/-- What a disk and the reference's do in the world w0 that w's call begins with. -/
theorem PStep.from_ {val : Value} {w w0 w7 : World} {g r : Nat} {s' : DS} {S T M : Nat → Prop} {e : Ending} (h : PStep val g r s' S T M w0 e w7) (hb : Below w.heap.size w w0) : PStep val g r s' S T M w e w7 := by
  obtain ⟨he, S', T', M', hp, h1, h2, h3, hk⟩ := h
  have := hb.size
  exact ⟨he, S', T', M', hp, fun b hb' => (h1 b hb').imp id (fun h => by omega), fun b hb' => (h2 b hb').imp id (fun h => by omega), fun b hb' => (h3 b hb').imp id (fun h => by omega), (Kept.of_below hb).trans hk⟩
/-- One cell of the reference's own row is stored. -/
theorem rd_set {w : World} {r : Nat} {s s' : DS} {T M : Nat → Prop} (h : RDAt w r s T M) (o : Nat) (x : Value) (ho : ∀ v u, (rdC v u s.room s.fuse s.down).setIfInBounds o x = rdC v u s'.room s'.fuse s'.down) (hs : s'.sure = s.sure) (hu : s'.unsure = s.unsure) (hok : s'.Ok) : RDAt (w.setCell ⟨r, o, none⟩ x) r s' T M := by
  obtain ⟨v, u, h⟩ := h
  obtain ⟨hne, hvne, hune⟩ := rd_ne h
  have hoth : ∀ b, b ≠ r → (w.setCell ⟨r, o, none⟩ x).heap[b]? = w.heap[b]? := fun b hb => heap_setCell_other w ⟨r, o, none⟩ b _ hb
  refine ⟨v, u, by rw [← ho]; exact heap_setCell_same w r o _ _ _ h.row, ?_, ?_, h.mr, h.tv, h.mu, h.mt, fun b hb => by rw [size_setCell']; exact h.lt b hb, hok⟩
  · rw [hs]
    exact h.sure.keep (fun b hb => hoth b (hvne b hb)) (fun b hb => hoth b (hne b hb.2)) (fun b hb => ⟨hb.1, u8_keep hb.2 (hoth b (hne b hb.2))⟩)
  · rw [hu]
    exact h.un.keep (fun b hb => hoth b (hune b hb)) (fun b hb => hoth b (hne b hb.2)) (fun b hb => ⟨hb.1, u8_keep hb.2 (hoth b (hne b hb.2))⟩)
end Go.Proofs.Ytcfnfphnjkllcaa.Dk
