/- What DiskApart wants: a pair beside its copy and another reference's; what a new file reads. No walk. -/
import Derived.Test.YtolomblbcljdfaaLaJ
import Derived.Test.YtolomblbcljdfaaLaO
namespace Go.Proofs.Ytolomblbcljdfaa.Dk
open Go.RowKit Go.Maps By Mp

def zz : Bs := [122, 122, 46, 122, 122]
theorem burnt_zero' {s : DS} (h : s.fuse = 0) : burnt s = s := by unfold burnt; rw [if_pos h]
theorem apart_get {b d : Bs} {j : Nat} (hj : j < d.length) : (putB b 0 d)[j]? = some d[j] := by
  have hl : j < (putB b 0 d).length := by rw [putB_length]; omega
  have h := putB_get b 0 d j
  rw [if_pos (by omega)] at h
  simp only [List.getD_eq_getElem?_getD, Nat.sub_zero] at h
  rw [List.getElem?_eq_getElem hl, List.getElem?_eq_getElem hj] at h
  rw [List.getElem?_eq_getElem hl]
  exact congrArg some (by simpa using h)
theorem apart_plain {s : DS} (hok : s.Ok) (hd : s.down = false) (hf : s.fuse = 0) {d : Bs} (h1 : (fsize s.files : Int) + (d.length : Int) ≤ s.room) (h2 : s.files.length ≤ 4000) :
    chgE s 1 zz 0 d = 0 ∧ readE (chgS s 1 zz 0 d) zz = 0 ∧ readB (chgS s 1 zz 0 d) zz = putB (bytesOf s.files zz) 0 d := by
  have hn : named zz = true := by decide
  have hup : Up s.files := up_all hok.up
  have hsz := size_doW hup (w := ⟨1, zz, 0, d⟩) ⟨Nat.le_refl 1, (by show (1 : Nat) ≤ 3; decide)⟩
  have hbe : behind (flen s.files zz) ⟨1, zz, 0, d⟩ ≤ flen s.files zz + d.length := by
    unfold behind
    rw [if_pos rfl]
    show max _ (0 + d.length) ≤ _
    omega
  have hsz' : fsize (doW s.files ⟨1, zz, 0, d⟩) ≤ fsize s.files + d.length := by
    have hsz : fsize (doW s.files ⟨1, zz, 0, d⟩) + flen s.files zz = fsize s.files + behind (flen s.files zz) ⟨1, zz, 0, d⟩ := hsz
    omega
  have hr : refusal s 1 zz 0 d = 0 := by
    unfold refusal
    rw [hd, if_neg (by simp), if_neg (by rw [hn]; simp), if_neg (by omega)]
    rw [if_neg]
    intro h
    have h4 : s.room < (fsize (doW s.files ⟨1, zz, (0 : Int).toNat, d⟩) : Int) := h.2
    have h5 : (fsize (doW s.files ⟨1, zz, (0 : Int).toNat, d⟩) : Int) ≤ (fsize s.files : Int) + (d.length : Int) := by
      have : ((0 : Int).toNat) = 0 := rfl
      rw [this]
      omega
    omega
  have hb : burns s = false := by unfold burns; rw [hf]; rfl
  have hu : burnt s = s := burnt_zero' hf
  have hs : chgS s 1 zz 0 d = { s with unsure := s.unsure ++ [⟨1, zz, 0, d⟩] } := by
    unfold chgS
    rw [if_neg (fun e => e hr), if_neg (by rw [hb]; simp), hu]
    rfl
  have hfl : (chgS s 1 zz 0 d).files = doW s.files ⟨1, zz, 0, d⟩ := by rw [hs]; exact files_snoc s _
  have hg : fget (chgS s 1 zz 0 d).files zz = some (putB (bytesOf s.files zz) 0 d) := by
    rw [hfl]
    show fget (doW s.files ⟨1, zz, 0, d⟩) zz = _
    unfold doW
    rw [if_neg (by show ¬ (1 : Nat) = 3; decide), if_neg (by show ¬ (1 : Nat) = 2; decide), fget_put, if_pos rfl]
  have hdn : (chgS s 1 zz 0 d).down = false := by rw [hs]; exact hd
  have hre : readE (chgS s 1 zz 0 d) zz = 0 := by unfold readE fthere; rw [hdn, hn, hg]; simp
  refine ⟨by unfold chgE; rw [if_neg (fun e => e hr), if_neg (by rw [hb]; simp)], hre, ?_⟩
  unfold readB bytesOf
  rw [hre, if_pos rfl, hg]
  rfl
theorem rd_new {w : World} {n : Int} (hn : 0 ≤ n ∧ n ≤ 4194304) : RDAt (w.alloc (.cells #[.slice none 0 0, .slice none 0 0, .int .i64 n, .int .i64 0, .bool false] tRD)) w.heap.size (newDS n) (fun b => b = w.heap.size) (fun b => b = w.heap.size) :=
  ⟨.slice none 0 0, .slice none 0 0, heap_alloc_new w _, RfAt.nil _ _ _, WsAt.nil _ _ _, rfl, fun b hb => (by cases hb), fun b hb => (by cases hb), fun b hb => hb, fun b hb => by rw [hb, World.size_alloc]; omega, newDS_ok hn⟩
/-- A pair of the call's own, and beside it another disk and another reference's. -/
def Twin (w wr : World) (g r : Nat) (s : DS) (gc rx : Nat) (s1 z1 : DS) : Prop := ∃ S T M Sc Tx Mx, PairAt wr g r s S T M ∧ PairAt2 wr gc rx s1 z1 Sc Tx Mx ∧ (∀ b, S b ∨ T b → w.heap.size ≤ b) ∧ (∀ b, Sc b ∨ Tx b → w.heap.size ≤ b) ∧ (∀ b, S b ∨ T b → Sc b ∨ Tx b → False) ∧ Below w.heap.size w wr
theorem Twin.below {w wr w' : World} {g r : Nat} {s : DS} {gc rx : Nat} {s1 z1 : DS} (h : Twin w wr g r s gc rx s1 z1) (hb : Below wr.heap.size wr w') : Twin w w' g r s gc rx s1 z1 := by
  obtain ⟨S, T, M, Sc, Tx, Mx, h1, h2, h3, h4, h5, h6⟩ := h
  exact ⟨S, T, M, Sc, Tx, Mx, h1.below hb, h2.below hb, h3, h4, h5, By.ext h6 hb⟩
theorem Twin.far {w wr : World} {g r : Nat} {s : DS} {gc rx : Nat} {s1 z1 : DS} (h : Twin w wr g r s gc rx s1 z1) : Below w.heap.size w wr := by
  obtain ⟨S, T, M, Sc, Tx, Mx, h1, h2, h3, h4, h5, h6⟩ := h
  exact h6
theorem Twin.pair {w wr : World} {g r : Nat} {s : DS} {gc rx : Nat} {s1 z1 : DS} (h : Twin w wr g r s gc rx s1 z1) : OwnP w wr g r s := by
  obtain ⟨S, T, M, Sc, Tx, Mx, h1, h2, h3, h4, h5, h6⟩ := h
  exact ⟨S, T, M, h1, h3, h6⟩
/-- First the copy, then the new one. -/
theorem twin_cb {w wa wb : World} {g r : Nat} {s : DS} {S T M : Nat → Prop} {gc : Nat} {Sc : Nat → Prop} {n : Int} (hn : 0 ≤ n ∧ n ≤ 4194304) (hp : PairAt wa g r s S T M) (hf : ∀ b, S b ∨ T b → w.heap.size ≤ b) (hw : Below w.heap.size w wa) (hd : DiskAt wb gc s Sc) (hS : ∀ b, Sc b → wa.heap.size ≤ b) (hb : Below wa.heap.size wa wb) :
    Twin w (wb.alloc (.cells #[.slice none 0 0, .slice none 0 0, .int .i64 n, .int .i64 0, .bool false] tRD)) g r s gc wb.heap.size s (newDS n) := by
  have h1 := hw.size
  have h2 := hb.size
  have hba : Below wb.heap.size wb (wb.alloc (.cells #[.slice none 0 0, .slice none 0 0, .int .i64 n, .int .i64 0, .bool false] tRD)) := (Below.refl _ _).alloc (Nat.le_refl _) _
  have hlt : ∀ b, S b ∨ T b → b < wa.heap.size := fun b hb => hb.elim (hp.d.lt.1 b) (hp.r.lt.1 b)
  refine ⟨S, T, M, Sc, _, _, (hp.below hb).below hba, ⟨hd.below hba, rd_new hn, fun b hs ht => ?_⟩, hf, fun b hs => ?_, fun b h3 h4 => ?_, By.ext (By.ext hw hb) hba⟩
  · have := hd.lt.1 b hs
    have ht : b = wb.heap.size := ht
    omega
  · rcases hs with hs | hs
    · have := hS b hs; omega
    · have hs : b = wb.heap.size := hs
      omega
  · have := hlt b h3
    rcases h4 with h4 | h4
    · have := hS b h4; omega
    · have h4 : b = wb.heap.size := h4
      omega
/-- First the new one, then the copy. -/
theorem twin_bc {w wa wb : World} {g r : Nat} {s : DS} {S T M : Nat → Prop} {gc : Nat} {Sc : Nat → Prop} {n : Int} (hn : 0 ≤ n ∧ n ≤ 4194304) (hp : PairAt wa g r s S T M) (hf : ∀ b, S b ∨ T b → w.heap.size ≤ b) (hw : Below w.heap.size w wa) (hd : DiskAt wb gc s Sc) (hS : ∀ b, Sc b → (wa.alloc (.cells #[.slice none 0 0, .slice none 0 0, .int .i64 n, .int .i64 0, .bool false] tRD)).heap.size ≤ b)
    (hb : Below (wa.alloc (.cells #[.slice none 0 0, .slice none 0 0, .int .i64 n, .int .i64 0, .bool false] tRD)).heap.size (wa.alloc (.cells #[.slice none 0 0, .slice none 0 0, .int .i64 n, .int .i64 0, .bool false] tRD)) wb) :
    Twin w wb g r s gc wa.heap.size s (newDS n) := by
  have h1 := hw.size
  have hba : Below wa.heap.size wa (wa.alloc (.cells #[.slice none 0 0, .slice none 0 0, .int .i64 n, .int .i64 0, .bool false] tRD)) := (Below.refl _ _).alloc (Nat.le_refl _) _
  have hz : (wa.alloc (.cells #[.slice none 0 0, .slice none 0 0, .int .i64 n, .int .i64 0, .bool false] tRD)).heap.size = wa.heap.size + 1 := World.size_alloc _ _
  rw [hz] at hS
  have hlt : ∀ b, S b ∨ T b → b < wa.heap.size := fun b hb => hb.elim (hp.d.lt.1 b) (hp.r.lt.1 b)
  refine ⟨S, T, M, Sc, _, _, (hp.below hba).below hb, ⟨hd, (rd_new hn).below hb, fun b hs ht => ?_⟩, hf, fun b hs => ?_, fun b h3 h4 => ?_, By.ext (By.ext hw hba) hb⟩
  · have := hS b hs
    have ht : b = wa.heap.size := ht
    omega
  · rcases hs with hs | hs
    · have := hS b hs; omega
    · have hs : b = wa.heap.size := hs
      omega
  · have := hlt b h3
    rcases h4 with h4 | h4
    · have := hS b h4; omega
    · have h4 : b = wa.heap.size := h4
      omega
/-- An act on the other two. -/
theorem act_twin (g r : Nat) (s : DS) (gc rx : Nat) (s1 z1 : DS) (a : A1) (A : Option Addr) (c : Nat) (w wr : World) (h : Twin w wr g r s gc rx s1 z1) (h1 : s1.cnt ≤ 68719476736) (h2 : z1.cnt ≤ 68719476736) (ha : ActOk a) (hc : a.data.length ≤ c) (hd : Lies w w.heap.size A a.data) :
    Calls Try.prog 14 #[.pointer (some ⟨gc, 0, none⟩), .pointer (some ⟨rx, 0, none⟩), aV a (A, c)] wr (fun e w' => (∃ b : Bool, e = .returned (.bool b)) ∧ Twin w w' g r s gc rx (actS s1 a) (actS z1 a)) := by
  obtain ⟨S, T, M, Sc, Tx, Mx, p1, p2, f1, f2, sp, hb⟩ := h
  have hz := hb.size
  have hl : ∀ b, S b ∨ T b → b < wr.heap.size := fun b h => h.elim (p1.d.lt.1 b) (p1.r.lt.1 b)
  refine (act2_any gc rx s1 z1 Sc Tx Mx a A c wr p2 h1 h2 ha hc (fun b => b < w.heap.size) (fun b hb' => ⟨fun e => ?_, fun e => ?_, Nat.lt_of_lt_of_le hb' hz⟩) ((LiesS.of hd).keep (fun b hb' => hb.block b hb') (fun _ h => h))).mono ?_
  · exact Nat.not_lt_of_le (f2 b (.inl e)) hb'
  · exact Nat.not_lt_of_le (f2 b (.inr e)) hb'
  · rintro e w' ⟨he, S', T', M', hp, hS, hT, hM, hk⟩
    refine ⟨he, S, T, M, S', T', M', ?_, hp, f1, fun b hb' => ?_, fun b h3 h4 => ?_, ?_⟩
    · have hkk : ∀ b, S b ∨ T b → w'.heap[b]? = wr.heap[b]? := fun b h => hk.block b (hl b h) (fun e => sp b h (e.imp id (p2.r.lt.2.1 b)))
      exact ⟨p1.d.keep (fun b h => hkk b (.inl h)) hk.size, p1.r.keep (fun b h => hkk b (.inr h)) hk.size, p1.sep⟩
    · rcases hb' with h | h
      · rcases hS b h with h | h
        · exact f2 b (.inl h)
        · omega
      · rcases hT b h with h | h
        · exact f2 b (.inr h)
        · omega
    · have := hl b h3
      rcases h4 with h | h
      · rcases hS b h with h | h
        · exact sp b h3 (.inl h)
        · omega
      · rcases hT b h with h | h
        · exact sp b h3 (.inr h)
        · omega
    · exact hb.trans (hk.below hz (fun b h => f2 b (h.imp id (p2.r.lt.2.1 b))))
/-- One byte of a slice of the call's own is stored: a disk in other blocks stays. -/
theorem disk_set {w : World} {g : Nat} {s : DS} {S : Nat → Prop} (h : DiskAt w g s S) {p : Addr} (hp : ¬ S p.block) (u : Value) : DiskAt (w.setCell p u) g s S :=
  h.keep (fun b hb => heap_setCell_other w p b u (fun e => hp (e ▸ hb))) (by rw [size_setCell']; exact Nat.le_refl _)
end Go.Proofs.Ytolomblbcljdfaa.Dk
