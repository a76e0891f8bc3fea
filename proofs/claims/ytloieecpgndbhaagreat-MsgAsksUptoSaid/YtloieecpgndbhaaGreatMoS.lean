/- Package scupperref03's writer: a text, made bytes and written. -/
import Derived.Test.YtloieecpgndbhaaGreatMoD
import Derived.Lib.ConvBytes
namespace Go.Proofs.YtloieecpgndbhaaGreat.Mo
open Go.RowKit By CoP Co

theorem putIds_len (l : List Int) (h : l.length ≤ 140737488355328) : (putIds l).length ≤ 9 * l.length + 9 := by
  unfold putIds
  rw [List.length_append]
  have := putNum_len l.length (by omega)
  have h2 := putIds_take l l.length
  rw [List.take_length] at h2
  omega
theorem conv_any (w : World) (l : List UInt8) : (convert 9 23 (.string (str l))).run Tryz.prog w = .ok (.slice (some ⟨w.heap.size, 0, none⟩) (str l).size (grownCap w (str l).size 0 5)) (Lib.bytesWorld w 5 (str l)) :=
  Lib.run_convert_string_bytes (P := Tryz.prog) w 9 23 5 (str l) Tryz.underlying9 Tryz.underlying23 Tryz.underlying5
theorem below_text (w : World) (l : List UInt8) : Below w.heap.size w (Lib.bytesWorld w 5 (str l)) :=
  ⟨rfl, rfl, rfl, by rw [Lib.bytesWorld_size]; omega, fun k hk => Lib.bytesWorld_at_old w _ _ k hk⟩
theorem lies_text (w : World) (l : List UInt8) : Lies (Lib.bytesWorld w 5 (str l)) (w.heap.size + 1) (some ⟨w.heap.size, 0, none⟩) l := fun _ =>
  ⟨w.heap.size, 0, rfl, Nat.lt_succ_self _, fun j x hx => by
    have hj := (List.getElem?_eq_some_iff.1 hx)
    obtain ⟨hj1, hj2⟩ := hj
    rw [Nat.zero_add, Lib.bytesWorld_cell w _ _ j (by rw [str_size]; exact hj1)]
    have e : (str l).data.toList = l := by simp [str]
    rw [e, bv]
    simp [List.getD, hx]⟩
theorem outText_any (base g : Nat) (l acc : List UInt8) (w : World) (h : OutAt base g w acc) (hb : base ≤ w.heap.size) (hs : acc.length + l.length + 9 ≤ 140737488355328) (n c : Nat) (hn : n = l.length) :
    Calls Tryz.prog 80 #[.pointer (some ⟨g, 0, none⟩), .slice (some ⟨w.heap.size, 0, none⟩) n c] (Lib.bytesWorld w 5 (str l)) (Wrote base g (acc ++ putBytes l) w) := by
  have hbt := below_text w l
  have hsz : (Lib.bytesWorld w 5 (str l)).heap.size = w.heap.size + 1 := Lib.bytesWorld_size w _ _
  refine (outData_any base g _ n c (w.heap.size + 1) l hn acc _ (lies_text w l) (by omega) (h.kept hbt (Nat.le_refl _)) (by omega) hs).mono ?_
  rintro e w1 ⟨he, ho, hb1, ht⟩
  exact ⟨he, ho, (hbt.mono hb).trans hb1, (Typed.below hbt).trans ht⟩
end Go.Proofs.YtloieecpgndbhaaGreat.Mo
