/- Package wal: frames, as a contract of a call. -/
import Derived.Test.YtnjifhbooikdbaaGreatDoorWaC
import Derived.Test.YtnjifhbooikdbaaGreatDoorCoU
import Derived.Test.YtnjifhbooikdbaaGreatDoorDkM
import Derived.Test.YtnjifhbooikdbaaGreatDoorDlB
import Derived.Test.YtnjifhbooikdbaaGreatDoorDkZ
import Derived.Test.YtnjifhbooikdbaaGreatDoorEC
namespace Go.Proofs.YtnjifhbooikdbaaGreatDoor.Wa
open Go.RowKit Go.Maps By Mp Dk

/-- Records as they lie one behind the other, and where each ends. -/
def framesB : List Bs → Bs
  | [] => []
  | r :: l => CoP.frame r ++ framesB l
def endsOf (n : Nat) : List Bs → List Nat
  | [] => []
  | r :: l => (n + (r.length + 8)) :: endsOf (n + (r.length + 8)) l
theorem framesB_app (a b : List Bs) : framesB (a ++ b) = framesB a ++ framesB b := by
  induction a with
  | nil => rfl
  | cons r l ih => show CoP.frame r ++ framesB (l ++ b) = CoP.frame r ++ framesB l ++ framesB b; rw [ih, List.append_assoc]
theorem endsOf_length (n : Nat) (l : List Bs) : (endsOf n l).length = l.length := by
  induction l generalizing n with
  | nil => rfl
  | cons r l ih => simp [endsOf, ih]
theorem endsOf_app (n : Nat) (a b : List Bs) : endsOf n (a ++ b) = endsOf n a ++ endsOf (n + (framesB a).length) b := by
  induction a generalizing n with
  | nil => rfl
  | cons r l ih =>
    show (n + (r.length + 8)) :: endsOf (n + (r.length + 8)) (l ++ b) = (n + (r.length + 8)) :: (endsOf (n + (r.length + 8)) l ++ endsOf (n + (CoP.frame r ++ framesB l).length) b)
    rw [ih, List.length_append, CoP.frame_length]
    simp only [Nat.add_assoc]
theorem framesB_take {l : List Bs} {k : Nat} (hk : k < l.length) : framesB (l.take (k + 1)) = framesB (l.take k) ++ CoP.frame l[k] := by
  rw [List.take_succ_eq_append_getElem hk, framesB_app]
  show _ ++ (CoP.frame l[k] ++ []) = _
  rw [List.append_nil]
theorem endsOf_take (n : Nat) {l : List Bs} {k : Nat} (hk : k < l.length) : endsOf n (l.take (k + 1)) = endsOf n (l.take k) ++ [n + (framesB (l.take (k + 1))).length] := by
  rw [framesB_take hk, List.take_succ_eq_append_getElem hk, endsOf_app]
  show _ ++ [_] = _ ++ [_]
  rw [List.length_append, CoP.frame_length, Nat.add_assoc]
theorem framesB_le {l : List Bs} (k : Nat) : (framesB (l.take k)).length ≤ (framesB l).length := by
  conv => rhs; rw [← List.take_append_drop k l]
  rw [framesB_app, List.length_append]
  omega
def ints (l : List Nat) : List Value := l.map fun (x : Nat) => Value.int .i64 (x : Int)
theorem ints_one {l : List Nat} : ∀ u ∈ ints l, u.oneCell' = true := by
  intro u hu
  obtain ⟨x, _, rfl⟩ := List.mem_map.1 hu
  rfl
theorem iInfo : (Tryz.prog.info? 3).map (fun i => (i.zero, i.size, i.bytes)) = some (some (.int .i64 0), 1, 8) := by kernel_rfl
/-- Numbers of the call's own. -/
def OwnI (base : Nat) (w : World) (v : Value) (l : List Nat) : Prop := w.ownsRow base 3 1 v l.length (ints l)
theorem ownI_nil (base : Nat) (w : World) : OwnI base w (.slice none 0 0) [] := World.ownsRow_nil w base _ 1
theorem own_ne {w : World} {b1 b2 : Nat} {v u : Value} {l : Bs} {m : Nat} {xs : List Value} (h : Own b1 w v l) (h' : w.ownsRow b2 3 1 u m xs) {b : Nat} (hv : v.ownBlock = some b) : u.ownBlock ≠ some b := fun hu => by
  obtain ⟨c1, e1⟩ := ownsRow_type h hv
  obtain ⟨c2, e2⟩ := ownsRow_type h' hu
  rw [e1] at e2
  injection e2 with e2
  injection e2 with _ e2
  exact absurd e2 (by decide)
def FramesPost (n : Nat) (ls : List Bs) (w : World) (e : Ending) (w' : World) : Prop := ∃ v u, e = .returned (.tuple #[v, u, .int .i64 0]) ∧ Own w.heap.size w' v (framesB ls) ∧ OwnI w.heap.size w' u (endsOf n ls) ∧ Below w.heap.size w w'
set_option maxRecDepth 100000 in
set_option maxHeartbeats 2000000 in
theorem frames_any (A : Option Addr) (c n : Nat) (ls : List Bs) (w : World) (hr : LiesL w w.heap.size A ls) (h6 : ∀ l ∈ ls, l.length ≤ 65520) (hn : ls.length ≤ 1099511627776) (ha : n + (framesB ls).length ≤ 70368744177664) :
    Calls Tryz.prog 20 #[.slice A ls.length c, .int .i64 (n : Nat)] w (FramesPost n ls w) := by
  have HR := Lib.hid hr
  have H6 := Lib.hid h6
  have HA := Lib.hid ha
  clear hr h6 ha
  go_enter Tryz.func20, Tryz.ntmps20
  go_wp2
  go_loopw [4, 5, 13] (fun v u i wr => ∃ k : Nat, k ≤ ls.length ∧ i = .int .i64 (k : Int) ∧ Own w.heap.size wr v (framesB (ls.take k)) ∧ OwnI w.heap.size wr u (endsOf n (ls.take k)) ∧ Below w.heap.size w wr) (fun _ _ i _ => ls.length - (intOf i).toNat)
  case atStart => exact ⟨0, Nat.zero_le _, rfl, By.Own.nil _ _, ownI_nil _ _, Below.refl _ _⟩
  case round =>
    obtain ⟨k, hk, rfl, ho, hi, hb⟩ := hrel
    have HB := Lib.hid hb
    have HO := Lib.hid ho
    have HI := Lib.hid hi
    clear hb
    obtain ⟨Av, cv, hv, -⟩ := ho.form
    obtain ⟨Au, cu, hu⟩ := ownsRow_form hi
    clear ho hi
    subst hv
    subst hu
    by_cases hlt : k < ls.length
    · obtain ⟨g, o, Aj, cj, rfl, hg, hc, hl⟩ := HR.out.at_ hlt
      have hc' : wr.cell? ⟨g, o + k, none⟩ = some (.slice Aj (ls[k]).length cj) := (HB.out.cell hg).trans hc
      have hl6 : (ls[k]).length ≤ 65520 := H6.out _ (List.getElem_mem hlt)
      have HL := Lib.hid ((hl.below HB.out).more HB.out.size)
      have HFT := Lib.hid (framesB_take hlt)
      have HET := Lib.hid (endsOf_take n hlt)
      have HFL := Lib.hid (framesB_le (l := ls) (k + 1))
      have HFL0 := Lib.hid (framesB_le (l := ls) k)
      obtain ⟨r, hr⟩ : ∃ r, r = ls[k] := ⟨_, rfl⟩
      rw [← hr] at hc' hl6 HL HFT
      clear hc hl hr
      have HFR := Lib.hid (Co.frame_ok Aj r.length cj wr.heap.size r rfl (by omega) wr HL.out (Nat.le_refl _))
      have hl6i : ¬ ((r.length : Int) > 65520) := by omega
      go_upto_region 7 with (go_at_call 44; refine HFR.out.mono ?_; rintro e w1 ⟨vf, rfl, hof, hbf⟩; obtain ⟨Af, cf, hvf, -, -, -, hlf, -⟩ := hof.form; subst hvf; have HLF := Lib.hid hlf; have HBF := Lib.hid hbf; clear hof hbf hlf HFR HL)
      have ho1 : Own w.heap.size w1 (.slice Av (framesB (ls.take k)).length cv) (framesB (ls.take k)) := ownsRow_keep HO.out (fun b hb => HBF.out.block b (ownsRow_lt HO.out hb).2)
      have hi1 : OwnI w.heap.size w1 (.slice Au (endsOf n (ls.take k)).length cu) (endsOf n (ls.take k)) := ownsRow_keep HI.out (fun b hb => HBF.out.block b (ownsRow_lt HI.out hb).2)
      have hb1 : Below w.heap.size w w1 := HB.out.trans (HBF.out.mono HB.out.size)
      have HO1 := Lib.hid ho1
      have HI1 := Lib.hid hi1
      have HB1 := Lib.hid hb1
      have HLE := Lib.hid (show (framesB (ls.take k)).length + (CoP.frame r).length ≤ 70368744177664 by have h1 := HFL.out; rw [HFT.out, List.length_append] at h1; have := HA.out; omega)
      clear ho1 hi1 hb1 HO HI HB hc'
      obtain ⟨fl, hfl⟩ : ∃ fl, fl = (CoP.frame r).length := ⟨_, rfl⟩
      rw [← hfl] at HLE ⊢
      obtain ⟨fd, hfd⟩ : ∃ fd, fd = framesB (ls.take k) := ⟨_, rfl⟩
      rw [← hfd] at HO1 HLE HFT ⊢
      go_upto_region 8 with (at_builtin; refine wpList_app rfl (.tmp 25) (.tmp 26) rfl rfl HO1.out rfl hfl HLF.out (by have := HLE.out; omega) HB1.out.size ?_; intro v2 w2 ho2 hb2 hg2)
      have hi2 : OwnI w.heap.size w2 (.slice Au (endsOf n (ls.take k)).length cu) (endsOf n (ls.take k)) := ownsRow_keep HI1.out (fun b hb => hg2.block b (ownsRow_lt HI1.out hb).2 (fun e => own_ne HO1.out HI1.out e.symm hb))
      have hbw2 : Below w.heap.size w w2 := HB1.out.trans hb2
      obtain ⟨A2, c2, hv2, -⟩ := ho2.form
      subst hv2
      have hbd : (fd ++ CoP.frame r).length ≤ 70368744177664 - n := by have h1 := HFL.out; rw [HFT.out] at h1; have := HA.out; omega
      rw [← HFT.out] at ho2 hbd ⊢
      have HO2 := Lib.hid ho2
      have HI2 := Lib.hid hi2
      have HB2 := Lib.hid hbw2
      obtain ⟨m2, hm2⟩ : ∃ m2, m2 = (framesB (ls.take (k + 1))).length := ⟨_, rfl⟩
      obtain ⟨u2, hu2⟩ : ∃ u2, u2 = (endsOf n (ls.take k)).length := ⟨_, rfl⟩
      rw [← hm2] at hbd ⊢
      rw [← hu2]
      have HM2 := Lib.hid hm2
      have HU2 := Lib.hid hu2
      have HUK := Lib.hid (show u2 = k by rw [hu2, endsOf_length, List.length_take]; omega)
      have hnm : n + m2 ≤ 70368744177664 := by have := HA.out; omega
      have HIU := Lib.hid (show w2.ownsRow w.heap.size 3 1 (.slice Au u2 cu) u2 (ints (endsOf n (ls.take k))) from by have h := HI2.out; unfold OwnI at h; rw [← hu2] at h; exact h)
      clear ho2 hi2 hbw2 hb2 hg2 hm2 hu2 hbd HO1 HI1 HB1 HLF hfl hfd HLE
      obtain ⟨i0, hi, hz0, hz1, hz2⟩ := info_parts iInfo
      have HIA := Lib.hid (show (w2.alloc (.cells #[.int .i64 ((n : Int) + (m2 : Int))] 3)).ownsRow w.heap.size 3 1 (.slice Au u2 cu) u2 (ints (endsOf n (ls.take k))) from by have h := HI2.out.alloc (.cells #[.int .i64 ((n : Int) + (m2 : Int))] 3); rw [← HU2.out] at h; exact h)
      have HNC := Lib.hid (show ∀ (j : Nat) (u : Value), [Value.int .i64 ((n : Int) + (m2 : Int))][j]? = some u → (w2.alloc (.cells #[.int .i64 ((n : Int) + (m2 : Int))] 3)).cell? ((⟨w2.heap.size, 0, none⟩ : Addr).add j) = some u from by
        intro j u hu
        rw [plainAdd, Nat.zero_add, cell_of_row _ _ j _ _ _ (heap_alloc_new w2 _)]
        simpa using hu)
      have HN1 := Lib.hid (show ∀ u ∈ [Value.int .i64 ((n : Int) + (m2 : Int))], u.oneCell' = true from by
        intro u hu
        simp only [List.mem_cons, List.not_mem_nil, or_false] at hu
        subst hu
        rfl)
      have hz2a : w.heap.size ≤ (w2.alloc (.cells #[.int .i64 ((n : Int) + (m2 : Int))] 3)).heap.size := by simp; have := HB2.out.size; omega
      have HZ2 := Lib.hid hz2a
      clear hz2a
      go_wp2_with (at_builtin; refine wpList_append_own _ rfl (.tmp 28) (.tmp 33) 57 rfl w.heap.size 3 i0 _ 1 8 Tryz.underlying57 hi hz0 hz1 hz2 rfl (by decide) _ u2 (ints (endsOf n (ls.take k))) rfl HIA.out ⟨w2.heap.size, 0, none⟩ 1 1 [Value.int .i64 ((n : Int) + (m2 : Int))] rfl rfl HNC.out HN1.out (by have := HUK.out; unfold maxLen; omega) (by have := HUK.out; omega) HZ2.out ?_; intro v3 w3 ho3 hg3 _)
      have hbk : ∀ b, b < w2.heap.size → (Value.slice Au u2 cu).ownBlock ≠ some b → w3.heap[b]? = w2.heap[b]? := fun b hb hne => (hg3.block b (by simp; omega) (fun e => hne e.symm)).trans (heap_alloc_old w2 _ hb)
      have hown3 : Own w.heap.size w3 (.slice A2 m2 c2) (framesB (ls.take (k + 1))) := by
        rw [HM2.out]
        exact ownsRow_keep HO2.out (fun b hb => hbk b (ownsRow_lt HO2.out hb).2 (own_ne HO2.out HIU.out hb))
      have hint3 : OwnI w.heap.size w3 v3 (endsOf n (ls.take (k + 1))) := by
        have h1 : ints (endsOf n (ls.take (k + 1))) = ints (endsOf n (ls.take k)) ++ [Value.int .i64 ((n : Int) + (m2 : Int))] := by
          rw [HET.out, ← HM2.out]
          unfold ints
          rw [List.map_append]
          simp
        have h2 : (endsOf n (ls.take (k + 1))).length = u2 + 1 := by rw [HET.out, List.length_append, ← HU2.out]; rfl
        unfold OwnI
        rw [h1, h2]
        exact ho3
      have hb3 : Below w.heap.size w w3 := (HB2.out.alloc HB2.out.size _).grown hg3 HZ2.out (fun q e => (ownsRow_lt HIU.out (show (Value.slice Au u2 cu).ownBlock = some q from e)).1)
      go_roundw
      case rel => exact ⟨k + 1, by omega, by go_num, hown3, hint3, hb3⟩
      case measure => simp [intOf]; omega
    · have hke : k = ls.length := by omega
      subst hke
      have HFIN := Lib.hid (show FramesPost n ls w (.returned (.tuple #[.slice Av (framesB (ls.take ls.length)).length cv, .slice Au (endsOf n (ls.take ls.length)).length cu, .int .i64 0])) wr from ⟨_, _, rfl, by have h := HO.out; rw [List.take_length] at h ⊢; exact h, by have h := HI.out; rw [List.take_length] at h ⊢; exact h, HB.out⟩)
      go_wp2
      go_ret3
      exact HFIN.out
end Go.Proofs.YtnjifhbooikdbaaGreatDoor.Wa
