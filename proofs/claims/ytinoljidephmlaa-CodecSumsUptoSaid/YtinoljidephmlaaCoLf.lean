/- The law CodecSums, walked: whatever lists come in, not too much. -/
import Derived.Test.YtinoljidephmlaaCoLa
import Derived.Test.YtinoljidephmlaaSl
namespace Go.Proofs.Ytinoljidephmlaa.Co
open Go.RowKit By CoP Sl

/-- The copies: each in bytes of the call's own, none in the block v's. -/
def Copies (base : Nat) (w : World) (v : Value) (vs : List Value) (ls : List (List UInt8)) : Prop :=
  vs.length = ls.length ∧ ∀ (j : Nat) (u : Value) (l : List UInt8), vs[j]? = some u → ls[j]? = some l → Own base w u l ∧ (u.ownBlock = none ∨ u.ownBlock ≠ v.ownBlock)
theorem Copies.start (base : Nat) (w : World) (v : Value) : Copies base w v [] [] := ⟨rfl, fun j u l h => by simp at h⟩
theorem Copies.grow {base : Nat} {w w' : World} {v v' : Value} {vs : List Value} {ls : List (List UInt8)} (h : Copies base w v vs ls) (hg : w.grownBy w' v.ownBlock) (hv : v'.ownBlock = v.ownBlock ∨ v'.ownBlock = some w.heap.size) : Copies base w' v' vs ls := by
  refine ⟨h.1, fun j u l hu hl => ?_⟩
  obtain ⟨h1, h2⟩ := h.2 j u l hu hl
  refine ⟨World.ownsRow.kept h1 hg h2, ?_⟩
  rcases hv with e | e
  · rw [e]; exact h2
  · rw [e]
    rcases hu2 : u.ownBlock with _ | g
    · exact .inl rfl
    · refine .inr (fun e2 => ?_)
      have := h1.lt g hu2
      injection e2 with e2
      omega
theorem Copies.below {base : Nat} {w w' : World} {v : Value} {vs : List Value} {ls : List (List UInt8)} (h : Copies base w v vs ls) (hb : Below w.heap.size w w') : Copies base w' v vs ls :=
  ⟨h.1, fun j u l hu hl => ⟨(h.2 j u l hu hl).1.kept hb (Nat.le_refl _), (h.2 j u l hu hl).2⟩⟩
theorem Copies.push {base : Nat} {w w' : World} {v u : Value} {vs : List Value} {ls : List (List UInt8)} {l : List UInt8} (h : Copies base w v vs ls) (hb : Below w.heap.size w w') (hu : Own w.heap.size w' u l) (hbase : base ≤ w.heap.size) (hv : ∀ g, v.ownBlock = some g → g < w.heap.size) :
    Copies base w' v (vs ++ [u]) (ls ++ [l]) := by
  refine ⟨by rw [List.length_append, List.length_append, h.1]; rfl, fun j u' l' hu' hl' => ?_⟩
  by_cases hj : j < vs.length
  · rw [List.getElem?_append_left hj] at hu'
    rw [List.getElem?_append_left (by rw [← h.1]; exact hj)] at hl'
    exact (h.below hb).2 j u' l' hu' hl'
  · rw [List.getElem?_append_right (by omega)] at hu'
    rw [List.getElem?_append_right (by rw [← h.1]; omega)] at hl'
    have hj0 : j - vs.length = 0 := by
      rcases Nat.eq_zero_or_pos (j - vs.length) with e | e
      · exact e
      · rw [List.getElem?_eq_none (by simp; omega)] at hu'; cases hu'
    have hj1 : j - ls.length = 0 := by rw [← h.1]; exact hj0
    rw [hj0] at hu'
    rw [hj1] at hl'
    simp at hu' hl'
    subst hu' hl'
    refine ⟨hu.more hbase, ?_⟩
    rcases hu2 : u.ownBlock with _ | g
    · exact .inl rfl
    · refine .inr (fun e2 => ?_)
      have h1 := (hu.lt g hu2).1
      have h2 := hv g e2.symm
      omega
theorem Copies.row {base : Nat} {w w' : World} {v r : Value} {vs vs' : List Value} {ls : List (List UInt8)} (h : Copies base w v vs ls) (hr : OwnL base w r vs') (hg : w.grownBy w' r.ownBlock) : Copies base w' v vs ls :=
  ⟨h.1, fun j u l hu hl => ⟨World.ownsRow.kept (h.2 j u l hu hl).1 hg (ne_types (h.2 j u l hu hl).1 hr (by decide)), (h.2 j u l hu hl).2⟩⟩
/-- The copies as a list of lists that can be read. -/
theorem Copies.lies {base : Nat} {w : World} {v : Value} {vs : List Value} {ls : List (List UInt8)} {A : Option Addr} {n c : Nat} (h : Copies base w v vs ls) (hr : OwnL base w (.slice A n c) vs) : LiesL w w.heap.size A ls := fun hp => by
  obtain ⟨g, cap, e, _, hlt⟩ := World.ownsRow.form hr (by rw [h.1]; exact hp)
  injection e with e
  refine ⟨g, 0, e, hlt, fun j l hl => ?_⟩
  have hj : j < vs.length := by rw [h.1]; exact (List.getElem?_eq_some_iff.1 hl).1
  obtain ⟨h1, _⟩ := h.2 j _ l (List.getElem?_eq_getElem hj) hl
  obtain ⟨Aj, cj, e2, _, _, _, h3, _⟩ := h1.form
  subst e
  have hc := World.ownsRow.cells hr (g := g) rfl j _ (List.getElem?_eq_getElem hj)
  rw [plainAdd, e2] at hc
  exact ⟨Aj, cj, hc, h3⟩
theorem ownL_below {base : Nat} {w w' : World} {v : Value} {vs : List Value} (h : OwnL base w v vs) (hb : Below w.heap.size w w') : OwnL base w' v vs :=
  World.ownsRow.kept h (row := none) ⟨hb.os, hb.tape, hb.output, hb.size, fun k hk _ => hb.block k hk⟩ (by
    rcases hv : v.ownBlock with _ | k
    · exact .inl rfl
    · exact .inr (by simp))
theorem frame_two (l : List UInt8) : ∃ (lf : List UInt8) (ef : Int),
    (∀ (A : Option Addr) (n c : Nat) (w : World), n = l.length → Lies w w.heap.size A l → Calls Try.prog 22 #[.slice A n c] w (GivesE w.heap.size lf ef w)) ∧
    (∀ (A : Option Addr) (n c : Nat) (w : World), n = l.length → Lies w w.heap.size A l → Calls Try.prog 23 #[.slice A n c] w (GivesE w.heap.size lf ef w)) := by
  by_cases h : 65536 < l.length
  · exact ⟨[], 7, fun A n c w hn _ => frame_large A n c (by omega) w, fun A n c w hn _ => rframe_large A n c (by omega) w⟩
  · exact ⟨frame l, 0, fun A n c w hn hr => frame_ok A n c _ l hn (by omega) w hr (Nat.le_refl _), fun A n c w hn hr => rframe_ok A n c _ l hn (by omega) w hr (Nat.le_refl _)⟩
theorem mem_flatten_le {ls : List (List UInt8)} {l : List UInt8} (h : l ∈ ls) : l.length ≤ ls.flatten.length := by
  induction ls with
  | nil => cases h
  | cons x r ih =>
    rw [List.flatten_cons, List.length_append]
    rcases List.mem_cons.1 h with rfl | h
    · omega
    · have := ih h
      omega
theorem flatten_take (ls : List (List UInt8)) (k : Nat) : (ls.take k).flatten.length ≤ ls.flatten.length := by
  conv => rhs; rw [← List.take_append_drop k ls]
  rw [List.flatten_append, List.length_append]
  omega

set_option maxRecDepth 100000 in
set_option maxHeartbeats 3200000 in
theorem codecSums_walk (A : Option Addr) (n c : Nat) (ls : List (List UInt8)) (hn : n = ls.length) (hm : n ≤ 1048576) (hfl : ls.flatten.length ≤ 1048576) (w : World) (hr : LiesL w w.heap.size A ls) :
    Calls Try.prog 5 #[.slice A n c] w (True_ w) := by
  have HN := Lib.hid hn
  have HFL := Lib.hid hfl
  have HR := Lib.hid hr
  clear hn hfl hr
  go_enter Try.func5, Try.ntmps5
  go_wp2
  go_loopw [3, 4, 5] (fun v r i wr => ∃ (k : Nat) (vs : List Value), k ≤ n ∧ i = .int .i64 (k : Int) ∧ Own w.heap.size wr v (ls.take k).flatten ∧ OwnL w.heap.size wr r vs ∧ Copies w.heap.size wr v vs (ls.take k) ∧ Below w.heap.size w wr) (fun _ _ i _ => n - (intOf i).toNat)
  case atStart => exact ⟨0, [], by omega, rfl, Own.nil _ _, World.ownsRow_nil _ _ _ _, Copies.start _ _ _, Below.refl _ _⟩
  case round =>
    obtain ⟨k, vs, hk, rfl, ho, hol, hcp, hb⟩ := hrel
    have HO := Lib.hid ho
    have HOL := Lib.hid hol
    have HCP := Lib.hid hcp
    have HB := Lib.hid hb
    have hz := hb.size
    clear ho hol hcp hb
    by_cases hkn : k < n
    · have hkl : k < ls.length := by have := HN.out; omega
      obtain ⟨g, o, Aj, cj, rfl, hg, hc, hrj⟩ := (HR.out.below HB.out).at_ hkl
      have HS := Lib.hid (show (ls.take (k + 1)).flatten = (ls.take k).flatten ++ ls[k] by rw [List.take_succ_eq_append_getElem hkl, List.flatten_append, List.flatten_cons, List.flatten_nil, List.append_nil])
      have HS2 := Lib.hid (List.take_succ_eq_append_getElem hkl)
      have hl1 := flatten_take ls (k + 1)
      rw [HS.out, List.length_append] at hl1
      have HL1 := Lib.hid hl1
      generalize ls[k] = lk at hc hrj HS HS2 HL1
      obtain ⟨m, hm2⟩ : ∃ m, lk.length = m := ⟨_, rfl⟩
      rw [hm2] at hc
      have HM2 := Lib.hid hm2.symm
      have HRJ := Lib.hid hrj
      clear hl1 hm2 hrj hkl
      go_wp2_with (at_builtin; refine wpList_appB rfl (.tmp 16) (.tmp 20) rfl rfl HO.out rfl HM2.out HRJ.out ?cs ?cb ?_)
      case cs => have h1 := HL1.out; have h2 := HFL.out; omega
      case cb => exact hz
      intro v1 w1 ho1 hg1 hv1
      have hb1 : Below w.heap.size wr w1 := (Below.refl _ _).grown hg1 hz (fun k hk => (HO.out.lt k hk).1)
      have hol1 : OwnL w.heap.size w1 _ vs := World.ownsRow.kept HOL.out hg1 (ne_types HOL.out HO.out (by decide))
      have HO1 := Lib.hid ho1
      have HOL1 := Lib.hid hol1
      have HCP1 := Lib.hid (HCP.out.grow hg1 hv1)
      have HB1 := Lib.hid (HB.out.trans hb1)
      have hz1 := (HB.out.trans hb1).size
      have HRJ1 := Lib.hid ((HRJ.out.below hb1).more hz1)
      have hc1 : w1.cell? ⟨g, o + k, none⟩ = some (.slice Aj m cj) := (hb1.cell (p := ⟨g, o + k, none⟩) hg).trans hc
      clear ho1 hg1 hv1 hb1 hol1 HO HOL HCP HB hc
      go_wp2_with fail
      refine (own_any Aj m cj _ lk HM2.out w1 HRJ1.out (Nat.le_refl _) (by have := HL1.out; have := HFL.out; omega)).mono ?_
      rintro e w2 ⟨_, rfl, ho2, hb2⟩
      obtain ⟨A2, c2, e2, -, -, -, -, -⟩ := ho2.form
      subst e2
      rw [← HM2.out] at ho2 ⊢
      have HO2 := Lib.hid (HO1.out.kept hb2 (Nat.le_refl _))
      have HOL2 := Lib.hid (ownL_below HOL1.out hb2)
      have HCP2 := Lib.hid (HCP1.out.push hb2 ho2 hz1 (fun g hg => (HO1.out.lt g hg).2))
      have HB2 := Lib.hid (ext HB1.out hb2)
      have hz2 := (ext HB1.out hb2).size
      have hvl : vs.length + 1 ≤ 1048577 := by have h1 := HCP1.out.1; rw [List.length_take] at h1; omega
      clear ho2 hb2 HO1 HOL1 HCP1 HB1 HRJ1 hc1 HRJ
      go_wp2_with (at_builtin; refine wpList_push rfl (.tmp 22) (.tmp 28) rfl rfl HOL2.out rfl hvl hz2 ?_)
      intro v4 w3 hol3 hg3
      have hba := (Below.refl w2.heap.size w2).alloc (Nat.le_refl _) (.cells #[.slice A2 m c2] 22)
      have hol2a := ownL_below HOL2.out hba
      have hbg : Below w.heap.size (w2.alloc (.cells #[.slice A2 m c2] 22)) w3 := (Below.refl _ _).grown hg3 (by rw [World.size_alloc]; omega) (fun k hk => (HOL2.out.lt k hk).1)
      have ho3 : Own w.heap.size w3 v1 ((ls.take k).flatten ++ lk) := World.ownsRow.kept (HO2.out.alloc _) hg3 (ne_types (HO2.out.alloc _) hol2a (by decide))
      have hcp3 := (HCP2.out.below hba).row hol2a hg3
      rw [← HS.out] at ho3
      rw [← HS2.out] at hcp3
      have HO3 := Lib.hid ho3
      have HOL3 := Lib.hid hol3
      have HCP3 := Lib.hid hcp3
      have HB3 := Lib.hid ((HB2.out.alloc hz2 _).trans hbg)
      clear ho3 hol3 hcp3 hg3 hba hol2a hbg HO2 HOL2 HCP2 HB2 HS HS2
      go_wp2
      go_roundw
      case rel => exact ⟨k + 1, _, by omega, by go_num, HO3.out, HOL3.out, HCP3.out, HB3.out⟩
      case measure => simp [intOf]; omega
    · obtain rfl : k = n := by omega
      have hlk : ls.take k = ls := List.take_of_length_le (by have := HN.out; omega)
      rw [hlk] at HO HCP
      obtain ⟨lf, ef, hf1, hf2⟩ := frame_two ls.flatten
      have HF1 := Lib.hid hf1
      have HF2 := Lib.hid hf2
      obtain ⟨A3, c3, e3, -, -, -, hr3, -⟩ := HO.out.form
      subst e3
      obtain ⟨m, hm2⟩ : ∃ m, ls.flatten.length = m := ⟨_, rfl⟩
      rw [hm2]
      have HM2 := Lib.hid hm2.symm
      have HR3 := Lib.hid hr3
      have hmm : m ≤ 1048576 := by have := HFL.out; omega
      have hrow : ∃ A4 c4, u4 = .slice A4 k c4 := by
        have hvl : vs.length = k := by have h1 := HCP.out.1; have := HN.out; omega
        rcases HOL.out.2 with ⟨e, h0⟩ | ⟨g, cap, cur, e, _⟩
        · exact ⟨none, 0, by rw [e]; congr 1; omega⟩
        · exact ⟨_, cap, by rw [e, hvl]⟩
      obtain ⟨A4, c4, e4⟩ := hrow
      subst e4
      have hll : LiesL wr wr.heap.size A4 ls := HCP.out.lies HOL.out
      have HLL := Lib.hid hll
      have hlim : ∀ l ∈ ls, l.length ≤ 140737488355328 := by
        intro l hl
        have h1 := HFL.out
        have h2 := mem_flatten_le hl
        omega
      have HLIM := Lib.hid hlim
      clear hlk hf1 hf2 hr3 hm2 hll hlim
      go_wp2_with fail
      refine (own_any A3 m c3 _ ls.flatten HM2.out wr HR3.out (Nat.le_refl _) (by have := HM2.out; omega)).mono ?_
      rintro e wa ⟨_, rfl, ho, hb⟩
      obtain ⟨A5, c5, rfl, -, -, -, hr5, -⟩ := ho.form
      rw [← HM2.out]
      have B1 := Lib.hid (ext HB.out hb)
      have HR3a := Lib.hid (lext HR3.out hb)
      have HLLa := Lib.hid ((HLL.out.below hb).more hb.size)
      have HR5 := Lib.hid hr5
      clear ho hb hr5
      go_wp2_with fail
      refine (HF1.out A5 m c5 wa HM2.out HR5.out).mono ?_
      rintro e wb ⟨_, rfl, ho, hb⟩
      obtain ⟨F, cf, rfl, -, -, -, hrf, -⟩ := ho.form
      have B2 := Lib.hid (ext B1.out hb)
      have HR3b := Lib.hid (lext HR3a.out hb)
      have HLLb := Lib.hid ((HLLa.out.below hb).more hb.size)
      have HRF := Lib.hid hrf
      clear ho hb hrf HR3a HLLa HR5
      go_wp2_with fail
      refine (HF2.out A3 m c3 wb HM2.out HR3b.out).mono ?_
      rintro e wc ⟨_, rfl, ho, hb⟩
      obtain ⟨G, cg, rfl, -, -, -, hrg, -⟩ := ho.form
      have B3 := Lib.hid (ext B2.out hb)
      have HR3c := Lib.hid (lext HR3b.out hb)
      have HLLc := Lib.hid ((HLLb.out.below hb).more hb.size)
      have HRFc := Lib.hid (lext HRF.out hb)
      have HRG := Lib.hid hrg
      obtain ⟨nf, hnf⟩ : ∃ nf, lf.length = nf := ⟨_, rfl⟩
      rw [hnf]
      have HNF := Lib.hid hnf.symm
      clear ho hb hrg HR3b HLLb HRF hnf
      go_wp2_with fail
      refine (answers_yes wc).mono ?_
      rintro e wd ⟨rfl, hb⟩
      have B4 := Lib.hid (ext B3.out hb)
      have HR3d := Lib.hid (lext HR3c.out hb)
      have HLLd := Lib.hid ((HLLc.out.below hb).more hb.size)
      have t1 := run_text wd cf HNF.out (lext HRFc.out hb)
      have t2 := run_text wd cg HNF.out (lext HRG.out hb)
      clear hb HR3c HLLc HRFc HRG
      go_wp2_with fail
      refine (sum_any A4 k c4 _ ls HN.out (by omega) HLIM.out wd HLLd.out).mono ?_
      rintro e we ⟨rfl, rfl⟩
      go_wp2_with fail
      refine (rsum_any A3 m c3 _ ls.flatten HM2.out (by omega) wd HR3d.out).mono ?_
      rintro e we ⟨rfl, rfl⟩
      go_wp2
      go_ret
      exact ⟨rfl, B4.out⟩
end Go.Proofs.Ytinoljidephmlaa.Co
