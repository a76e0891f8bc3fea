/- The law PostTwins, walked. -/
import Derived.Test.YtenaecpmmbigdaaPoV
namespace Go.Proofs.Ytenaecpmmbigdaa.Po
open Go.RowKit Go.Maps By Mp

/-- What Look gave, kept while the post goes on. -/
structure Kep (A : Option Addr) (d : Bs) (S : Nat → Prop) (wr : World) : Prop where
  lies : Lies wr wr.heap.size A d
  far : ∀ g o, A = some ⟨g, o, none⟩ → 0 < d.length → ¬ S g
theorem Kep.step {A : Option Addr} {d : Bs} {S S2 : Nat → Prop} {wr w2 : World} (h : Kep A d S wr) (hk : Kept S wr w2) (hs : ∀ b, S2 b → S b ∨ wr.heap.size ≤ b) : Kep A d S2 w2 := by
  refine ⟨fun hn => ?_, fun g o hA hn e => ?_⟩
  · obtain ⟨g, o, rfl, hg, hc⟩ := h.lies hn
    exact ⟨g, o, rfl, Nat.lt_of_lt_of_le hg hk.size, fun j x hx => (World.cell?_of_block (hk.block g hg (h.far g o rfl hn))).trans (hc j x hx)⟩
  · obtain ⟨g', o', e', hg, _⟩ := h.lies hn
    rw [hA] at e'
    injection e' with e'
    injection e' with e1 e2
    rcases hs g e with e | e
    · exact h.far g o hA hn e
    · omega
theorem Kep.below {A : Option Addr} {d : Bs} {S : Nat → Prop} {wr w2 : World} (h : Kep A d S wr) (hb : Below wr.heap.size wr w2) : Kep A d S w2 := h.step (Kept.of_below hb) (fun _ e => .inl e)
theorem kep_of {A : Option Addr} {n c : Nat} {d : Bs} {S : Nat → Prop} {w3 w4 : World} (h : Lies w4 w4.heap.size A d) (hf : ∀ b, (Value.slice A n c).ownBlock = some b → w3.heap.size ≤ b) (hs : ∀ b, S b → b < w3.heap.size) : Kep A d S w4 :=
  ⟨h, fun g o hA _ e => by
    subst hA
    have := hf g rfl
    have := hs g e
    omega⟩
def lenOf (wr : World) (g : Nat) : Nat := match wr.cell? ⟨g, 0, none⟩ with
  | some (.slice _ n _) => n
  | _ => 0
theorem lenOf_eq {wr : World} {g : Nat} {p : P8} {S : Nat → Prop} (h : PostIs wr g p S) : lenOf wr g = p.l.length := by
  obtain ⟨v, mb, h⟩ := h
  obtain ⟨A, c, hv⟩ := ownsRow_form h.own
  unfold lenOf
  rw [h.cells.1, hv]
theorem take_last (p : P8) (m L : Nat) (hL : L = p.l.length) (hm : p.l.length = m + 1) : ∃ y, takeR p ((L : Int) - 1) = ({ p with l := p.l.eraseIdx m }, y, 0) := by
  have e : ((L : Int) - 1).toNat = m := by omega
  refine ⟨p.l[m]'(by omega), ?_⟩
  unfold takeR
  rw [if_neg (by omega), e, List.getElem?_eq_getElem (by omega)]
theorem rep_at {l : List L8} {x : L8} {tm I : Nat} (h1 : l.length ≤ I) (h2 : I < l.length + tm) : (l ++ List.replicate tm x)[I]? = some x := by
  rw [List.getElem?_append_right h1, List.getElem?_replicate, if_pos (by omega)]
theorem Mn.step2 {w wr w2 : World} {g : Nat} {p p' : P8} {S : Nat → Prop} {val : Value} {e : Ending} (h : Mn w g p S wr) (h2 : PStep val g p' S wr e w2) : ∃ S2, e = .returned val ∧ Mn w g p' S2 w2 ∧ (∀ b, S2 b → S b ∨ wr.heap.size ≤ b) ∧ Kept S wr w2 := by
  obtain ⟨rfl, S2, hp, hs, hk⟩ := h2
  have hz := h.below.size
  refine ⟨S2, rfl, ⟨hp, fun b hb => ?_, h.below.trans (hk.below hz h.s)⟩, hs, hk⟩
  rcases hs b hb with e | e
  · exact h.s b e
  · omega
theorem send_few (p : P8) (a b : Int) (d : Bs) : (sendR p a b d).1.l.length ≤ p.l.length + 1 ∧ (sendR p a b d).1.room = p.room ∧ (sendR p a b d).1.cuts = p.cuts := by
  unfold sendR
  split
  · exact ⟨Nat.le_succ _, rfl, rfl⟩
  split
  · exact ⟨Nat.le_succ _, rfl, rfl⟩
  split
  · exact ⟨Nat.le_succ _, rfl, rfl⟩
  split
  · exact ⟨Nat.le_succ _, rfl, rfl⟩
  · exact ⟨by simp, rfl, rfl⟩
set_option maxRecDepth 100000 in
set_option maxHeartbeats 16000000 in
theorem postTwins_any (A : Option Addr) (c : Nat) (l : List A8) (wh tm : Nat) (w : World) (hl : LiesA w w.heap.size A l) (ho : ActsOk l) (hwh : wh ≤ 255) (htm : tm ≤ 255) : Calls Try.prog 7 #[.slice A l.length c, .int .u8 (wh : Int), .int .u8 (tm : Int)] w (True_ w) := by
  have HN := Lib.hid (new_ok 4096 w (by decide) (by decide))
  have q1 := ptrTest
  have HAN := Lib.hid answers_any
  have HL := Lib.hid hl
  have HO := Lib.hid ho
  have hwi : (wh : Int) ≤ 255 := by omega
  have hti : (tm : Int) ≤ 255 := by omega
  clear hl ho hwh htm
  go_enter Try.func7, Try.ntmps7
  go_wp2_with fail
  refine HN.out.mono ?_
  rintro e w1 hnew
  obtain ⟨rfl, hm⟩ := mn_new hnew
  obtain ⟨g, hg⟩ : ∃ g, g = w.heap.size := ⟨_, rfl⟩
  have hm : Mn w g ⟨[], [], 4096⟩ (fun b => b = g) w1 := by rw [hg]; exact hm
  rw [← hg]
  have HM1 := Lib.hid hm
  clear hg hm hnew HN
  go_wp2_with fail
  refine (HAN.out _).mono ?_
  rintro e w2 ⟨rfl, hb⟩
  have HM2 := Lib.hid (HM1.out.more hb)
  clear hb HM1
  by_cases hlen : (200 : Int) < (l.length : Int)
  · have hd : decide ((200 : Int) < (l.length : Int)) = true := decide_eq_true hlen
    go_wp2_with fail
    refine (HAN.out _).mono ?_
    rintro e w3 ⟨rfl, hb⟩
    have HMF := Lib.hid (HM2.out.more hb)
    clear hb
    go_wp2
    go_ret
    exact ⟨rfl, HMF.out.below⟩
  have hd : decide ((200 : Int) < (l.length : Int)) = false := decide_eq_false hlen
  have hd2 : decide (200 < l.length) = false := decide_eq_false (by omega)
  have HLEN := Lib.hid (show l.length ≤ 200 by omega)
  have hl2 : (l.length : Int) ≤ 200 := by omega
  clear hlen
  go_upto_region 4 with fail
  clear hd hd2
  go_wp2
  go_loopw [9] (fun i wr => ∃ (k : Nat) (p : P8) (S : Nat → Prop), k ≤ l.length ∧ i = .int .i64 (k : Int) ∧ Mn w g p S wr ∧ p.l.length ≤ k ∧ p.room = 4096) (fun i _ => l.length - (intOf i).toNat)
  case atStart => exact ⟨0, _, _, Nat.zero_le _, rfl, HM2.out, Nat.le_refl _, rfl⟩
  case round =>
    obtain ⟨k, p, S, hk, rfl, hm, hfew, hroom⟩ := hrel
    have HM := Lib.hid hm
    have HFEW := Lib.hid hfew
    have HROOM := Lib.hid hroom
    clear hm hfew hroom
    by_cases hlt : k < l.length
    · obtain ⟨x, hx⟩ : ∃ x, l[k]? = some x := ⟨_, List.getElem?_eq_getElem hlt⟩
      obtain ⟨ag, ao, Ax, cx, hA, hag, d0, d1, d2, d3, hlx⟩ := HL.out.at_ hx
      subst hA
      have hbw := HM.out.below
      have c1 := (hbw.cell (p := ⟨ag, ao + k * 4 + 1, none⟩) hag).trans d1
      have c2 := (hbw.cell (p := ⟨ag, ao + k * 4 + 2, none⟩) hag).trans d2
      have c3 := (hbw.cell (p := ⟨ag, ao + k * 4 + 3, none⟩) hag).trans d3
      have HC0 := Lib.hid (And.intro d1 (And.intro d2 d3))
      have HC00 := Lib.hid d0
      have HAGW := Lib.hid hag
      have HAG := Lib.hid (Nat.lt_of_lt_of_le hag hbw.size)
      have HX := Lib.hid hx
      have HDX := Lib.hid (HO.out x (List.mem_of_getElem? hx)).data
      have HLX := Lib.hid (hlx.below hbw)
      have HLXW := Lib.hid hlx
      clear hx hag d0 d1 d2 d3 hlx hbw
      obtain ⟨⟨P1, E1⟩, hsr⟩ : ∃ z, sendR p x.a x.b x.d = z := ⟨_, rfl⟩
      have hsf := send_few p x.a x.b x.d
      rw [hsr] at hsf
      have HSF := Lib.hid hsf
      have HSR := Lib.hid hsr
      clear hsf hsr
      go_upto_region 7 with fail
      have hba : Below wr.heap.size wr (wr.alloc (.cells #[] 5)).drew := ((Below.refl _ _).alloc (Nat.le_refl _) _).drew
      have HCC := Lib.hid (And.intro c1 (And.intro c2 c3))
      have HCD := Lib.hid (show wr.drew.cell? ⟨ag, ao + k * 4 + 1, none⟩ = some (.int .i64 x.a) ∧ wr.drew.cell? ⟨ag, ao + k * 4 + 2, none⟩ = some (.int .i64 x.b) ∧ wr.drew.cell? ⟨ag, ao + k * 4 + 3, none⟩ = some (.slice Ax x.d.length cx) from ⟨c1, c2, c3⟩)
      have HDE := Lib.hid (show (wr.alloc (.cells #[] 5)).cell? ⟨ag, ao + k * 4 + 1, none⟩ = some (.int .i64 x.a) ∧ (wr.alloc (.cells #[] 5)).cell? ⟨ag, ao + k * 4 + 2, none⟩ = some (.int .i64 x.b) ∧ (wr.alloc (.cells #[] 5)).cell? ⟨ag, ao + k * 4 + 3, none⟩ = some (.slice Ax x.d.length cx) from ⟨(hba.cell (p := ⟨ag, ao + k * 4 + 1, none⟩) HAG.out).trans c1, (hba.cell (p := ⟨ag, ao + k * 4 + 2, none⟩) HAG.out).trans c2, (hba.cell (p := ⟨ag, ao + k * 4 + 3, none⟩) HAG.out).trans c3⟩)
      have HDD := Lib.hid (show (wr.alloc (.cells #[] 5)).drew.cell? ⟨ag, ao + k * 4 + 1, none⟩ = some (.int .i64 x.a) ∧ (wr.alloc (.cells #[] 5)).drew.cell? ⟨ag, ao + k * 4 + 2, none⟩ = some (.int .i64 x.b) ∧ (wr.alloc (.cells #[] 5)).drew.cell? ⟨ag, ao + k * 4 + 3, none⟩ = some (.slice Ax x.d.length cx) from HDE.out)
      have HBA := Lib.hid hba
      have HOWN := Lib.hid (show Own wr.heap.size (wr.alloc (.cells #[] 5)).drew (.slice (some ⟨wr.heap.size, 0, none⟩) 0 0) [] from Own.made wr wr.heap.size #[] 0 (Nat.le_refl _) (by decide) rfl)
      have HLD := Lib.hid (show Lies (wr.alloc (.cells #[] 5)).drew w.heap.size Ax x.d from HLX.out.below (hba.mono HM.out.below.size))
      clear hba
      go_region_held3 (fun w' => w'.cell? ⟨ag, ao + k * 4 + 1, none⟩ = some (.int .i64 x.a) ∧ w'.cell? ⟨ag, ao + k * 4 + 2, none⟩ = some (.int .i64 x.b) ∧ w'.cell? ⟨ag, ao + k * 4 + 3, none⟩ = some (.slice Ax x.d.length cx))
        (first
          | with_reducible assumption
          | with_reducible exact HCC.out
          | with_reducible exact HCD.out
          | with_reducible exact HDD.out
          | with_reducible exact HDE.out
          | with_reducible exact HEE.out
          | with_reducible exact HII.out)
        (first
          | (refine step_appB rfl (.tmp 59) (.tmp 64) rfl (v := .slice (some ⟨wr.heap.size, 0, none⟩) 0 0) (by simp [Act.eval]) HOWN.out (A := Ax) (m := x.d.length) (c := cx) (by simp [Act.eval]) rfl HLD.out (by have := HDX.out; show 0 + x.d.length ≤ _; omega) HBA.out.size ?_
             intro v3 w3 ho3 hb3 hg3
             rw [List.nil_append] at ho3
             obtain ⟨A3, c3x, hv3, -, -, -, hl3, -⟩ := ho3.form
             subst hv3
             have hb23 : Below wr.heap.size wr w3 := HBA.out.trans hb3
             have HEE := Lib.hid (And.intro ((hb23.cell (p := ⟨ag, ao + k * 4 + 1, none⟩) HAG.out).trans HCC.out.1) (And.intro ((hb23.cell (p := ⟨ag, ao + k * 4 + 2, none⟩) HAG.out).trans HCC.out.2.1) ((hb23.cell (p := ⟨ag, ao + k * 4 + 3, none⟩) HAG.out).trans HCC.out.2.2)))
             have HSND := Lib.hid (send_any g p S x.a x.b A3 x.d.length c3x x.d w3 (HM.out.post.below hb23) rfl hl3)
             rw [HSR.out] at HSND
             have HM3 := Lib.hid (HM.out.more hb23)
             clear ho3 hb3 hg3 hb23 hl3)
          | (go_at_call 13; refine HSND.out.mono ?_; rintro e w4 hst
             obtain ⟨S4, rfl, hm4⟩ := HM3.out.step hst
             have HM4 := Lib.hid hm4
             have hb4 := hm4.below
             have HII := Lib.hid (And.intro (hb4.cell (p := ⟨ag, ao + k * 4 + 1, none⟩) HAGW.out |>.trans HC0.out.1) (And.intro (hb4.cell (p := ⟨ag, ao + k * 4 + 2, none⟩) HAGW.out |>.trans HC0.out.2.1) (hb4.cell (p := ⟨ag, ao + k * 4 + 3, none⟩) HAGW.out |>.trans HC0.out.2.2)))
             clear hst hm4 hb4))
      all_goals
        go_wp2
        go_roundw
        case rel => exact ⟨k + 1, P1, S4, by omega, by go_num, HM4.out, by have h1 : P1.l.length ≤ p.l.length + 1 := HSF.out.1; have := HFEW.out; omega, HSF.out.2.1.trans HROOM.out⟩
        case measure => simp [intOf]; omega
    · have hd : decide ((k : Int) < (l.length : Int)) = false := decide_eq_false (by omega)
      have hd2 : decide (k < l.length) = false := decide_eq_false hlt
      go_upto_region 8 with fail
      clear hlt hd hd2
      have HLN := Lib.hid (len_any g p S wr HM.out.post)
      go_wp2_with fail
      refine HLN.out.mono ?_
      rintro e w3 ⟨rfl, hb⟩
      have HM3 := Lib.hid (HM.out.more hb)
      clear hb HLN
      by_cases hn0 : p.l.length = 0
      · have hb0 : ((p.l.length : Int) == 0) = true := beq_iff_eq.2 (by omega)
        have htw : twinR p 0 = (p, 8) := by
          have hnil : p.l = [] := List.length_eq_zero_iff.1 hn0
          unfold twinR
          rw [if_neg (by decide), hnil]; rfl
        have HT := Lib.hid (twin_any g p S 0 w3 HM3.out.post)
        rw [htw] at HT
        clear htw hn0
        go_wp2_with fail
        refine HT.out.mono ?_
        rintro e w4 hst
        obtain ⟨S4, rfl, hm4⟩ := HM3.out.step hst
        have HM4 := Lib.hid hm4
        clear hst hm4 HT
        go_wp2
        go_ret
        exact ⟨rfl, HM4.out.below⟩
      · have hb0 : ((p.l.length : Int) == 0) = false := beq_eq_false_iff_ne.2 (by omega)
        have hn1 : ¬ ((p.l.length : Int) = 0) := by omega
        obtain ⟨N0, hN0⟩ : ∃ N0, N0 = p.l.length := ⟨_, rfl⟩
        obtain ⟨K, hK⟩ : ∃ K : Nat, (wh : Int) % (p.l.length : Int) = (K : Int) := ⟨wh % p.l.length, by omega⟩
        have hK2 : K < p.l.length := by
          have := Int.emod_lt_of_pos (wh : Int) (show 0 < (p.l.length : Int) by omega)
          omega
        obtain ⟨x, hx⟩ : ∃ x, p.l[K]? = some x := ⟨_, List.getElem?_eq_getElem hK2⟩
        have hN2 : (N0 : Int) ≤ 200 := by have := HFEW.out; have := HLEN.out; omega
        have HLK := Lib.hid (look_some g p S K x w3 HM3.out.post hx)
        have HX := Lib.hid hx
        have HK := Lib.hid hK
        have HK2 := Lib.hid hK2
        have HN0 := Lib.hid hN0
        clear hx hK hK2 hN0
        go_upto_region 12 with fail
        rw [HK.out, ← HN0.out]
        clear hn0 hb0 hn1
        go_wp2_with fail
        refine HLK.out.mono ?_
        rintro e w4 ⟨A2, c2, rfl, hl2', hf2, hb2⟩
        have HM4 := Lib.hid (HM3.out.more hb2)
        have HKP := Lib.hid (kep_of hl2' hf2 (fun b hb => HM3.out.post.lt hb))
        clear hl2' hf2 hb2 HLK
        go_upto_region 14 with fail
        go_loopw [16] (fun i wr => ∃ (j : Nat) (S4 : Nat → Prop), j ≤ tm ∧ i = .int .i64 (j : Int) ∧ Mn w g ⟨p.l ++ List.replicate j x, p.cuts, p.room⟩ S4 wr ∧ Kep A2 x.d S4 wr) (fun i _ => tm - (intOf i).toNat)
        case atStart => exact ⟨0, S, Nat.zero_le _, rfl, by simpa using HM4.out, HKP.out⟩
        case round =>
          obtain ⟨j, S4, hj, rfl, hm, hkp⟩ := hrel
          have HM5 := Lib.hid hm
          have HKP5 := Lib.hid hkp
          clear hm hkp
          by_cases hjt : j < tm
          · have hd : decide ((j : Int) < (tm : Int)) = true := decide_eq_true (by omega)
            have htw : twinR ⟨p.l ++ List.replicate j x, p.cuts, p.room⟩ (K : Int) = (⟨p.l ++ List.replicate (j + 1) x, p.cuts, p.room⟩, 0) := by
              have h1 : (p.l ++ List.replicate j x)[K]? = some x := by rw [List.getElem?_append_left HK2.out]; exact HX.out
              unfold twinR
              rw [if_neg (by omega), show ((K : Int)).toNat = K from rfl]
              simp only [h1]
              rw [if_neg (by rw [HROOM.out, List.length_append, List.length_replicate]; have := HFEW.out; have := HLEN.out; omega), List.replicate_succ', List.append_assoc]
            have HT := Lib.hid (twin_any g _ S4 (K : Int) wr HM5.out.post)
            rw [htw] at HT
            clear htw
            go_wp2_with fail
            refine HT.out.mono ?_
            rintro e w5 hst
            obtain ⟨S5, rfl, hm5, hs5, hk5⟩ := HM5.out.step2 hst
            have HM6 := Lib.hid hm5
            have HKP6 := Lib.hid (HKP5.out.step hk5 hs5)
            clear hst hm5 hs5 hk5 HT
            go_wp2
            go_roundw
            case rel => exact ⟨j + 1, S5, by omega, by go_num, HM6.out, HKP6.out⟩
            case measure => simp [intOf]; omega
          · have hje : j = tm := by omega
            subst hje
            obtain ⟨N3, hN3⟩ : ∃ N3, N3 = N0 + j := ⟨_, rfl⟩
            have hPl : (p.l ++ List.replicate j x).length = N3 := by rw [List.length_append, List.length_replicate, hN3, HN0.out]
            have HPL := Lib.hid hPl
            have HN3 := Lib.hid hN3
            have hN3i : (N3 : Int) ≤ 455 := by omega
            have HROOM2 := Lib.hid (show (N3 : Int) = (N0 : Int) + (j : Int) by omega)
            obtain ⟨P, hP⟩ : ∃ P : P8, P = ⟨p.l ++ List.replicate j x, p.cuts, p.room⟩ := ⟨_, rfl⟩
            have HPD := Lib.hid hP
            have HPL2 := Lib.hid (show P.l.length = N3 by rw [hP]; exact hPl)
            have HAT := Lib.hid (show ∀ I, N0 ≤ I → I < N3 → P.l[I]? = some x from fun I h1 h2 => by rw [hP]; exact rep_at (by rw [← HN0.out]; exact h1) (by rw [← HN0.out, ← hN3]; exact h2))
            have HM7 := Lib.hid (show Mn w g P S4 wr by rw [hP]; exact HM5.out)
            clear hPl hN3 hP HM5
            go_upto_region 18 with fail
            clear hjt
            go_wp2
            go_loopw [17] (fun i wr => ∃ (I : Nat), N0 ≤ I ∧ I ≤ N3 ∧ i = .int .i64 (I : Int) ∧ Mn w g P S4 wr ∧ Kep A2 x.d S4 wr) (fun i _ => N3 - (intOf i).toNat)
            case atStart => exact ⟨N0, Nat.le_refl _, by rw [HN3.out]; omega, rfl, HM7.out, HKP5.out⟩
            case round =>
              obtain ⟨I, hI0, hI1, rfl, hm, hkp⟩ := hrel
              have HM8 := Lib.hid hm
              have HKP8 := Lib.hid hkp
              have HLN := Lib.hid (len_any g P S4 wr hm.post)
              rw [HPL2.out] at HLN
              clear hm hkp
              go_wp2_with fail
              refine HLN.out.mono ?_
              rintro e w6 ⟨rfl, hb⟩
              have HM9 := Lib.hid (HM8.out.more hb)
              have HKP9 := Lib.hid (HKP8.out.below hb)
              clear hb HLN
              by_cases hin : I < N3
              · have hd : decide ((I : Int) < (N3 : Int)) = true := decide_eq_true (by omega)
                have HLK := Lib.hid (look_some g P S4 I x w6 HM9.out.post (HAT.out I hI0 hin))
                go_wp2_with fail
                refine HLK.out.mono ?_
                rintro e w7 ⟨A3, c3, rfl, hl3, hf3, hb3⟩
                have t1 : (convert 33 9 (.slice A3 x.d.length c3)).run Try.prog w7 = .ok (.string (str x.d)) w7 := run_text w7 c3 rfl hl3
                have t2 : (convert 33 9 (.slice A2 x.d.length c2)).run Try.prog w7 = .ok (.string (str x.d)) w7 := run_text w7 c2 rfl (HKP9.out.below hb3).lies
                have hq1 : (x.a != x.a) = false := by simp
                have hq2 : (x.b != x.b) = false := by simp
                have hq3 : ((str x.d).toList == (str x.d).toList) = true := by simp
                have HM10 := Lib.hid (HM9.out.more hb3)
                have HKP10 := Lib.hid (HKP9.out.below hb3)
                clear hl3 hf3 hb3 HLK
                go_wp2
                go_roundw
                case rel => exact ⟨I + 1, by omega, by omega, by go_num, HM10.out, HKP10.out⟩
                case measure => simp [intOf]; omega
              · have hIe : I = N3 := by omega
                have hd : decide ((I : Int) < (N3 : Int)) = false := decide_eq_false (by omega)
                have hd2 : decide (I < N3) = false := decide_eq_false hin
                have HLN := Lib.hid (fun w' h => len_any g P S4 w' h)
                rw [HPL2.out] at HLN
                have hne : ((N3 : Int) != (N0 : Int) + (j : Int)) = false := by rw [← HROOM2.out]; simp
                clear hIe
                go_upto_region 24 with fail
                clear hin hd hd2
                go_wp2_with fail
                refine (HLN.out _ HM9.out.post).mono ?_
                rintro e w7 ⟨rfl, hb⟩
                have HM10 := Lib.hid (HM9.out.more hb)
                clear hb HLN
                go_upto_region 26 with fail
                clear hne
                go_loopw [22] (fun _ wr => ∃ (Q : P8) (S5 : Nat → Prop), Mn w g Q S5 wr) (fun _ wr => lenOf wr g)
                case atStart => exact ⟨P, S4, HM10.out⟩
                case round =>
                  obtain ⟨Q, S5, hm⟩ := hrel
                  have HM11 := Lib.hid hm
                  have HLN := Lib.hid (len_any g Q S5 wr hm.post)
                  have HM0 := Lib.hid (lenOf_eq hm.post)
                  obtain ⟨L, hL⟩ : ∃ L, L = Q.l.length := ⟨_, rfl⟩
                  rw [← hL] at HLN
                  have hL4 : (L : Int) ≤ 4096 := by
                    obtain ⟨v, mb, hp⟩ := hm.post
                    have := hp.ok.few; have := hp.ok.room.2; omega
                  have HLQ := Lib.hid hL
                  clear hm hL
                  go_wp2_with fail
                  refine HLN.out.mono ?_
                  rintro e w8 ⟨rfl, hb⟩
                  have HM12 := Lib.hid (HM11.out.more hb)
                  clear hb HLN
                  by_cases hpos : 0 < L
                  · have hposi : (0 : Int) < (L : Int) := by omega
                    have hd : decide ((0 : Int) < (L : Int)) = true := decide_eq_true hposi
                    have HLN := Lib.hid (len_any g Q S5 w8 HM12.out.post)
                    rw [← HLQ.out] at HLN
                    go_wp2_with fail
                    refine HLN.out.mono ?_
                    rintro e w9 ⟨rfl, hb⟩
                    have HM13 := Lib.hid (HM12.out.more hb)
                    obtain ⟨m, hm⟩ : ∃ m, Q.l.length = m + 1 := ⟨L - 1, by have := HLQ.out; omega⟩
                    obtain ⟨y, htk⟩ := take_last Q m L HLQ.out hm
                    have HTK := Lib.hid (take_any g Q S5 ((L : Int) - 1) w9 HM13.out.post)
                    rw [htk] at HTK
                    have HMM := Lib.hid hm
                    clear hb HLN htk hm
                    go_wp2_with fail
                    refine HTK.out.mono ?_
                    rintro e w10 ⟨A4, c4, rfl, hl4, hf4, S6, hp6, hs6, hk6⟩
                    have hmn : Mn w g { Q with l := Q.l.eraseIdx m } S6 w10 := by
                      obtain ⟨S7, -, h7, -, -⟩ := HM13.out.step2 (show PStep (.bool true) g { Q with l := Q.l.eraseIdx m } S5 w9 (.returned (.bool true)) w10 from ⟨rfl, S6, hp6, hs6, hk6⟩)
                      exact ⟨hp6, fun b hb => by
                        rcases hs6 b hb with e | e
                        · exact HM13.out.s b e
                        · have := HM13.out.below.size; omega, h7.below⟩
                    have HM14 := Lib.hid hmn
                    have HME := Lib.hid (show lenOf w10 g < lenOf wr g by
                      rw [lenOf_eq hp6, HM0.out]
                      show (Q.l.eraseIdx m).length < Q.l.length
                      rw [List.length_eraseIdx_of_lt (by have := HMM.out; omega), HMM.out]; omega)
                    clear hl4 hf4 hp6 hs6 hk6 hmn HTK
                    go_wp2
                    go_roundw
                    case rel => exact ⟨_, S6, HM14.out⟩
                    case measure => exact HME.out
                  · have hd : decide ((0 : Int) < (L : Int)) = false := decide_eq_false (by omega)
                    have hd2 : decide (0 < L) = false := decide_eq_false hpos
                    go_wp2
                    go_ret
                    exact ⟨rfl, HM12.out.below⟩
theorem postTwins_int (A : Option Addr) (c : Nat) (l : List A8) (wh tm : Int) (w : World) (hl : LiesA w w.heap.size A l) (ho : ActsOk l) (hwh : 0 ≤ wh ∧ wh ≤ 255) (htm : 0 ≤ tm ∧ tm ≤ 255) : Calls Try.prog 7 #[.slice A l.length c, .int .u8 wh, .int .u8 tm] w (True_ w) := by
  obtain ⟨n, rfl⟩ := Int.eq_ofNat_of_zero_le hwh.1
  obtain ⟨m, rfl⟩ := Int.eq_ofNat_of_zero_le htm.1
  exact postTwins_any A c l n m w hl ho (by omega) (by omega)
end Go.Proofs.Ytenaecpmmbigdaa.Po
