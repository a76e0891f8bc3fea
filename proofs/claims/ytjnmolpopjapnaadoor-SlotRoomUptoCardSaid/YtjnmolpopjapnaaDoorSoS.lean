/- The walk of SlotRoom. -/
import Derived.Test.YtjnmolpopjapnaaDoorSoO
import Derived.Deep.CutBlock
import Derived.Deep.RegionHeld3
import Derived.Test.YtjnmolpopjapnaaDoorDlB
namespace Go.Proofs.YtjnmolpopjapnaaDoor.So
open Go.RowKit Go.Maps By Mp Dk

/-- Appending bytes, in a region that draws. -/
theorem step_appC {ops : Array Oper} {o : Oper} {a : Act} {w : World} {K : Act → World → Prop} {Q : Exit → Act → World → Prop} {E : Prop}
    (hgd : o.guard = none) (s x : Operand) (hop : o.op = .call { callee := .builtin .append, args := #[s, x], argTypes := #[36, 36] })
    {base : Nat} {v : Value} {l : List UInt8} (hs : a.eval s = v) (hown : Own base w v l) {B : Nat} {A : Option Addr} {m c : Nat} {l2 : List UInt8} (hx : a.eval x = .slice A m c) (hm : m = l2.length) (hr : Lies w B A l2)
    (hsz : l.length + l2.length ≤ 140737488355328) (hbase : base ≤ w.heap.size)
    (hK : ∀ v' w', Own base w' v' (l ++ l2) → Below base w w' → K (a.put o.dst v') w') :
    if Region.wanted o (yielded ops a.tmps) = true then Oper.wp Tryd.prog o a w K Q else E := by
  have hw : Region.wanted o (yielded ops a.tmps) = true := by simp [Region.wanted, hgd]
  rw [if_pos hw]
  obtain ⟨v', w', hrun, h2, h3, _⟩ := run_app hown hm hr hsz hbase o.type
  exact wp_app_run s x _ hop hs hx hrun (hK _ _ h2 h3)
/-- One file of the slot at most. -/
def OneF (nm : Bs) (F : Fs) : Prop := F = [] ∨ ∃ t D, t < 3 ∧ D.length ≤ 65520 ∧ F = [(pth nm t, CoP.frame D)]
theorem one_only {nm : Bs} {F : Fs} (h : OneF nm F) : F.length ≤ 1 ∧ fsize F ≤ 65528 ∧ NotAll (fileOf F nm) ∧ ∀ n, ¬ Mine nm n → fget F n = none := by
  rcases h with rfl | ⟨t, D, ht, hd, rfl⟩
  · exact ⟨by decide, by decide, rfl, fun _ _ => rfl⟩
  · have hg : ∀ n, n ≠ pth nm t → fget [(pth nm t, CoP.frame D)] n = none := fun n hn => by rw [fget_cons, if_neg (fun e => hn e.symm)]; rfl
    refine ⟨by simp, by rw [fsize_cons]; have := CoP.frame_length D; simp [fsize] at *; omega, ?_, fun n hn => hg n (fun e => hn ⟨t, ht, e⟩)⟩
    have h1 := fileOf_gone (nm := nm) (t := (t + 1) % 3) (hg (pth nm ((t + 1) % 3)) (fun e => by have := pth_inj (Nat.mod_lt _ (by decide)) ht e; omega))
    unfold NotAll
    rcases lt3 ht with rfl | rfl | rfl
    · rw [show fileOf _ nm 1 = none from h1]; simp [isW]
    · rw [show fileOf _ nm 2 = none from h1]; simp [isW]
    · rw [show fileOf _ nm 0 = none from h1]; simp [isW]
theorem one_saved {nm : Bs} {F G : Fs} {t : Nat} {D : Bs} (h : OneF nm F) (ht : t < 3) (hs : Saved nm t D F G) : G = [(pth nm t, CoP.frame D)] := by
  refine up_ext hs.1 (List.pairwise_singleton _ _) (fun n => ?_)
  rw [fget_cons, fget_nil]
  by_cases e : pth nm t = n
  · rw [if_pos e, ← e]; exact hs.2.1
  · rw [if_neg e]
    by_cases hm : Mine nm n
    · obtain ⟨u, hu, e2⟩ := hm
      rw [e2]
      exact hs.2.2.1 u hu (fun e3 => e (by rw [e2, e3]))
    · rw [hs.2.2.2 n hm]
      exact (one_only h).2.2.2 n hm
set_option maxRecDepth 100000 in
set_option maxHeartbeats 16000000 in
theorem slotRoom_any (A : Option Addr) (c : Nat) (ls : List Bs) (w : World) (hA : LiesL w w.heap.size A ls) (hl : ls.length ≤ 1048576) (hls : ∀ l ∈ ls, l.length ≤ 1048576) : Calls Tryd.prog 5 #[.slice A ls.length c] w (True_ w) := by
  have HN := Lib.hid (new_any 4000000 w rfl)
  have HA := Lib.hid hA
  have HLS := Lib.hid hls
  have q1 := slotTest
  have hl0 : (0 : Int) ≤ (ls.length : Int) := by omega
  have hl1 : (ls.length : Int) ≤ 1048576 := by omega
  clear hA hls
  go_enter Tryd.func5, Tryd.ntmps5
  go_wp2_with fail
  refine HN.out.mono ?_
  rintro e w1 ⟨d, S, rfl, hd1, hS1, hb1⟩
  have HB1 := Lib.hid hb1
  have HS1 := Lib.hid hS1
  have HD1 := Lib.hid hd1
  have HOP := Lib.hid (sopen_any d (newDS 4000000) S [118, 97, 108] w1 hd1 rfl rfl)
  clear HN hd1 hS1 hb1
  go_wp2_with fail
  refine HOP.out.mono ?_
  rintro e w2 ⟨g, rfl, hs2, hg2, hb2⟩
  have HY2 := Lib.hid (sys_new HD1.out hs2 hg2 hb2)
  have HB2 := Lib.hid (By.ext HB1.out hb2)
  have HG2 := Lib.hid (show w.heap.size ≤ g by have := HB1.out.size; omega)
  have HAN := Lib.hid (fun w' => answers_any w')
  clear HOP hs2 hg2 hb2
  by_cases h30 : 30 < ls.length
  · have h6i : (30 : Int) < (ls.length : Int) := by omega
    clear h30
    go_wp2_with fail
    refine (HAN.out _).mono ?_
    rintro e w3 ⟨rfl, hb3⟩
    have HB3 := Lib.hid (By.ext HB2.out hb3)
    clear hb3
    go_wp2_with fail
    refine (HAN.out _).mono ?_
    rintro e w4 ⟨rfl, hb4⟩
    have HB4 := Lib.hid (By.ext HB3.out hb4)
    clear hb4
    go_wp2
    go_ret
    exact ⟨rfl, HB4.out⟩
  · have h6i : ¬ ((30 : Int) < (ls.length : Int)) := by omega
    clear h30
    go_wp2_with fail
    refine (HAN.out _).mono ?_
    rintro e w3 ⟨rfl, hb3⟩
    have HB3 := Lib.hid (By.ext HB2.out hb3)
    have HY3 := Lib.hid (show Sys w3 g d [118, 97, 108] (lev [] 4000000 0) S from HY2.out.below hb3)
    clear hb3
    go_wp2
    clear h6i
    go_loopw [7] (fun i wr => ∃ (k : Nat) (F : Fs) (S' : Nat → Prop), k ≤ ls.length ∧ i = .int .i64 (k : Int) ∧ OneF [118, 97, 108] F ∧ Sys wr g d [118, 97, 108] (lev F 4000000 0) S' ∧ (∀ b, S' b → w.heap.size ≤ b) ∧ Below w.heap.size w wr) (fun i _ => ls.length - (intOf i).toNat)
    case atStart => exact ⟨0, [], S, Nat.zero_le _, rfl, .inl rfl, HY3.out, HS1.out, HB3.out⟩
    case round =>
      obtain ⟨k, F, S', hk, rfl, hof, hyr, hSr, hbr⟩ := hrel
      have HOF := Lib.hid hof
      have HYR := Lib.hid hyr
      have HSR := Lib.hid hSr
      have HBR := Lib.hid hbr
      clear hof hyr hSr hbr
      by_cases hlt : k < ls.length
      · obtain ⟨ga, o, Aj, cj, hAm, hga, hc0, hlj⟩ := HA.out.at_ hlt
        subst hAm
        have HLM := Lib.hid (HLS.out _ (List.getElem_mem hlt))
        have hcr := (HBR.out.cell (show (⟨ga, o + k, none⟩ : Addr).block < w.heap.size from hga)).trans hc0
        have HLJ := Lib.hid hlj
        obtain ⟨D, hD⟩ : ∃ D, D = ls[k] := ⟨_, rfl⟩
        rw [← hD] at hcr HLJ HLM hc0
        obtain ⟨nd, hnd⟩ : ∃ nd, nd = D.length := ⟨_, rfl⟩
        rw [← hnd] at hcr HLM hc0
        have HND := Lib.hid hnd
        have HCL := Lib.hid (fun (w' : World) (hb : Below w.heap.size w w') => ((hb.cell (show (⟨ga, o + k, none⟩ : Addr).block < w.heap.size from hga)).trans hc0 : w'.cell? ⟨ga, o + k, none⟩ = some (.slice Aj nd cj)))
        clear hnd hD hlj hc0 hga
        by_cases h6 : 65520 < nd
        · have h6i : (65520 : Int) < (nd : Int) := by omega
          clear h6
          go_wp2
          go_ret
          exact ⟨rfl, HBR.out⟩
        · have h6i : ¬ ((65520 : Int) < (nd : Int)) := by omega
          have H6 := Lib.hid h6
          clear h6
          have HON := Lib.hid (one_only HOF.out)
          have HLT := Lib.hid (show (∀ b, S' b → b < wr.heap.size) ∧ g < wr.heap.size from ⟨(dlt HYR.out.disk).1, HYR.out.slot.lt⟩)
          go_upto_region 10 with fail
          have HB5A := Lib.hid (show Below wr.heap.size wr (wr.alloc (.cells #[] 5)).drew from (nAlloc (Below.refl _ _) (Nat.le_refl _) (.cells #[] 5)).drew)
          have HOWN := Lib.hid (show Own wr.heap.size (wr.alloc (.cells #[] 5)).drew (.slice (some ⟨wr.heap.size, 0, none⟩) 0 0) [] from Own.made wr wr.heap.size #[] 0 (Nat.le_refl _) (by decide) rfl)
          have HLA := Lib.hid (show Lies (wr.alloc (.cells #[] 5)).drew w.heap.size Aj D from HLJ.out.below (HBR.out.trans (HB5A.out.mono HBR.out.size)))
          have HZA := Lib.hid HB5A.out.size
          have hcl0 : (wr.alloc (.cells #[] 5)).cell? ⟨ga, o + k, none⟩ = some (.slice Aj nd cj) := HCL.out _ (nAlloc HBR.out (Nat.le_refl _) _)
          obtain ⟨us, hus⟩ : ∃ us : Int, us = (nd : Int) + 8 := ⟨_, rfl⟩
          have HUU := Lib.hid hus
          have hlt64 : ¬ ((nd : Int) + 64 < us) := by omega
          have hwr : IntKind.i64.wrap ((nd : Int) + 64) = (nd : Int) + 64 := IntWalk.i64_in _ ⟨by omega, by omega⟩
          clear hus
          go_region_held3 (fun w' => w'.cell? ⟨ga, o + k, none⟩ = some (.slice Aj nd cj))
            (first
              | with_reducible assumption
              | exact HCL.out _ HBR.out
              | exact HCL.out _ (HBR.out.trans (HB5A.out.mono HBR.out.size))
              | exact HCL.out _ HBR.out.drew
              | exact HCL.out _ (nAlloc HBR.out (Nat.le_refl _) _)
              | exact HCL.out _ (nAlloc HBR.out (Nat.le_refl _) _).drew
              | exact HX5.out
              | exact HX6.out
              | exact HCL.out _ HB6.out.drew
              | exact HCL.out _ ((HBR.out.trans (HB5.out.mono HBR.out.size))).drew)
            (first
              | (refine step_appC rfl (.tmp 44) (.tmp 48) rfl (v := .slice (some ⟨wr.heap.size, 0, none⟩) 0 0) (by simp [Act.eval]) HOWN.out (A := Aj) (m := nd) (c := cj) (by simp [Act.eval]) HND.out HLA.out (by have := HLM.out; have := HND.out; simp; omega) HZA.out ?_
                 intro v5 w5 ho5 hb5
                 rw [List.nil_append] at ho5
                 obtain ⟨A5, c5, hv5, -⟩ := ho5.form
                 rw [← HND.out] at hv5
                 subst hv5
                 have HB5 := Lib.hid (show Below wr.heap.size wr w5 from HB5A.out.trans hb5)
                 have HX5 := Lib.hid (HCL.out w5 (HBR.out.trans (HB5.out.mono HBR.out.size)))
                 have HY5 := Lib.hid (HYR.out.below HB5.out)
                 have HSV := Lib.hid (save_ok g d [118, 97, 108] F 4000000 S' D A5 nd c5 w5 HY5.out rfl (by have := HON.out.1; omega) HON.out.2.2.1 (by have := HND.out; have := H6.out; omega) (by have := HND.out; have := H6.out; have := HON.out.2.1; omega) HND.out
                   ((LiesS.own ho5).keep (fun _ _ => rfl) (fun b hb => ⟨fun e => by have := HLT.out.1 b e; omega, hb.2⟩)))
                 clear ho5 hb5)
              | (go_at_call 13; refine HSV.out.mono ?_; rintro e w6 ⟨rfl, G, S6, hsv, hy6, hS6, hk6⟩
                 have HG6 := Lib.hid (one_saved HOF.out (next_lt _) hsv)
                 have HB6 := Lib.hid (show Below w.heap.size w w6 from (HBR.out.trans (HB5.out.mono HBR.out.size)).trans (hk6.below (by have := HBR.out.size; have := HB5.out.size; omega) (fun b hb => by
                   rcases hb with hb | hb
                   · exact HSR.out b hb
                   · rw [hb]; exact HG2.out)))
                 have HX6 := Lib.hid (HCL.out w6 HB6.out)
                 have HY6 := Lib.hid hy6
                 have HS6 := Lib.hid (show ∀ b, S6 b → w.heap.size ≤ b from fun b hb => by
                   rcases hS6 b hb with h | h
                   · exact HSR.out b h
                   · have := HB5.out.size; have := HBR.out.size; omega)
                 have HUS := Lib.hid (fun w' (hb : Below w6.heap.size w6 w') => (show Calls Tryd.prog 14 #[.pointer (some ⟨d, 0, none⟩)] w' (Ret (.int .i64 us) w') from by
                   rw [HUU.out]
                   have h := used_any d (lev G 4000000 0) S6 w' (HY6.out.disk.below hb)
                   rw [show ((fsize (lev G 4000000 0).files : Nat) : Int) = (nd : Int) + 8 from by
                     show ((fsize G : Nat) : Int) = _
                     rw [HG6.out, fsize_cons]
                     show (((CoP.frame D).length + fsize [] : Nat) : Int) = _
                     rw [CoP.frame_length, HND.out]
                     simp [fsize]] at h
                   exact h))
                 clear hsv hy6 hS6 hk6)
              | (go_at_call 14; refine (HUS.out _ (Below.refl _ _)).mono ?_; rintro e w7 ⟨rfl, hw7⟩; subst hw7))
          have HD6 := Lib.hid (show D.length ≤ 65520 by have := HND.out; have := H6.out; omega)
          have HT := Lib.hid (next_lt (latest (fileOf F [118, 97, 108])))
          obtain ⟨t, ht⟩ : ∃ t, t = next (latest (fileOf F [118, 97, 108])) := ⟨_, rfl⟩
          have HG7 := Lib.hid (show G = [(pth [118, 97, 108] t, CoP.frame D)] by rw [ht]; exact HG6.out)
          have ht3 : t < 3 := by rw [ht]; exact HT.out
          have HYD := Lib.hid HY6.out
          have HB6D := Lib.hid HB6.out
          have HNM := Lib.hid (show Calls Tryd.prog 15 #[.pointer (some ⟨d, 0, none⟩)] w6 (GivesN [pth [118, 97, 108] t] w6) from by
            have h := names_any d (lev G 4000000 0) S6 w6 HYD.out.disk (by rw [HG7.out]; unfold DS.cnt lev; simp)
            rw [show namesS (lev G 4000000 0) = [pth [118, 97, 108] t] from by rw [HG7.out]; rfl] at h
            exact h)
          clear ht
          go_wp2_with fail
          refine HNM.out.mono ?_
          rintro e w8 ⟨v8, rfl, ho8, hb8⟩
          obtain ⟨gn, cn, hv8, hg1, hg2⟩ := World.ownsRow.form ho8 (by simp)
          subst hv8
          have HC8 := Lib.hid (show w8.cell? ⟨gn, 0, none⟩ = some (.string (str (pth [118, 97, 108] t))) from by
            have := World.ownsRow.cells ho8 (g := gn) rfl 0 (.string (str (pth [118, 97, 108] t))) rfl
            rwa [plainAdd] at this)
          have HY8 := Lib.hid (HYD.out.below hb8)
          have HB8 := Lib.hid (By.ext HB6D.out hb8)
          clear ho8 hb8 hg1 hg2 HNM
          rcases lt3 ht3 with rfl | rfl | rfl
          · have hx : ((({ data := #[118, 97, 108, 46, 48] } : ByteArray).extract 0 4).toList == [118, 97, 108, 46]) = true := by
              rw [ByteArray.toList_eq]
              decide
            have hc0 : w8.cell? ⟨gn, 0, none⟩ = some (.string { data := #[118, 97, 108, 46, 48] }) := HC8.out
            have HC9 := Lib.hid hc0
            clear hc0
            go_wp2
            go_loopw [9] (fun i wr => (i = .int .i64 0 ∨ i = .int .i64 1) ∧ wr = w8) (fun i _ => 1 - (intOf i).toNat)
            case atStart => exact ⟨.inl rfl, rfl⟩
            case round =>
              obtain ⟨rfl | rfl, rfl⟩ := hrel
              · have hc0 := HC9.out
                go_wp2
                go_roundw
                case rel => exact ⟨.inr rfl, trivial⟩
                case measure => simp [intOf]
              · go_wp2
                go_roundw
                case rel => exact ⟨k + 1, _, S6, by omega, by go_num, .inr ⟨0, D, by decide, HD6.out, HG7.out⟩, HY8.out, HS6.out, HB8.out⟩
                case measure => simp [intOf]; omega
          · have hx : ((({ data := #[118, 97, 108, 46, 49] } : ByteArray).extract 0 4).toList == [118, 97, 108, 46]) = true := by
              rw [ByteArray.toList_eq]
              decide
            have hc0 : w8.cell? ⟨gn, 0, none⟩ = some (.string { data := #[118, 97, 108, 46, 49] }) := HC8.out
            have HC9 := Lib.hid hc0
            clear hc0
            go_wp2
            go_loopw [9] (fun i wr => (i = .int .i64 0 ∨ i = .int .i64 1) ∧ wr = w8) (fun i _ => 1 - (intOf i).toNat)
            case atStart => exact ⟨.inl rfl, rfl⟩
            case round =>
              obtain ⟨rfl | rfl, rfl⟩ := hrel
              · have hc0 := HC9.out
                go_wp2
                go_roundw
                case rel => exact ⟨.inr rfl, trivial⟩
                case measure => simp [intOf]
              · go_wp2
                go_roundw
                case rel => exact ⟨k + 1, _, S6, by omega, by go_num, .inr ⟨1, D, by decide, HD6.out, HG7.out⟩, HY8.out, HS6.out, HB8.out⟩
                case measure => simp [intOf]; omega
          · have hx : ((({ data := #[118, 97, 108, 46, 50] } : ByteArray).extract 0 4).toList == [118, 97, 108, 46]) = true := by
              rw [ByteArray.toList_eq]
              decide
            have hc0 : w8.cell? ⟨gn, 0, none⟩ = some (.string { data := #[118, 97, 108, 46, 50] }) := HC8.out
            have HC9 := Lib.hid hc0
            clear hc0
            go_wp2
            go_loopw [9] (fun i wr => (i = .int .i64 0 ∨ i = .int .i64 1) ∧ wr = w8) (fun i _ => 1 - (intOf i).toNat)
            case atStart => exact ⟨.inl rfl, rfl⟩
            case round =>
              obtain ⟨rfl | rfl, rfl⟩ := hrel
              · have hc0 := HC9.out
                go_wp2
                go_roundw
                case rel => exact ⟨.inr rfl, trivial⟩
                case measure => simp [intOf]
              · go_wp2
                go_roundw
                case rel => exact ⟨k + 1, _, S6, by omega, by go_num, .inr ⟨2, D, by decide, HD6.out, HG7.out⟩, HY8.out, HS6.out, HB8.out⟩
                case measure => simp [intOf]; omega
      · have hke : ¬ ((k : Int) < (ls.length : Int)) := by omega
        have HBB := Lib.hid HBR.out
        go_wp2
        go_ret
        exact ⟨rfl, HBB.out⟩
end Go.Proofs.YtjnmolpopjapnaaDoor.So
