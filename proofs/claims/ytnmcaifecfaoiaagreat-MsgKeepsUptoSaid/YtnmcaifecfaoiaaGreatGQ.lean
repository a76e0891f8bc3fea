/- Lists as a kind, their items scupper/api.Entry: what its closures do, if the items' do so; and it made. Written by gl.py. | Lists of entries as a kind: what is read; and it made. Written by gl.py. -/
import Derived.Test.YtnmcaifecfaoiaaGreatGJ
import Derived.Test.YtnmcaifecfaoiaaGreatGG
import Derived.Test.YtnmcaifecfaoiaaGreatGB
import Derived.Test.YtnmcaifecfaoiaaGreatGP
import Derived.Test.YtnmcaifecfaoiaaGreatGH
import Derived.Test.YtnmcaifecfaoiaaGreatKfG
import Derived.Deep.RegionLaw
/-! Lists as a kind, their items scupper/api.Entry: what its closures do, if the items' do so; and it made. Written by gl.py. -/
namespace Go.Proofs.YtnmcaifecfaoiaaGreat.Kd
open Go.RowKit By CoP Co Mo

set_option maxHeartbeats 1600000 in
theorem listE_s {L : Nat} {W : World} {bi : Nat} {most : Int} {k : Kd} {f1 f2 f3 : Value} {t1 : TypeId} (hLi : L ≤ bi) (hi : W.heap[bi]? = some (.cells #[f1, f2, f3] t1 (0, 0))) (hk : KindAt L W f1 f2 f3 0 k) (hsz : k.size = 5) {bm : Nat} {t2 : TypeId} (hLm : L ≤ bm) (hm : W.heap[bm]? = some (.cells #[.int .i64 most] t2 (0, 0))) :
    SoundAt L W (.func (.func 74) #[] #[.pointer (some ⟨bm, 0, none⟩), .pointer (some ⟨bi, 0, none⟩)]) 0 (listK k most) := by
  have hok := hk.ok
  obtain ⟨_, ⟨fi, capi, rfl, ei, HI0⟩, ⟨fj, capj, rfl, _, _⟩, ⟨fq, capq, rfl, _, _⟩⟩ := hk
  refine ⟨_, _, rfl, enters_of Tryz.func74 (by kernel_rfl) rfl, ?_⟩
  rintro w hbw g o vs d hr ⟨A, c, ds, rfl, rfl, hdc, hdm, hdl⟩
  have c1 : w.cell? ⟨bm, 0, none⟩ = some (.int .i64 most) := by rw [cell_of_row w bm 0 _ _ _ ((hbw.block bm hLm (row_lt hm)).trans hm)]; rfl
  have hbil := Nat.lt_of_lt_of_le (row_lt hi) hbw.size
  have HIROW := Lib.hid ((hbw.block bi hLi (row_lt hi)).trans hi)
  have c3 : w.cell? ⟨g, o, none⟩ = some (.slice A ds.length c) := hr.cell
  have ei' : ∀ (args : Array Value) (w : World), (callFunc fi args).run Tryz.prog w = .ok (.enter fi args) w := ei
  have HI := Lib.hid HI0
  have HB := Lib.hid hbw
  have HDL := Lib.hid hdl
  have HRO := Lib.hid hr
  have HOK := Lib.hid hok
  show Calls _ _ _ _ (Says (decide ((ds.length : Int) ≤ most) && ds.all k.sound) w)
  clear hbw hr hdl hi hm ei HI0 hok
  by_cases hmost : (ds.length : Int) ≤ most
  · rw [decide_eq_true hmost, Bool.true_and]
    have hd0 : decide (most < (ds.length : Int)) = false := decide_eq_false (by omega)
    go_enter Tryz.func74, Tryz.ntmps74
    go_wp2
    go_quiet (fail)
    go_wp2
    go_loopw [16] (fun i wr => ∃ j : Nat, j ≤ ds.length ∧ i = .int .i64 j ∧ Below w.heap.size w wr ∧ ds.all k.sound = (ds.drop j).all k.sound) (fun i _ => ds.length - (intOf i).toNat)
    case atStart => exact ⟨0, Nat.zero_le _, rfl, below_drewN (Below.refl _ _) _, by simp⟩
    case round =>
      obtain ⟨j, hj, rfl, hbr, hsd⟩ := hrel
      have HBW := Lib.hid hbr
      have HSD := Lib.hid hsd
      by_cases hlt : j < ds.length
      · obtain ⟨q, o2, rfl, hq, hc⟩ := HDL.out (by omega)
        obtain ⟨vs, hrep, hrd⟩ := hc j ds[j] (List.getElem?_eq_getElem hlt)
        rw [hsz] at hrd
        have hrowr := (hbr.block bi hbil).trans HIROW.out
        have a1 : wr.cell? ⟨bi, 0, none⟩ = some (.func (.func fi) #[] capi) := by rw [cell_of_row wr bi 0 _ _ _ hrowr]; rfl
        have c4 : wr.cell? ⟨g, o, none⟩ = some (.slice (some ⟨q, o2, none⟩) ds.length c) := (HRO.out.below hbr).cell
        have hbd : Below w.heap.size w wr.drew := hbr.drew
        have hrd2 : Rd wr.drew q (o2 + j * 5 + 0) vs := by simpa using hrd.below hbd
        have hcall := HI.out wr.drew (keeps_ext HB.out hbd) q (o2 + j * 5) vs ds[j] hrd2 (HOK.out.below hrep hbd)
        have HBD := Lib.hid hbd
        have hdr : (ds.drop j).all k.sound = (k.sound ds[j] && (ds.drop (j + 1)).all k.sound) := by rw [List.drop_eq_getElem_cons hlt, List.all_cons]
        have HDR := Lib.hid hdr
        clear hbr hsd hrowr hrd hrd2 hrep hc hq hbd hdr
        cases hsj : k.sound ds[j] with
        | true =>
          rw [hsj] at hcall
          have HSJ := Lib.hid hsj
          have HC := Lib.hid hcall
          clear hsj hcall
          go_wp2
          go_region_law (go_simp; go_at_fn fi; refine HC.out.mono ?_; rintro e w1 ⟨rfl, hb1⟩; have HB1 := Lib.hid (By.ext HBD.out hb1); clear hb1)
          all_goals
            go_wp2
            go_roundw
            case rel => exact ⟨j + 1, by omega, by go_num, HB1.out, HSD.out.trans (by rw [HDR.out, HSJ.out, Bool.true_and])⟩
            case measure => simp [intOf]; omega
        | false =>
          rw [hsj] at hcall
          have HSJ := Lib.hid hsj
          have HC := Lib.hid hcall
          clear hsj hcall
          go_wp2
          go_region_law (go_simp; go_at_fn fi; refine HC.out.mono ?_; rintro e w1 ⟨rfl, hb1⟩; have HB1 := Lib.hid (By.ext HBD.out hb1); clear hb1)
          all_goals
            go_wp2
            go_ret
            exact ⟨by rw [HSD.out, HDR.out, HSJ.out]; rfl, HB1.out⟩
      · have hje : j = ds.length := by omega
        subst hje
        have hal : ds.all k.sound = true := by rw [hsd, List.drop_length]; rfl
        have HAL := Lib.hid hal
        clear hbr hsd hal
        go_wp2
        go_ret
        exact ⟨by rw [HAL.out]; rfl, HBW.out⟩
  · rw [decide_eq_false hmost, Bool.false_and]
    have hd0 : decide (most < (ds.length : Int)) = true := decide_eq_true (by omega)
    go_enter Tryz.func74, Tryz.ntmps74
    go_wp2
    go_quiet (fail)
    go_wp2
    go_ret
    exact ⟨rfl, below_drewN (Below.refl _ _) _⟩
set_option maxHeartbeats 1600000 in
theorem listE_p {L : Nat} {W : World} {bi : Nat} {most : Int} {k : Kd} {f1 f2 f3 : Value} {t1 : TypeId} (hLi : L ≤ bi) (hi : W.heap[bi]? = some (.cells #[f1, f2, f3] t1 (0, 0))) (hk : KindAt L W f1 f2 f3 0 k) (hsz : k.size = 5) :
    PutAt L W (.func (.func 75) #[] #[.pointer (some ⟨bi, 0, none⟩)]) 0 (listK k most) := by
  have hok := hk.ok
  obtain ⟨_, ⟨fj, capj, rfl, _, _⟩, ⟨fi, capi, rfl, ei, HI0⟩, ⟨fq, capq, rfl, _, _⟩⟩ := hk
  refine ⟨_, _, rfl, enters_of Tryz.func75 (by kernel_rfl) rfl, ?_⟩
  rintro w hbw g o vs d hr ⟨A, c, ds, rfl, rfl, hdc, hdm, hdl⟩ hlen
  have hbil := Nat.lt_of_lt_of_le (row_lt hi) hbw.size
  have HIROW := Lib.hid ((hbw.block bi hLi (row_lt hi)).trans hi)
  have c3 : w.cell? ⟨g, o, none⟩ = some (.slice A ds.length c) := hr.cell
  have ei' : ∀ (args : Array Value) (w : World), (callFunc fi args).run Tryz.prog w = .ok (.enter fi args) w := ei
  have hlen' : (putNum ds.length ++ ds.flatMap k.put).length + 9 ≤ 140737488355328 := hlen
  have hdmi : (ds.length : Int) ≤ 140737488355328 := by omega
  have HL := Lib.hid hlen'
  have HI := Lib.hid HI0
  have HB := Lib.hid hbw
  have HDL := Lib.hid hdl
  have HRO := Lib.hid hr
  have HOK := Lib.hid hok
  show Calls _ _ _ _ (Gives w.heap.size (putNum ds.length ++ ds.flatMap k.put) w)
  clear hbw hr hdl hi ei HI0 hok hlen hlen'
  go_enter Tryz.func75, Tryz.ntmps75
  go_wp2_with fail
  refine (putNum_any none 0 0 0 [] ds.length _ (by rfl) (by omega) rfl _ (Lies.empty _ _ _) (Nat.zero_le _) (by simp)).mono ?_
  rintro e w1 ⟨v, rfl, ho, hb1⟩
  have c4 : w1.cell? ⟨g, o, none⟩ = some (.slice A ds.length c) := (HRO.out.below hb1).cell
  have HO := Lib.hid ho
  have HB1 := Lib.hid hb1
  clear ho hb1
  go_wp2
  go_loopw [4, 16] (fun out i wr => ∃ (j : Nat) (l : List UInt8), j ≤ ds.length ∧ i = .int .i64 j ∧ Below w.heap.size w wr ∧ Own w.heap.size wr out l ∧ putNum ds.length ++ ds.flatMap k.put = l ++ (ds.drop j).flatMap k.put) (fun _ i _ => ds.length - (intOf i).toNat)
  case atStart => exact ⟨0, putNum ds.length, Nat.zero_le _, rfl, HB1.out, by simpa using HO.out, by simp⟩
  case round =>
    obtain ⟨j, l, hj, rfl, hbr, hown, hsd⟩ := hrel
    obtain ⟨A0, c0, rfl, _, _, _, _, _⟩ := hown.form
    have HBW := Lib.hid hbr
    have HSD := Lib.hid hsd
    have HOWN := Lib.hid hown
    by_cases hlt : j < ds.length
    · obtain ⟨q, o2, rfl, hq, hc⟩ := HDL.out (by omega)
      obtain ⟨vs, hrep, hrd⟩ := hc j ds[j] (List.getElem?_eq_getElem hlt)
      rw [hsz] at hrd
      have hrowr := (hbr.block bi hbil).trans HIROW.out
      have a1 : wr.cell? ⟨bi, 1, none⟩ = some (.func (.func fi) #[] capi) := by rw [cell_of_row wr bi 1 _ _ _ hrowr]; rfl
      have c5 : wr.cell? ⟨g, o, none⟩ = some (.slice (some ⟨q, o2, none⟩) ds.length c) := (HRO.out.below hbr).cell
      have hbd : Below w.heap.size w wr.drew := hbr.drew
      have hrd2 : Rd wr.drew q (o2 + j * 5 + 0) vs := by simpa using hrd.below hbd
      have hpd : (ds.drop j).flatMap k.put = k.put ds[j] ++ (ds.drop (j + 1)).flatMap k.put := by rw [List.drop_eq_getElem_cons hlt, List.flatMap_cons]
      have hpl : l.length + (k.put ds[j]).length + 9 ≤ 140737488355328 := by
        have h1 := HL.out
        rw [hsd, hpd, List.length_append, List.length_append] at h1
        omega
      have hcall := HI.out wr.drew (keeps_ext HB.out hbd) q (o2 + j * 5) vs ds[j] hrd2 (HOK.out.below hrep hbd) (by omega)
      have HC := Lib.hid hcall
      have HPL := Lib.hid hpl
      have HPD := Lib.hid hpd
      have HBD := Lib.hid hbd
      have HOWD := Lib.hid (show Own w.heap.size wr.drew (.slice A0 l.length c0) l from hown)
      clear hbr hsd hrowr hrd hrd2 hrep hc hq hbd hpd hpl hcall hown
      go_wp2
      go_region_law (first
        | (go_simp; go_at_fn fi; refine HC.out.mono ?_; rintro e w1 ⟨v1, rfl, ho1, hb1⟩
           obtain ⟨A1, c1, rfl, _, _, _, hr1, _⟩ := ho1.form
           have HO1 := Lib.hid (HOWD.out.kept hb1 (Nat.le_refl _))
           have HR1 := Lib.hid hr1
           have HZ1 := Lib.hid (Nat.le_trans HBD.out.size hb1.size)
           have HB2 := Lib.hid (By.ext HBD.out hb1)
           clear ho1 hb1 hr1)
        | (refine step_app rfl (.tmp 19) (.tmp 27) rfl (v := .slice A0 l.length c0) (by simp [Act.eval]) HO1.out (A := A1) (m := (k.put ds[j]).length) (c := c1) (by simp [Act.eval]) rfl HR1.out (by have := HPL.out; omega) HZ1.out ?_
           intro v2 w2 ho2 hb2 _
           have HO2 := Lib.hid ho2
           have HB3 := Lib.hid (HB2.out.trans hb2)
           clear ho2 hb2))
      all_goals
        go_wp2
        go_roundw
        case rel => exact ⟨j + 1, l ++ k.put ds[j], by omega, by go_num, HB3.out, HO2.out, by rw [HSD.out, HPD.out, List.append_assoc]⟩
        case measure => simp [intOf]; omega
    · have hje : j = ds.length := by omega
      subst hje
      clear hbr hsd hown
      go_wp2
      go_ret
      refine ⟨_, rfl, ?_, HBW.out⟩
      have h := HSD.out
      rw [List.drop_length, List.flatMap_nil, List.append_nil] at h
      rw [h]
      exact HOWN.out
end Go.Proofs.YtnmcaifecfaoiaaGreat.Kd

/-! Lists of entries as a kind: what is read; and it made. Written by gl.py. -/
namespace Go.Proofs.YtnmcaifecfaoiaaGreat.Kd
open Go.RowKit Go.ChangeAt By CoP Co Mo

set_option maxRecDepth 100000 in
set_option maxHeartbeats 3200000 in
theorem listE_g {L : Nat} {W : World} {bi : Nat} {most : Int} {k : Kd} {f1 f2 f3 : Value} {t1 : TypeId} (hLi : L ≤ bi) (hi : W.heap[bi]? = some (.cells #[f1, f2, f3] t1 (0, 0))) (hk : KindAt L W f1 f2 f3 0 k) (hsz : k.size = 5) {bm : Nat} {t2 : TypeId} (hLm : L ≤ bm) (hm : W.heap[bm]? = some (.cells #[.int .i64 most] t2 (0, 0)))
    (hz : k.zero = [.int .u64 0, .int .u64 0, .int .i64 0, .int .i64 0, .slice none 0 0]) (hm0 : 0 ≤ most) (hm1 : most ≤ 1000) :
    GetAt L W (.func (.func 76) #[] #[.pointer (some ⟨bm, 0, none⟩), .pointer (some ⟨bi, 0, none⟩)]) 0 (listK k most) := by
  have hok := hk.ok
  obtain ⟨_, ⟨fj, capj, rfl, _, _⟩, ⟨fq, capq, rfl, _, _⟩, ⟨fi, capi, rfl, ei, HI0⟩⟩ := hk
  refine ⟨_, _, rfl, enters_of Tryz.func76 (by kernel_rfl) rfl, ?_⟩
  intro w hbw g o cs ty B A n c at_ b hg hrow _ hzz hn hnc hmn hr hBg hat
  have hnum := num_in A n c at_ B b hn hnc hat hmn w hr
  have hgs := row_lt hrow
  have hbig : bi < g := Nat.lt_of_lt_of_le (row_lt hi) hg
  have hbmg : bm < g := Nat.lt_of_lt_of_le (row_lt hm) hg
  have hfac := numR_facts (b.drop at_)
  have hbad := listK_get_bad (k := k) (most := most) (b := b.drop at_)
  have hgood := listK_get_ok (k := k) (most := most) (b := b.drop at_)
  have hcs : cs[o + 0]? = some (.slice none 0 0) := zero_one hzz
  have hol : o < cs.length := (List.getElem?_eq_some_iff.1 hcs).1
  have hmrow := (hbw.block bm hLm (row_lt hm)).trans hm
  have hirow := (hbw.block bi hLi (row_lt hi)).trans hi
  have ei' : ∀ (args : Array Value) (w : World), (callFunc fi args).run Tryz.prog w = .ok (.enter fi args) w := ei
  have hWw := hbw.size
  generalize numR (b.drop at_) = N at hnum hfac hbad hgood
  obtain ⟨v, used, er⟩ := N
  have hnum2 : Calls Tryz.prog 60 #[.slice A n c, .int .i64 (at_ : Nat)] w (GivesN v (nextI at_ used er) (er : Int) w) := hnum
  simp only at hfac hbad hgood
  have HNUM := Lib.hid hnum2
  have HROW := Lib.hid hrow
  have HOL := Lib.hid hol
  have HCS := Lib.hid (show cs[o]? = some (.slice none 0 0) from hcs)
  have HM := Lib.hid hmrow
  have HIR := Lib.hid hirow
  have HI := Lib.hid HI0
  have HB := Lib.hid hbw
  have HR := Lib.hid hr
  have HN := Lib.hid hn
  have HOK := Lib.hid hok
  have HAT := Lib.hid hat
  clear hnum hnum2 hrow hr hbw hzz hcs hn hat hol hi hm hmrow hirow HI0 ei hok
  by_cases he : er = 0
  · subst he
    obtain ⟨hus, hv64⟩ := hfac rfl
    rw [List.length_drop] at hus
    have hnx : nextI at_ used 0 = ((at_ + used : Nat) : Int) := by rw [nextI_ok]; omega
    have HNX := Lib.hid hnx
    have hatu : at_ + used ≤ n := by have := HN.out; have := HAT.out; omega
    by_cases hvm : (v : Int) ≤ most
    · have hget := hgood rfl hvm
      have HGET := Lib.hid hget
      have hd1 : decide (most < (v : Int)) = false := decide_eq_false (by omega)
      have hd2 : ¬ most < (v : Int) := by omega
      have hmw : IntKind.u64.wrap most = most := by simp [IntKind.wrap, IntKind.bits, IntKind.signed]; omega
      clear hbad hgood hfac hus hnx hget
      go_enter Tryz.func76, Tryz.ntmps76
      go_wp2_with fail
      refine HNUM.out.mono ?_
      rintro e w1 ⟨rfl, hb1⟩
      have hmr1 := (hb1.block bm (by omega)).trans HM.out
      have c1 : w1.cell? ⟨bm, 0, none⟩ = some (.int .i64 most) := by rw [cell_of_row w1 bm 0 _ _ _ hmr1]; rfl
      have HR1 := Lib.hid ((hb1.block g hgs).trans HROW.out)
      have HB1 := Lib.hid hb1
      have hz1 := hb1.size
      clear hb1 hmr1
      rw [HNX.out]
      go_wp2
      go_loopw [11, 31] (fun a i wr => ∃ (j u : Nat) (ds : List Data) (sv : Value) (rows : List Value), j ≤ v ∧ i = .int .u64 (j : Int) ∧ a = .int .i64 ((at_ + used + u : Nat) : Int) ∧ at_ + used + u ≤ n ∧ w.grownBy wr (some g) ∧ wr.heap[g]? = some (.cells (splice cs o [sv]).toArray ty (0, 0)) ∧
        wr.ownsRow w.heap.size 39 5 sv j rows ∧ ds.length = j ∧ ItemsF k w wr sv rows ds ∧ ContsM k v ((b.drop at_).drop used) j ds u) (fun _ i _ => v - (intOf i).toNat)
      case atStart =>
        exact ⟨0, 0, [], .slice none 0 0, [], Nat.zero_le _, rfl, rfl, hatu, grown_of_below HB1.out _, by rw [splice_same HCS.out]; exact HR1.out, World.ownsRow_nil _ _ _ _, rfl, ItemsF.nil _ _ _ _ _, ContsM.start _ _ _⟩
      case round =>
        obtain ⟨j, u, ds, sv, rows, hj, rfl, rfl, hun, hgr, hrw, hown, hdl, hit, hct⟩ := hrel
        have hzr := hgr.size
        by_cases hlt : j < v
        · have hlti : (j : Int) < (v : Int) := by omega
          have hirow := (hgr.block bi (by omega) (fun e => by have := Option.some.inj e; omega)).trans HIR.out
          have hf3 : wr.cell? ⟨bi, 2, none⟩ = some (.func (.func fi) #[] capi) := by rw [cell_of_row wr bi 2 _ _ _ hirow]; rfl
          have hbA := (Below.refl wr.heap.size wr).alloc (Nat.le_refl _) (.cells #[.int .u64 0, .int .u64 0, .int .i64 0, .int .i64 0, .slice none 0 0] 39)
          have hrA := heap_alloc_new wr (.cells #[.int .u64 0, .int .u64 0, .int .i64 0, .int .i64 0, .slice none 0 0] 39)
          have hbwr : bi < wr.heap.size := by omega
          have hf4 : (wr.alloc (.cells #[.int .u64 0, .int .u64 0, .int .i64 0, .int .i64 0, .slice none 0 0] 39)).cell? ⟨bi, 2, none⟩ = some (.func (.func fi) #[] capi) := (World.cell?_alloc_lt wr _ ⟨bi, 2, none⟩ hbwr).trans hf3
          have hgA := grown_of_below hbA (some g)
          have hgw := grown_trans hgr hgA
          have hbWf := HB.out.grown hgw hWw (fun q e => by have := Option.some.inj e; omega)
          have hdd : ((b.drop at_).drop used).drop u = b.drop (at_ + used + u) := by rw [List.drop_drop, List.drop_drop]; congr 1; omega
          have hcall := HI.out _ hbWf wr.heap.size 0 [.int .u64 0, .int .u64 0, .int .i64 0, .int .i64 0, .slice none 0 0] 39 B A n c (at_ + used + u) b (by omega) hrA (by rw [hsz]; simp) (by rw [hsz, hz]; rfl) HN.out hnc hmn (lies_grown HR.out (by omega) hgw hBg) (by omega) hun
          have HG := Lib.hid hgr
          have HRW := Lib.hid hrw
          have HOWN := Lib.hid hown
          have HDL := Lib.hid hdl
          have HIT := Lib.hid hit
          have HCT := Lib.hid hct
          have HGA := Lib.hid hgA
          have HGW := Lib.hid hgw
          have HDD := Lib.hid hdd
          have HRA := Lib.hid hrA
          have hzA := World.size_alloc wr (.cells #[.int .u64 0, .int .u64 0, .int .i64 0, .int .i64 0, .slice none 0 0] 39)
          have HZA := Lib.hid hzA
          clear hgr hrw hown hdl hit hct hirow hbA hrA hgA hgw hbWf hdd hzA
          rcases hget : k.get (b.drop (at_ + used + u)) with _ | ⟨d, x⟩
          · have HC := Lib.hid (hcall.mono fun e w' h => Got.fails h hget)
            have HG0 := Lib.hid hget
            clear hcall hget
            go_wp2_with fail
            refine HC.out.mono ?_
            rintro e w2 ⟨N, rfl, hg2⟩
            have HG2 := Lib.hid (grown_new HGW.out (by omega) hg2)
            clear hg2
            go_wp2
            go_ret2
            refine Got.ofNone ?_ HG2.out
            rw [HGET.out, HCT.out.fails hlt (by rw [HDD.out]; exact HG0.out)]
            rfl
          · have HC := Lib.hid (hcall.mono fun e w' h => Got.gives h hget)
            have HG0 := Lib.hid hget
            have hus := HOK.out.used hget
            rw [List.length_drop] at hus
            have hus2 : at_ + used + u + x ≤ n := by have := HN.out; omega
            clear hcall hget hus
            go_wp2_with fail
            refine HC.out.mono ?_
            rintro e w2 ⟨rfl, hg2, us, hx2, hrep2⟩
            have hul := HOK.out.len hrep2
            rw [hsz] at hul
            rw [splice_all (by rw [hul]; rfl)] at hx2
            have hone := HOK.out.one hrep2
            obtain ⟨u0, u1, u2, u3, u4, rfl⟩ : ∃ u0 u1 u2 u3 u4, us = [u0, u1, u2, u3, u4] := by
              match us, hul with
              | [u0, u1, u2, u3, u4], _ => exact ⟨_, _, _, _, _, rfl⟩
            have hgx := grown_new HGW.out (by omega) hg2
            have hrw2 : w2.heap[g]? = some (.cells (splice cs o [sv]).toArray ty (0, 0)) := (hg2.block g (by rw [HZA.out]; omega) (fun e => by have := Option.some.inj e; omega)).trans ((heap_alloc_old wr _ (by omega)).trans HRW.out)
            have hown2 : w2.ownsRow w.heap.size 39 5 sv j rows := (HOWN.out.alloc _).kept hg2 (by
              rcases hv : sv.ownBlock with _ | q
              · exact .inl rfl
              · refine .inr (fun e => ?_)
                have h1 := (HOWN.out.lt q hv).2
                have h2 := Option.some.inj e
                omega)
            obtain ⟨A0, c0, hsv, hjc, _, _⟩ := owns_form hown2
            subst hsv
            have hsvlt := HOWN.out.lt
            have hc0 : w2.cell? ⟨g, o, none⟩ = some (.slice A0 j c0) := by
              rw [cell_of_row w2 g o _ _ _ hrw2]
              simp [splice, Nat.min_eq_left (Nat.le_of_lt HOL.out)]
            have hu0 : w2.cell? ⟨wr.heap.size, 0, none⟩ = some (u0) := by rw [cell_of_row w2 wr.heap.size 0 _ _ _ hx2]; rfl
            have hu1 : w2.cell? ⟨wr.heap.size, 1, none⟩ = some (u1) := by rw [cell_of_row w2 wr.heap.size 1 _ _ _ hx2]; rfl
            have hu2 : w2.cell? ⟨wr.heap.size, 2, none⟩ = some (u2) := by rw [cell_of_row w2 wr.heap.size 2 _ _ _ hx2]; rfl
            have hu3 : w2.cell? ⟨wr.heap.size, 3, none⟩ = some (u3) := by rw [cell_of_row w2 wr.heap.size 3 _ _ _ hx2]; rfl
            have hu4 : w2.cell? ⟨wr.heap.size, 4, none⟩ = some (u4) := by rw [cell_of_row w2 wr.heap.size 4 _ _ _ hx2]; rfl
            have hfr : w2.frozen? ⟨g, o, none⟩ = false := frozen_of_row w2 g o _ _ hrw2
            have hgw2 : g < w2.heap.size := row_lt hrw2
            have hcA : (w2.alloc (.cells #[u0, u1, u2, u3, u4] 39)).cell? ⟨g, o, none⟩ = some (.slice A0 j c0) := (World.cell?_alloc_lt w2 _ ⟨g, o, none⟩ hgw2).trans hc0
            have hj1 : j + 1 ≤ 9437185 := by omega
            have hbd : w.heap.size ≤ w2.drew.heap.size := hgx.size
            have HGX := Lib.hid hgx
            have HRW2 := Lib.hid hrw2
            have HOWN2 := Lib.hid hown2
            have HREP2 := Lib.hid hrep2
            have HONE := Lib.hid hone
            have HG2 := Lib.hid hg2
            have hz2 := hgx.size
            have hzr2 : wr.heap.size + 1 ≤ w2.heap.size := by have := hg2.size; rw [HZA.out] at this; exact this
            have HSV := Lib.hid hsvlt
            have HOWD := Lib.hid (show w2.drew.ownsRow w.heap.size 39 5 (.slice A0 j c0) j rows from hown2)
            clear hgx hrw2 hown2 hrep2 hone hg2 hul hx2 hsvlt
            go_wp2
            go_region_law (first
              | (refine step_pushE rfl (.tmp 46) (.tmp 48) rfl (v := .slice A0 j c0) (news := [u0, u1, u2, u3, u4]) (by simp [Act.eval]) HOWD.out (by simp [Act.eval]) rfl HONE.out hj1 hbd ?_
                 intro v3 w3 ho3 hg3 hb3
                 obtain ⟨A3, c3, hv3, _, _, _⟩ := owns_form ho3
                 subst hv3
                 have hrw3 := (hg3.block g (by rw [World.size_alloc]; exact Nat.lt_succ_of_lt hgw2) (fun e => by have := (HSV.out g e.symm).1; omega)).trans ((heap_alloc_old w2 (.cells #[u0, u1, u2, u3, u4] 39) hgw2).trans HRW2.out)
                 have hf3 : w3.frozen? ⟨g, o, none⟩ = false := frozen_of_row w3 g o _ _ hrw3
                 have hc3 : w3.cell? ⟨g, o, none⟩ = some (.slice A0 j c0) := by
                   rw [cell_of_row w3 g o _ _ _ hrw3]
                   simp [splice, Nat.min_eq_left (Nat.le_of_lt HOL.out)]
                 have HO3 := Lib.hid ho3
                 have HG3 := Lib.hid hg3
                 have HB3 := Lib.hid hb3
                 have HRW3 := Lib.hid hrw3
                 clear ho3 hg3 hb3 hrw3))
            all_goals
              go_wp2
              go_roundw
              case rel =>
                obtain ⟨r1, r2, r3, r4⟩ := list_round HOK.out hsz hgs HOL.out HGX.out hzr HOWN.out HDL.out HIT.out HG2.out HREP2.out HG3.out HO3.out HB3.out HRW3.out
                exact ⟨j + 1, u + x, ds ++ [d], _, rows ++ [u0, u1, u2, u3, u4], by omega, by go_num, congrArg (Value.int .i64) (by omega), by omega, r1, r2, r3, by rw [List.length_append, HDL.out]; rfl, r4, HCT.out.next hlt (by rw [HDD.out]; exact HG0.out)⟩
              case measure => simp [intOf]; omega
        · obtain rfl : j = v := by omega
          have hnlt : ¬ (j : Int) < (j : Int) := by omega
          have hfin : Got (listK k most) b at_ g (o + 0) cs ty w (.returned (.tuple #[.int .i64 ((at_ + used + u : Nat) : Int), .bool true])) wr := by
            rw [show at_ + used + u = at_ + (used + u) from Nat.add_assoc _ _ _]
            refine Got.ofSome (d := .agg ds) (used := used + u) ?_ ⟨hgr, [sv], hrw, hit.rep HOK.out (by rw [hsz, hdl]; exact hown) (by omega) most⟩
            rw [HGET.out, hct.done]
            rfl
          have HFIN := Lib.hid hfin
          clear hfin hgr hrw hown hit hct hdl
          go_wp2
          go_ret2
          exact HFIN.out
    · have hget := hbad (.inr (by omega))
      have HGET := Lib.hid hget
      have hd1 : decide (most < (v : Int)) = true := decide_eq_true (by omega)
      have hd2 : most < (v : Int) := by omega
      have hmw : IntKind.u64.wrap most = most := by simp [IntKind.wrap, IntKind.bits, IntKind.signed]; omega
      clear hbad hgood hfac hus hnx hget
      go_enter Tryz.func76, Tryz.ntmps76
      go_wp2_with fail
      refine HNUM.out.mono ?_
      rintro e w1 ⟨rfl, hb1⟩
      have hmr1 := (hb1.block bm (by omega)).trans HM.out
      have c1 : w1.cell? ⟨bm, 0, none⟩ = some (.int .i64 most) := by rw [cell_of_row w1 bm 0 _ _ _ hmr1]; rfl
      have HB1 := Lib.hid hb1
      clear hb1 hmr1
      rw [HNX.out]
      go_wp2
      go_ret2
      exact Got.ofNone HGET.out (grown_of_below HB1.out _)
  · have heb : ((er : Int) == 0) = false := by rw [beq_eq_false_iff_ne]; omega
    have hget := hbad (.inl he)
    have HGET := Lib.hid hget
    obtain ⟨nx, hnx⟩ : ∃ nx, nextI at_ used er = nx := ⟨_, rfl⟩
    have hnum3 := HNUM.out
    rw [hnx] at hnum3
    have HNUM3 := Lib.hid hnum3
    clear hbad hgood hfac hget hnum3 hnx
    go_enter Tryz.func76, Tryz.ntmps76
    go_wp2_with fail
    refine HNUM3.out.mono ?_
    rintro e w1 ⟨rfl, hb1⟩
    have HB1 := Lib.hid hb1
    clear hb1
    go_wp2
    go_ret2
    exact Got.ofNone HGET.out (grown_of_below HB1.out _)
set_option maxHeartbeats 400000 in
theorem listE_any {L : Nat} {k : Kd} {kv1 kv2 kv3 : Value} (w : World) (hL : L ≤ w.heap.size) (hk : KindAt L w kv1 kv2 kv3 0 k) (most : Int) (hm0 : 0 ≤ most) (hm1 : most ≤ 1000) (hsz : k.size = 5) (hz : k.zero = [.int .u64 0, .int .u64 0, .int .i64 0, .int .i64 0, .slice none 0 0]) :
    Calls Tryz.prog 35 #[.agg #[kv1, kv2, kv3], .int .i64 most] w (Makes L (listK k most) 0 w) := by
  have hmf : ∀ (fn : Fn) (first cap : Array Value) (w : World), (Instr.makeFunc fn first cap).run Tryz.prog w = .ok (.func fn first cap) w := fun _ _ _ _ => rfl
  have HK := Lib.hid hk
  obtain ⟨_, ⟨q1, c1, rfl, _⟩, ⟨q2, c2, rfl, _⟩, ⟨q3, c3, rfl, _⟩⟩ := hk
  go_enter Tryz.func35, Tryz.ntmps35
  go_wp2
  exact bodyPost_ret (v := .agg #[.func (.func 74) #[] #[.pointer (some ⟨w.heap.size + 1, 0, none⟩), .pointer (some ⟨w.heap.size, 0, none⟩)], .func (.func 75) #[] #[.pointer (some ⟨w.heap.size, 0, none⟩)], .func (.func 76) #[] #[.pointer (some ⟨w.heap.size + 1, 0, none⟩), .pointer (some ⟨w.heap.size, 0, none⟩)]]) (results_cell_row rfl _ _ (w.heap.size + 1 + 1) 88 #[.func (.func 74) #[] #[.pointer (some ⟨w.heap.size + 1, 0, none⟩), .pointer (some ⟨w.heap.size, 0, none⟩)], .func (.func 75) #[] #[.pointer (some ⟨w.heap.size, 0, none⟩)], .func (.func 76) #[] #[.pointer (some ⟨w.heap.size + 1, 0, none⟩), .pointer (some ⟨w.heap.size, 0, none⟩)]] (0, 0) _ rfl (heap3_2 w _ _ _) Tryz.underlying88 rfl (by kernel_rfl)) rfl
    ⟨_, _, _, rfl, ⟨listK_ok HK.out.ok most, listE_s hL (heap3_0 w _ _ _) (HK.out.later (below3 w _ _ _)) hsz (Nat.le_succ_of_le hL) (heap3_1 w _ _ _), listE_p hL (heap3_0 w _ _ _) (HK.out.later (below3 w _ _ _)) hsz, listE_g hL (heap3_0 w _ _ _) (HK.out.later (below3 w _ _ _)) hsz (Nat.le_succ_of_le hL) (heap3_1 w _ _ _) hz hm0 hm1⟩, below3 w _ _ _⟩
end Go.Proofs.YtnmcaifecfaoiaaGreat.Kd
