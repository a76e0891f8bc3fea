/- Lists as a kind, their items int: what its closures do, if the items' do so; and it made. Written by gl.py. | Lists of a kind's items that are being read, or copied, into a row of the call's own. Nothing here speaks of one function. | Lists of numbers as a kind: what is read; and it made. Written by gl.py. -/
import Derived.Test.YtdbaajgkcjpnoaaGreatGJ
import Derived.Test.YtdbaajgkcjpnoaaGreatGG
import Derived.Test.YtdbaajgkcjpnoaaGreatGB
import Derived.Test.YtdbaajgkcjpnoaaGreatGC
import Derived.Maps.AppendAt
import Derived.Test.YtdbaajgkcjpnoaaGreatGH
import Derived.Test.YtdbaajgkcjpnoaaGreatKfG
import Derived.Deep.RegionLaw
/-! Lists as a kind, their items int: what its closures do, if the items' do so; and it made. Written by gl.py. -/
namespace Go.Proofs.YtdbaajgkcjpnoaaGreat.Kd
open Go.RowKit By CoP Co Mo

set_option maxHeartbeats 1600000 in
theorem listI_s {L : Nat} {W : World} {bi : Nat} {most : Int} {k : Kd} {f1 f2 f3 : Value} {t1 : TypeId} (hLi : L ≤ bi) (hi : W.heap[bi]? = some (.cells #[f1, f2, f3] t1 (0, 0))) (hk : KindAt L W f1 f2 f3 0 k) (hsz : k.size = 1) {bm : Nat} {t2 : TypeId} (hLm : L ≤ bm) (hm : W.heap[bm]? = some (.cells #[.int .i64 most] t2 (0, 0))) :
    SoundAt L W (.func (.func 121) #[] #[.pointer (some ⟨bm, 0, none⟩), .pointer (some ⟨bi, 0, none⟩)]) 0 (listK k most) := by
  have hok := hk.ok
  obtain ⟨_, ⟨fi, capi, rfl, ei, HI0⟩, ⟨fj, capj, rfl, _, _⟩, ⟨fq, capq, rfl, _, _⟩⟩ := hk
  refine ⟨_, _, rfl, enters_of Tryz.func121 (by kernel_rfl) rfl, ?_⟩
  rintro w hbw g o vs d hr ⟨A, c, ds, rfl, rfl, hdc, hdm, hdl⟩
  have c1 : w.cell? ⟨bm, 0, none⟩ = some (.int .i64 most) := by rw [cell_of_row w bm 0 _ _ _ ((hbw.block bm hLm (row_lt hm)).trans hm)]; rfl
  have hbil := Nat.lt_of_lt_of_le (row_lt hi) hbw.size
  have HIROW := Lib.hid ((hbw.block bi hLi (row_lt hi)).trans hi)
  have c3 : w.cell? ⟨g, o, none⟩ = some (.slice A ds.length c) := hr.cell
  have ei' : ∀ (args : Array Value) (w : World), (callFunc fi args).run Tryz.prog w = .ok (.enter fi args) w := ei
  have HI := Lib.hid HI0
  have HB := Lib.hid hbw
  have HDL := Lib.hid hdl
  have HRO := Lib.hid hr
  have HOK := Lib.hid hok
  show Calls _ _ _ _ (Says (decide ((ds.length : Int) ≤ most) && ds.all k.sound) w)
  clear hbw hr hdl hi hm ei HI0 hok
  by_cases hmost : (ds.length : Int) ≤ most
  · rw [decide_eq_true hmost, Bool.true_and]
    have hd0 : decide (most < (ds.length : Int)) = false := decide_eq_false (by omega)
    go_enter Tryz.func121, Tryz.ntmps121
    go_wp2
    go_quiet (fail)
    go_wp2
    go_loopw [16] (fun i wr => ∃ j : Nat, j ≤ ds.length ∧ i = .int .i64 j ∧ Below w.heap.size w wr ∧ ds.all k.sound = (ds.drop j).all k.sound) (fun i _ => ds.length - (intOf i).toNat)
    case atStart => exact ⟨0, Nat.zero_le _, rfl, below_drewN (Below.refl _ _) _, by simp⟩
    case round =>
      obtain ⟨j, hj, rfl, hbr, hsd⟩ := hrel
      have HBW := Lib.hid hbr
      have HSD := Lib.hid hsd
      by_cases hlt : j < ds.length
      · obtain ⟨q, o2, rfl, hq, hc⟩ := HDL.out (by omega)
        obtain ⟨vs, hrep, hrd⟩ := hc j ds[j] (List.getElem?_eq_getElem hlt)
        rw [hsz] at hrd
        have hrowr := (hbr.block bi hbil).trans HIROW.out
        have a1 : wr.cell? ⟨bi, 0, none⟩ = some (.func (.func fi) #[] capi) := by rw [cell_of_row wr bi 0 _ _ _ hrowr]; rfl
        have c4 : wr.cell? ⟨g, o, none⟩ = some (.slice (some ⟨q, o2, none⟩) ds.length c) := (HRO.out.below hbr).cell
        have hbd : Below w.heap.size w wr.drew := hbr.drew
        have hrd2 : Rd wr.drew q (o2 + j + 0) vs := by simpa using hrd.below hbd
        have hcall := HI.out wr.drew (keeps_ext HB.out hbd) q (o2 + j) vs ds[j] hrd2 (HOK.out.below hrep hbd)
        have HBD := Lib.hid hbd
        have hdr : (ds.drop j).all k.sound = (k.sound ds[j] && (ds.drop (j + 1)).all k.sound) := by rw [List.drop_eq_getElem_cons hlt, List.all_cons]
        have HDR := Lib.hid hdr
        clear hbr hsd hrowr hrd hrd2 hrep hc hq hbd hdr
        cases hsj : k.sound ds[j] with
        | true =>
          rw [hsj] at hcall
          have HSJ := Lib.hid hsj
          have HC := Lib.hid hcall
          clear hsj hcall
          go_wp2
          go_region_law (go_simp; go_at_fn fi; refine HC.out.mono ?_; rintro e w1 ⟨rfl, hb1⟩; have HB1 := Lib.hid (By.ext HBD.out hb1); clear hb1)
          all_goals
            go_wp2
            go_roundw
            case rel => exact ⟨j + 1, by omega, by go_num, HB1.out, HSD.out.trans (by rw [HDR.out, HSJ.out, Bool.true_and])⟩
            case measure => simp [intOf]; omega
        | false =>
          rw [hsj] at hcall
          have HSJ := Lib.hid hsj
          have HC := Lib.hid hcall
          clear hsj hcall
          go_wp2
          go_region_law (go_simp; go_at_fn fi; refine HC.out.mono ?_; rintro e w1 ⟨rfl, hb1⟩; have HB1 := Lib.hid (By.ext HBD.out hb1); clear hb1)
          all_goals
            go_wp2
            go_ret
            exact ⟨by rw [HSD.out, HDR.out, HSJ.out]; rfl, HB1.out⟩
      · have hje : j = ds.length := by omega
        subst hje
        have hal : ds.all k.sound = true := by rw [hsd, List.drop_length]; rfl
        have HAL := Lib.hid hal
        clear hbr hsd hal
        go_wp2
        go_ret
        exact ⟨by rw [HAL.out]; rfl, HBW.out⟩
  · rw [decide_eq_false hmost, Bool.false_and]
    have hd0 : decide (most < (ds.length : Int)) = true := decide_eq_true (by omega)
    go_enter Tryz.func121, Tryz.ntmps121
    go_wp2
    go_quiet (fail)
    go_wp2
    go_ret
    exact ⟨rfl, below_drewN (Below.refl _ _) _⟩
set_option maxHeartbeats 1600000 in
theorem listI_p {L : Nat} {W : World} {bi : Nat} {most : Int} {k : Kd} {f1 f2 f3 : Value} {t1 : TypeId} (hLi : L ≤ bi) (hi : W.heap[bi]? = some (.cells #[f1, f2, f3] t1 (0, 0))) (hk : KindAt L W f1 f2 f3 0 k) (hsz : k.size = 1) :
    PutAt L W (.func (.func 122) #[] #[.pointer (some ⟨bi, 0, none⟩)]) 0 (listK k most) := by
  have hok := hk.ok
  obtain ⟨_, ⟨fj, capj, rfl, _, _⟩, ⟨fi, capi, rfl, ei, HI0⟩, ⟨fq, capq, rfl, _, _⟩⟩ := hk
  refine ⟨_, _, rfl, enters_of Tryz.func122 (by kernel_rfl) rfl, ?_⟩
  rintro w hbw g o vs d hr ⟨A, c, ds, rfl, rfl, hdc, hdm, hdl⟩ hlen
  have hbil := Nat.lt_of_lt_of_le (row_lt hi) hbw.size
  have HIROW := Lib.hid ((hbw.block bi hLi (row_lt hi)).trans hi)
  have c3 : w.cell? ⟨g, o, none⟩ = some (.slice A ds.length c) := hr.cell
  have ei' : ∀ (args : Array Value) (w : World), (callFunc fi args).run Tryz.prog w = .ok (.enter fi args) w := ei
  have hlen' : (putNum ds.length ++ ds.flatMap k.put).length + 9 ≤ 140737488355328 := hlen
  have hdmi : (ds.length : Int) ≤ 140737488355328 := by omega
  have HL := Lib.hid hlen'
  have HI := Lib.hid HI0
  have HB := Lib.hid hbw
  have HDL := Lib.hid hdl
  have HRO := Lib.hid hr
  have HOK := Lib.hid hok
  show Calls _ _ _ _ (Gives w.heap.size (putNum ds.length ++ ds.flatMap k.put) w)
  clear hbw hr hdl hi ei HI0 hok hlen hlen'
  go_enter Tryz.func122, Tryz.ntmps122
  go_wp2_with fail
  refine (putNum_any none 0 0 0 [] ds.length _ (by rfl) (by omega) rfl _ (Lies.empty _ _ _) (Nat.zero_le _) (by simp)).mono ?_
  rintro e w1 ⟨v, rfl, ho, hb1⟩
  have c4 : w1.cell? ⟨g, o, none⟩ = some (.slice A ds.length c) := (HRO.out.below hb1).cell
  have HO := Lib.hid ho
  have HB1 := Lib.hid hb1
  clear ho hb1
  go_wp2
  go_loopw [4, 16] (fun out i wr => ∃ (j : Nat) (l : List UInt8), j ≤ ds.length ∧ i = .int .i64 j ∧ Below w.heap.size w wr ∧ Own w.heap.size wr out l ∧ putNum ds.length ++ ds.flatMap k.put = l ++ (ds.drop j).flatMap k.put) (fun _ i _ => ds.length - (intOf i).toNat)
  case atStart => exact ⟨0, putNum ds.length, Nat.zero_le _, rfl, HB1.out, by simpa using HO.out, by simp⟩
  case round =>
    obtain ⟨j, l, hj, rfl, hbr, hown, hsd⟩ := hrel
    obtain ⟨A0, c0, rfl, _, _, _, _, _⟩ := hown.form
    have HBW := Lib.hid hbr
    have HSD := Lib.hid hsd
    have HOWN := Lib.hid hown
    by_cases hlt : j < ds.length
    · obtain ⟨q, o2, rfl, hq, hc⟩ := HDL.out (by omega)
      obtain ⟨vs, hrep, hrd⟩ := hc j ds[j] (List.getElem?_eq_getElem hlt)
      rw [hsz] at hrd
      have hrowr := (hbr.block bi hbil).trans HIROW.out
      have a1 : wr.cell? ⟨bi, 1, none⟩ = some (.func (.func fi) #[] capi) := by rw [cell_of_row wr bi 1 _ _ _ hrowr]; rfl
      have c5 : wr.cell? ⟨g, o, none⟩ = some (.slice (some ⟨q, o2, none⟩) ds.length c) := (HRO.out.below hbr).cell
      have hbd : Below w.heap.size w wr.drew := hbr.drew
      have hrd2 : Rd wr.drew q (o2 + j + 0) vs := by simpa using hrd.below hbd
      have hpd : (ds.drop j).flatMap k.put = k.put ds[j] ++ (ds.drop (j + 1)).flatMap k.put := by rw [List.drop_eq_getElem_cons hlt, List.flatMap_cons]
      have hpl : l.length + (k.put ds[j]).length + 9 ≤ 140737488355328 := by
        have h1 := HL.out
        rw [hsd, hpd, List.length_append, List.length_append] at h1
        omega
      have hcall := HI.out wr.drew (keeps_ext HB.out hbd) q (o2 + j) vs ds[j] hrd2 (HOK.out.below hrep hbd) (by omega)
      have HC := Lib.hid hcall
      have HPL := Lib.hid hpl
      have HPD := Lib.hid hpd
      have HBD := Lib.hid hbd
      have HOWD := Lib.hid (show Own w.heap.size wr.drew (.slice A0 l.length c0) l from hown)
      clear hbr hsd hrowr hrd hrd2 hrep hc hq hbd hpd hpl hcall hown
      go_wp2
      go_region_law (first
        | (go_simp; go_at_fn fi; refine HC.out.mono ?_; rintro e w1 ⟨v1, rfl, ho1, hb1⟩
           obtain ⟨A1, c1, rfl, _, _, _, hr1, _⟩ := ho1.form
           have HO1 := Lib.hid (HOWD.out.kept hb1 (Nat.le_refl _))
           have HR1 := Lib.hid hr1
           have HZ1 := Lib.hid (Nat.le_trans HBD.out.size hb1.size)
           have HB2 := Lib.hid (By.ext HBD.out hb1)
           clear ho1 hb1 hr1)
        | (refine step_app rfl (.tmp 19) (.tmp 27) rfl (v := .slice A0 l.length c0) (by simp [Act.eval]) HO1.out (A := A1) (m := (k.put ds[j]).length) (c := c1) (by simp [Act.eval]) rfl HR1.out (by have := HPL.out; omega) HZ1.out ?_
           intro v2 w2 ho2 hb2 _
           have HO2 := Lib.hid ho2
           have HB3 := Lib.hid (HB2.out.trans hb2)
           clear ho2 hb2))
      all_goals
        go_wp2
        go_roundw
        case rel => exact ⟨j + 1, l ++ k.put ds[j], by omega, by go_num, HB3.out, HO2.out, by rw [HSD.out, HPD.out, List.append_assoc]⟩
        case measure => simp [intOf]; omega
    · have hje : j = ds.length := by omega
      subst hje
      clear hbr hsd hown
      go_wp2
      go_ret
      refine ⟨_, rfl, ?_, HBW.out⟩
      have h := HSD.out
      rw [List.drop_length, List.flatMap_nil, List.append_nil] at h
      rw [h]
      exact HOWN.out
end Go.Proofs.YtdbaajgkcjpnoaaGreat.Kd

/-! Lists of a kind's items that are being read, or copied, into a row of the call's own. Nothing here speaks of one function. -/
namespace Go.Proofs.YtdbaajgkcjpnoaaGreat.Kd
open Go.RowKit Go.ChangeAt By CoP Co Mo

/-- Items of a kind, in a row of the call's own; what they hold lies elsewhere, in new blocks. -/
def Items (k : Kd) (w0 wr : World) (sv : Value) (rows : List Value) (ds : List Data) : Prop :=
  ∀ (i : Nat) (d : Data), ds[i]? = some d → ∃ vs, k.rep wr (fun b => New w0 wr b ∧ some b ≠ sv.ownBlock) vs d ∧ ∀ (q : Nat) (x : Value), vs[q]? = some x → rows[i * k.size + q]? = some x
theorem Items.nil (k : Kd) (w0 wr : World) (sv : Value) (rows : List Value) : Items k w0 wr sv rows [] := fun i d h => by simp at h
theorem Items.push {k : Kd} (hk : k.Ok) {w0 wr w' : World} {sv sv' : Value} {rows vs : List Value} {ds : List Data} {d : Data} (h : Items k w0 wr sv rows ds) (hr : rows.length = ds.length * k.size)
    (hz : wr.heap.size ≤ w'.heap.size) (hkeep : ∀ b, New w0 wr b → some b ≠ sv.ownBlock → w'.heap[b]? = wr.heap[b]?) (hown : sv'.ownBlock = sv.ownBlock ∨ ∃ z, wr.heap.size ≤ z ∧ sv'.ownBlock = some z)
    (hnew : k.rep w' (fun b => New w0 w' b ∧ some b ≠ sv'.ownBlock) vs d) : Items k w0 w' sv' (rows ++ vs) (ds ++ [d]) := by
  intro i d' hd
  by_cases hi : i < ds.length
  · rw [List.getElem?_append_left hi] at hd
    obtain ⟨us, h1, h2⟩ := h i d' hd
    refine ⟨us, hk.keep h1 (fun b hb => hkeep b hb.1 hb.2) (fun b hb => ⟨⟨hb.1.1, Nat.lt_of_lt_of_le hb.1.2 hz⟩, ?_⟩), fun q x hx => ?_⟩
    · rcases hown with e | ⟨z, h3, e⟩
      · rw [e]; exact hb.2
      · rw [e]
        intro e2
        have h4 := Option.some.inj e2
        have h5 := hb.1.2
        omega
    · have h3 := h2 q x hx
      rw [List.getElem?_append_left (List.getElem?_eq_some_iff.1 h3).1]
      exact h3
  · have hie : i = ds.length := by
      have := (List.getElem?_eq_some_iff.1 hd).1
      rw [List.length_append, List.length_singleton] at this
      omega
    subst hie
    rw [List.getElem?_append_right (Nat.le_refl _), Nat.sub_self] at hd
    have hd2 : d = d' := by simpa using hd
    subst hd2
    refine ⟨vs, hnew, fun q x hx => ?_⟩
    rw [List.getElem?_append_right (by omega), hr, Nat.add_sub_cancel_left]
    exact hx
theorem owns_form {base e size : Nat} {w : World} {v : Value} {n : Nat} {xs : List Value} (h : w.ownsRow base e size v n xs) :
    ∃ A c, v = .slice A n c ∧ n ≤ c ∧ c ≤ maxLen ∧ (0 < n → ∃ g, A = some ⟨g, 0, none⟩ ∧ v.ownBlock = some g ∧ base ≤ g ∧ g < w.heap.size ∧ ∀ (j : Nat) (u : Value), xs[j]? = some u → w.cell? ⟨g, j, none⟩ = some u) := by
  have hlt := h.lt
  have hc := h
  rcases h.2 with ⟨rfl, h0⟩ | ⟨g, cap, cur, rfl, hb, hg, hn, hm, hs, ht⟩
  · subst h0
    exact ⟨none, 0, rfl, Nat.le_refl _, Nat.zero_le _, fun h => absurd h (by omega)⟩
  · refine ⟨some ⟨g, 0, none⟩, cap, rfl, hn, hm, fun _ => ⟨g, rfl, rfl, hb, (hlt g rfl).2, fun j u hu => ?_⟩⟩
    have := hc.cells (g := g) rfl j u hu
    rwa [plainAdd, Nat.zero_add] at this
theorem Items.rep {k : Kd} (hk : k.Ok) {w0 wr : World} {e : Nat} {sv : Value} {rows : List Value} {ds : List Data} (h : Items k w0 wr sv rows ds) (ho : wr.ownsRow w0.heap.size e k.size sv ds.length rows) (hm : ds.length ≤ 140737488355328) (most : Int) :
    (listK k most).rep wr (New w0 wr) [sv] (.agg ds) := by
  obtain ⟨A, c, rfl, hc, _, hn⟩ := owns_form ho
  refine ⟨A, c, ds, rfl, rfl, hc, hm, fun hp => ?_⟩
  obtain ⟨g, rfl, _, h1, h2, h3⟩ := hn hp
  refine ⟨g, 0, rfl, ⟨h1, h2⟩, fun j d hd => ?_⟩
  obtain ⟨vs, h4, h5⟩ := h j d hd
  refine ⟨vs, hk.keep h4 (fun _ _ => rfl) (fun b hb => hb.1), fun i v hv => ?_⟩
  have := h3 _ v (h5 i v hv)
  rwa [show 0 + j * k.size + i = j * k.size + i by omega]
/-- Likewise, in free blocks. -/
def ItemsF (k : Kd) (w0 wr : World) (sv : Value) (rows : List Value) (ds : List Data) : Prop :=
  ∀ (i : Nat) (d : Data), ds[i]? = some d → ∃ vs, k.rep wr (fun b => NewF w0 wr b ∧ some b ≠ sv.ownBlock) vs d ∧ ∀ (q : Nat) (x : Value), vs[q]? = some x → rows[i * k.size + q]? = some x
theorem ItemsF.nil (k : Kd) (w0 wr : World) (sv : Value) (rows : List Value) : ItemsF k w0 wr sv rows [] := fun i d h => by simp at h
theorem ItemsF.push {k : Kd} (hk : k.Ok) {w0 wr w' : World} {sv sv' : Value} {rows vs : List Value} {ds : List Data} {d : Data} (h : ItemsF k w0 wr sv rows ds) (hr : rows.length = ds.length * k.size)
    (hz : wr.heap.size ≤ w'.heap.size) (hkeep : ∀ b, New w0 wr b → some b ≠ sv.ownBlock → w'.heap[b]? = wr.heap[b]?) (hown : sv'.ownBlock = sv.ownBlock ∨ ∃ z, wr.heap.size ≤ z ∧ sv'.ownBlock = some z)
    (hnew : k.rep w' (fun b => NewF w0 w' b ∧ some b ≠ sv'.ownBlock) vs d) : ItemsF k w0 w' sv' (rows ++ vs) (ds ++ [d]) := by
  intro i d' hd
  by_cases hi : i < ds.length
  · rw [List.getElem?_append_left hi] at hd
    obtain ⟨us, h1, h2⟩ := h i d' hd
    refine ⟨us, hk.keep h1 (fun b hb => hkeep b hb.1.1 hb.2) (fun b hb => ⟨⟨⟨hb.1.1.1, Nat.lt_of_lt_of_le hb.1.1.2 hz⟩, hb.1.2.keep (hkeep b hb.1.1 hb.2)⟩, ?_⟩), fun q x hx => ?_⟩
    · rcases hown with e | ⟨z, h3, e⟩
      · rw [e]; exact hb.2
      · rw [e]
        intro e2
        have h4 := Option.some.inj e2
        have h5 := hb.1.1.2
        omega
    · have h3 := h2 q x hx
      rw [List.getElem?_append_left (List.getElem?_eq_some_iff.1 h3).1]
      exact h3
  · have hie : i = ds.length := by
      have := (List.getElem?_eq_some_iff.1 hd).1
      rw [List.length_append, List.length_singleton] at this
      omega
    subst hie
    rw [List.getElem?_append_right (Nat.le_refl _), Nat.sub_self] at hd
    have hd2 : d = d' := by simpa using hd
    subst hd2
    refine ⟨vs, hnew, fun q x hx => ?_⟩
    rw [List.getElem?_append_right (by omega), hr, Nat.add_sub_cancel_left]
    exact hx
theorem owns_free {base e size : Nat} {w : World} {v : Value} {n : Nat} {xs : List Value} (h : w.ownsRow base e size v n xs) {g : Nat} (hg : v.ownBlock = some g) : Free w g := by
  rcases h.2 with ⟨rfl, _⟩ | ⟨g', cap, cur, rfl, _, hk, _⟩
  · cases hg
  · have : g' = g := by simpa [Value.ownBlock] using hg
    subst this
    exact ⟨_, _, hk⟩
theorem ItemsF.rep {k : Kd} (hk : k.Ok) {w0 wr : World} {e : Nat} {sv : Value} {rows : List Value} {ds : List Data} (h : ItemsF k w0 wr sv rows ds) (ho : wr.ownsRow w0.heap.size e k.size sv ds.length rows) (hm : ds.length ≤ 140737488355328) (most : Int) :
    (listK k most).rep wr (NewF w0 wr) [sv] (.agg ds) := by
  obtain ⟨A, c, rfl, hc, _, hn⟩ := owns_form ho
  refine ⟨A, c, ds, rfl, rfl, hc, hm, fun hp => ?_⟩
  obtain ⟨g, rfl, hob, h1, h2, h3⟩ := hn hp
  refine ⟨g, 0, rfl, ⟨⟨h1, h2⟩, owns_free ho hob⟩, fun j d hd => ?_⟩
  obtain ⟨vs, h4, h5⟩ := h j d hd
  refine ⟨vs, hk.keep h4 (fun _ _ => rfl) (fun b hb => hb.1), fun i v hv => ?_⟩
  have := h3 _ v (h5 i v hv)
  rwa [show 0 + j * k.size + i = j * k.size + i by omega]
/-- What is read of all items, when some have been read. -/
def ContsM (k : Kd) (cnt : Nat) (b : List UInt8) (j : Nat) (ds : List Data) (u : Nat) : Prop := getMany k cnt b = (getMany k (cnt - j) (b.drop u)).map fun p => (ds ++ p.1, u + p.2)
theorem ContsM.start (k : Kd) (cnt : Nat) (b : List UInt8) : ContsM k cnt b 0 [] 0 := by
  unfold ContsM
  simp only [Nat.sub_zero, List.drop_zero, List.nil_append, Nat.zero_add]
  cases getMany k cnt b <;> rfl
theorem getMany_step (k : Kd) {n : Nat} (hn : 0 < n) (b : List UInt8) : getMany k n b = (match k.get b with
    | none => none
    | some (d, u) => match getMany k (n - 1) (b.drop u) with
      | none => none
      | some (ds, v) => some (d :: ds, u + v)) := by
  cases n with
  | zero => omega
  | succ n => rfl
theorem ContsM.fails {k : Kd} {cnt : Nat} {b : List UInt8} {j u : Nat} {ds : List Data} (h : ContsM k cnt b j ds u) (hj : j < cnt) (hg : k.get (b.drop u) = none) : getMany k cnt b = none := by
  unfold ContsM at h
  rw [h, getMany_step k (by omega), hg]
  rfl
theorem ContsM.next {k : Kd} {cnt : Nat} {b : List UInt8} {j u v : Nat} {ds : List Data} {d : Data} (h : ContsM k cnt b j ds u) (hj : j < cnt) (hg : k.get (b.drop u) = some (d, v)) : ContsM k cnt b (j + 1) (ds ++ [d]) (u + v) := by
  unfold ContsM at h ⊢
  rw [h, getMany_step k (by omega), hg]
  simp only [List.drop_drop]
  rw [show cnt - j - 1 = cnt - (j + 1) by omega]
  cases getMany k (cnt - (j + 1)) (b.drop (u + v)) with
  | none => rfl
  | some p => simp [Nat.add_assoc]
theorem ContsM.done {k : Kd} {cnt : Nat} {b : List UInt8} {u : Nat} {ds : List Data} (h : ContsM k cnt b cnt ds u) : getMany k cnt b = some (ds, u) := by
  unfold ContsM at h
  rw [h, Nat.sub_self]
  simp [getMany]
theorem listK_get_bad {k : Kd} {most : Int} {b : List UInt8} (h : (numR b).2.2 ≠ 0 ∨ most < ((numR b).1 : Int)) : (listK k most).get b = none := by
  simp only [listK]; rw [if_pos h]
theorem listK_get_ok {k : Kd} {most : Int} {b : List UInt8} (h : (numR b).2.2 = 0) (h2 : ((numR b).1 : Int) ≤ most) : (listK k most).get b = (getMany k (numR b).1 (b.drop (numR b).2.1)).map fun p => (.agg p.1, (numR b).2.1 + p.2) := by
  simp only [listK]; rw [if_neg (by rintro (h3 | h3) <;> omega)]
theorem grown_new {w w1 w2 : World} {g g1 : Nat} (h : w.grownBy w1 (some g)) (hg : w.heap.size ≤ g1) (h2 : w1.grownBy w2 (some g1)) : w.grownBy w2 (some g) :=
  ⟨h2.os.trans h.os, h2.tape.trans h.tape, h2.output.trans h.output, Nat.le_trans h.size h2.size, fun b hb hne => (h2.block b (Nat.lt_of_lt_of_le hb h.size) (fun e => by have := Option.some.inj e; omega)).trans (h.block b hb hne)⟩
theorem grown_own {w w1 w2 : World} {g : Nat} {r : Option Nat} (h : w.grownBy w1 (some g)) (hg : ∀ q, r = some q → w.heap.size ≤ q) (h2 : w1.grownBy w2 r) : w.grownBy w2 (some g) :=
  ⟨h2.os.trans h.os, h2.tape.trans h.tape, h2.output.trans h.output, Nat.le_trans h.size h2.size, fun b hb hne => (h2.block b (Nat.lt_of_lt_of_le hb h.size) (fun e => by have := hg b e.symm; omega)).trans (h.block b hb hne)⟩
theorem splice_over {cs : List Value} {p : Nat} (a b : Value) (hp : p < cs.length) : splice (splice cs p [a]) p [b] = splice cs p [b] := by
  have h1 : (splice cs p [a]).take p = cs.take p := by
    unfold splice
    exact List.take_left' (by simp; omega)
  have h2 : (splice cs p [a]).drop (p + 1) = cs.drop (p + 1) := splice_drop (a := [a]) (by omega)
  show (splice cs p [a]).take p ++ ([b] ++ (splice cs p [a]).drop (p + [b].length)) = _
  rw [h1, List.length_singleton, h2]
  rfl
theorem list_round {k : Kd} (hk : k.Ok) {w wr w2 w3 : World} {g o j e SZ : Nat} {Z X : Obj} {A0 A3 : Option Addr} {c0 c3 : Nat} {rows us : List Value} {ds : List Data} {d : Data} {cs : List Value} {ty : TypeId} (hsz : k.size = SZ)
    (hgs : g < w.heap.size) (hol : o < cs.length) (hgw : w.grownBy w2 (some g)) (hzr : w.heap.size ≤ wr.heap.size) (hown : wr.ownsRow w.heap.size e SZ (.slice A0 j c0) j rows) (hdl : ds.length = j) (hit : ItemsF k w wr (.slice A0 j c0) rows ds)
    (hg2 : (wr.alloc Z).grownBy w2 (some wr.heap.size)) (hrep : k.rep w2 (NewF (wr.alloc Z) w2) us d)
    (hg3 : (w2.drew.alloc X).grownBy w3 (Value.slice A0 j c0).ownBlock) (ho3 : w3.ownsRow w.heap.size e SZ (.slice A3 (j + 1) c3) (j + 1) (rows ++ us))
    (hb3 : (Value.slice A3 (j + 1) c3).ownBlock = (Value.slice A0 j c0).ownBlock ∨ (Value.slice A3 (j + 1) c3).ownBlock = some (w2.drew.heap.size + 1))
    (hrw3 : w3.heap[g]? = some (.cells (splice cs o [.slice A0 j c0]).toArray ty (0, 0))) :
    w.grownBy (w3.setCell ⟨g, o, none⟩ (.slice A3 (j + 1) c3)) (some g) ∧ (w3.setCell ⟨g, o, none⟩ (.slice A3 (j + 1) c3)).heap[g]? = some (.cells (splice cs o [.slice A3 (j + 1) c3]).toArray ty (0, 0)) ∧
      (w3.setCell ⟨g, o, none⟩ (.slice A3 (j + 1) c3)).ownsRow w.heap.size e SZ (.slice A3 (j + 1) c3) (j + 1) (rows ++ us) ∧ ItemsF k w (w3.setCell ⟨g, o, none⟩ (.slice A3 (j + 1) c3)) (.slice A3 (j + 1) c3) (rows ++ us) (ds ++ [d]) := by
  have hlt := hown.lt
  have hzA : (wr.alloc Z).heap.size = wr.heap.size + 1 := World.size_alloc wr Z
  have hz2 := hg2.size
  have hz3 := hg3.size
  rw [World.size_alloc] at hz3
  have hz3' : w2.heap.size + 1 ≤ w3.heap.size := hz3
  have hz4 : w3.heap.size = (w3.setCell ⟨g, o, none⟩ (.slice A3 (j + 1) c3)).heap.size := by simp [World.setCell]
  have hold : ∀ b, w.heap.size ≤ b → b < w2.heap.size → some b ≠ (Value.slice A0 j c0).ownBlock → (w3.setCell ⟨g, o, none⟩ (.slice A3 (j + 1) c3)).heap[b]? = w2.heap[b]? := fun b h1 h2 h3 =>
    (heap_setCell_other w3 ⟨g, o, none⟩ b _ (by show b ≠ g; omega)).trans ((hg3.block b (by rw [World.size_alloc]; exact Nat.lt_succ_of_lt h2) h3).trans (heap_alloc_old w2.drew X h2))
  have hne : ∀ b, w.heap.size ≤ b → b < w2.heap.size → some b ≠ (Value.slice A0 j c0).ownBlock → some b ≠ (Value.slice A3 (j + 1) c3).ownBlock := fun b _ h2 h3 e => by
    rcases hb3 with e2 | e2
    · exact h3 (e.trans e2)
    · have h4 := Option.some.inj (e.trans e2)
      have h5 : w2.drew.heap.size = w2.heap.size := rfl
      omega
  refine ⟨grown_trans (grown_own (grown_trans hgw (w1 := w2) (w2 := w2.drew.alloc X) ⟨rfl, rfl, rfl, by rw [World.size_alloc]; exact Nat.le_succ _, fun b hb _ => heap_alloc_old w2.drew X hb⟩) (fun q hq => (hlt q hq).1) hg3) (grown_set g o _), ?_, ?_, ?_⟩
  · rw [heap_setCell_same w3 g o _ _ _ hrw3, set_splice _ (by rw [splice_length (a := [Value.slice A0 j c0]) (by simp; omega)]; exact hol), splice_over _ _ hol]
  · exact ho3.kept (grown_set g o _) (.inr fun e => by have := (ho3.lt g e).1; omega)
  · refine ItemsF.push hk hit (by rw [hown.1, hdl, hsz]) (by omega) (fun b h1 h2 => ?_) ?_ ?_
    · exact (hold b h1.1 (by have := h1.2; omega) h2).trans ((hg2.block b (by rw [hzA]; have := h1.2; omega) (fun e => by have := Option.some.inj e; have := h1.2; omega)).trans (heap_alloc_old wr Z h1.2))
    · rcases hb3 with e | e
      · exact .inl e
      · exact .inr ⟨_, by have h5 : w2.drew.heap.size = w2.heap.size := rfl; omega, e⟩
    · have hq : ∀ b, New (wr.alloc Z) w2 b → some b ≠ (Value.slice A0 j c0).ownBlock := fun b h1 e => by
        have h2 := (hlt b e.symm).2
        have h3 := h1.1
        omega
      refine hk.keep hrep (fun b h1 => hold b (by have := h1.1.1; omega) h1.1.2 (hq b h1.1)) (fun b h1 => ⟨⟨⟨by have := h1.1.1; omega, by have := h1.1.2; omega⟩, h1.2.keep (hold b (by have := h1.1.1; omega) h1.1.2 (hq b h1.1))⟩, hne b (by have := h1.1.1; omega) h1.1.2 (hq b h1.1)⟩)
theorem infoI : (Tryz.prog.info? 3).map (fun i => (i.zero, i.size, i.bytes)) = some (some (.int .i64 0), 1, 8) := by kernel_rfl
/-- One more. -/
theorem run_pushI {w0 : World} {base : Nat} {v : Value} {n : Nat} {xs news : List Value} (ty : TypeId) (hown : w0.ownsRow base 3 1 v n xs) (hl : news.length = 1) (h1 : ∀ u ∈ news, u.oneCell' = true) (hsz : n + 1 ≤ 9437185) (hbase : base ≤ w0.heap.size) :
    ∃ v' w', (Builtin.append_ #[85, 85] ty #[v, .slice (some ⟨w0.heap.size, 0, none⟩) 1 1]).run Tryz.prog (w0.alloc (.cells news.toArray 3)) = .ok v' w' ∧ w'.ownsRow base 3 1 v' (n + 1) (xs ++ news) ∧
      (w0.alloc (.cells news.toArray 3)).grownBy w' v.ownBlock ∧ (v'.ownBlock = v.ownBlock ∨ v'.ownBlock = some (w0.heap.size + 1)) := by
  obtain ⟨i0, hi, hz0, hz1, hz2⟩ := info_parts infoI
  have hnews : ∀ j u, news[j]? = some u → (w0.alloc (.cells news.toArray 3)).cell? ((⟨w0.heap.size, 0, none⟩ : Addr).add j) = some u := fun j u hu => by
    have := World.news_of_block (heap_alloc_new w0 (.cells news.toArray 3)) j u (by simpa using hu)
    exact this
  obtain ⟨v', w', hrun, h2, h3, _, h5⟩ := run_append_own_at (P := Tryz.prog) (w0.alloc (.cells news.toArray 3)) base 85 ty 3 i0 (.int .i64 0) 1 8 Tryz.underlying85 hi hz0 hz1 hz2 rfl (by decide) v n xs
    (World.ownsRow.alloc hown _) ⟨w0.heap.size, 0, none⟩ 1 1 news (by omega) hnews h1 (by unfold maxLen; omega) (by omega) (by rw [World.size_alloc]; omega)
  exact ⟨v', w', hrun, h2, h3, by rw [World.size_alloc] at h5; exact h5⟩
theorem step_pushI {ops : Array Oper} {o : Oper} {a : Act} {w0 : World} {K : Act → World → Prop} {Q : Exit → Act → World → Prop} {E : Prop} (hgd : o.guard = none) (s x : Operand)
    (hop : o.op = .call { callee := .builtin .append, args := #[s, x], argTypes := #[85, 85] }) {base : Nat} {v : Value} {n : Nat} {xs news : List Value} (hs : a.eval s = v) (hown : w0.ownsRow base 3 1 v n xs)
    (hx : a.eval x = .slice (some ⟨w0.heap.size, 0, none⟩) 1 1) (hl : news.length = 1) (h1 : ∀ u ∈ news, u.oneCell' = true) (hsz : n + 1 ≤ 9437185) (hbase : base ≤ w0.heap.size)
    (hK : ∀ v' w', w'.ownsRow base 3 1 v' (n + 1) (xs ++ news) → (w0.alloc (.cells news.toArray 3)).grownBy w' v.ownBlock → (v'.ownBlock = v.ownBlock ∨ v'.ownBlock = some (w0.heap.size + 1)) → K (a.put o.dst v') w') :
    if Region.wanted o (yielded ops a.tmps) = true then Oper.wp Tryz.prog o a (w0.alloc (.cells news.toArray 3)) K Q else E := by
  have hw : Region.wanted o (yielded ops a.tmps) = true := by simp [Region.wanted, hgd]
  rw [if_pos hw]
  obtain ⟨v', w', hrun, h2, h3, h4⟩ := run_pushI o.type hown hl h1 hsz hbase
  exact wp_app_run s x _ hop hs hx hrun (hK _ _ h2 h3 h4)
theorem wpList_pushI {ops : Array Oper} {rest : List Oper} {o : Oper} {a : Act} {Q : Exit → Act → World → Prop} {w0 : World} (hgd : o.guard = none) (s x : Operand)
    (ho : o.op = .call { callee := .builtin .append, args := #[s, x], argTypes := #[85, 85] }) {base : Nat} {v : Value} {n : Nat} {xs news : List Value} (hs : a.eval s = v) (hown : w0.ownsRow base 3 1 v n xs)
    (hx : a.eval x = .slice (some ⟨w0.heap.size, 0, none⟩) 1 1) (hl : news.length = 1) (h1 : ∀ u ∈ news, u.oneCell' = true) (hsz : n + 1 ≤ 9437185) (hbase : base ≤ w0.heap.size)
    (h : ∀ v' w', w'.ownsRow base 3 1 v' (n + 1) (xs ++ news) → (w0.alloc (.cells news.toArray 3)).grownBy w' v.ownBlock → (v'.ownBlock = v.ownBlock ∨ v'.ownBlock = some (w0.heap.size + 1)) → wpList Tryz.prog ops Q rest (a.put o.dst v') w') :
    wpList Tryz.prog ops Q (o :: rest) a (w0.alloc (.cells news.toArray 3)) :=
  wpList_plain hgd fun K hK => by
    obtain ⟨v', w', hrun, h2, h3, h4⟩ := run_pushI o.type hown hl h1 hsz hbase
    exact wp_app_run s x _ ho hs hx hrun (hK _ _ (h v' w' h2 h3 h4))
theorem infoE : (Tryz.prog.info? 39).map (fun i => (i.zero, i.size, i.bytes)) = some (some (.agg #[.int .u64 0, .int .u64 0, .int .i64 0, .int .i64 0, .slice none 0 0]), 5, 56) := by kernel_rfl
/-- One more. -/
theorem run_pushE {w0 : World} {base : Nat} {v : Value} {n : Nat} {xs news : List Value} (ty : TypeId) (hown : w0.ownsRow base 39 5 v n xs) (hl : news.length = 5) (h1 : ∀ u ∈ news, u.oneCell' = true) (hsz : n + 1 ≤ 9437185) (hbase : base ≤ w0.heap.size) :
    ∃ v' w', (Builtin.append_ #[29, 29] ty #[v, .slice (some ⟨w0.heap.size, 0, none⟩) 1 1]).run Tryz.prog (w0.alloc (.cells news.toArray 39)) = .ok v' w' ∧ w'.ownsRow base 39 5 v' (n + 1) (xs ++ news) ∧
      (w0.alloc (.cells news.toArray 39)).grownBy w' v.ownBlock ∧ (v'.ownBlock = v.ownBlock ∨ v'.ownBlock = some (w0.heap.size + 1)) := by
  obtain ⟨i0, hi, hz0, hz1, hz2⟩ := info_parts infoE
  have hnews : ∀ j u, news[j]? = some u → (w0.alloc (.cells news.toArray 39)).cell? ((⟨w0.heap.size, 0, none⟩ : Addr).add j) = some u := fun j u hu => by
    have := World.news_of_block (heap_alloc_new w0 (.cells news.toArray 39)) j u (by simpa using hu)
    exact this
  obtain ⟨v', w', hrun, h2, h3, _, h5⟩ := run_append_own_at (P := Tryz.prog) (w0.alloc (.cells news.toArray 39)) base 29 ty 39 i0 (.agg #[.int .u64 0, .int .u64 0, .int .i64 0, .int .i64 0, .slice none 0 0]) 5 56 Tryz.underlying29 hi hz0 hz1 hz2 rfl (by decide) v n xs
    (World.ownsRow.alloc hown _) ⟨w0.heap.size, 0, none⟩ 1 1 news (by omega) hnews h1 (by unfold maxLen; omega) (by omega) (by rw [World.size_alloc]; omega)
  exact ⟨v', w', hrun, h2, h3, by rw [World.size_alloc] at h5; exact h5⟩
theorem step_pushE {ops : Array Oper} {o : Oper} {a : Act} {w0 : World} {K : Act → World → Prop} {Q : Exit → Act → World → Prop} {E : Prop} (hgd : o.guard = none) (s x : Operand)
    (hop : o.op = .call { callee := .builtin .append, args := #[s, x], argTypes := #[29, 29] }) {base : Nat} {v : Value} {n : Nat} {xs news : List Value} (hs : a.eval s = v) (hown : w0.ownsRow base 39 5 v n xs)
    (hx : a.eval x = .slice (some ⟨w0.heap.size, 0, none⟩) 1 1) (hl : news.length = 5) (h1 : ∀ u ∈ news, u.oneCell' = true) (hsz : n + 1 ≤ 9437185) (hbase : base ≤ w0.heap.size)
    (hK : ∀ v' w', w'.ownsRow base 39 5 v' (n + 1) (xs ++ news) → (w0.alloc (.cells news.toArray 39)).grownBy w' v.ownBlock → (v'.ownBlock = v.ownBlock ∨ v'.ownBlock = some (w0.heap.size + 1)) → K (a.put o.dst v') w') :
    if Region.wanted o (yielded ops a.tmps) = true then Oper.wp Tryz.prog o a (w0.alloc (.cells news.toArray 39)) K Q else E := by
  have hw : Region.wanted o (yielded ops a.tmps) = true := by simp [Region.wanted, hgd]
  rw [if_pos hw]
  obtain ⟨v', w', hrun, h2, h3, h4⟩ := run_pushE o.type hown hl h1 hsz hbase
  exact wp_app_run s x _ hop hs hx hrun (hK _ _ h2 h3 h4)
theorem wpList_pushE {ops : Array Oper} {rest : List Oper} {o : Oper} {a : Act} {Q : Exit → Act → World → Prop} {w0 : World} (hgd : o.guard = none) (s x : Operand)
    (ho : o.op = .call { callee := .builtin .append, args := #[s, x], argTypes := #[29, 29] }) {base : Nat} {v : Value} {n : Nat} {xs news : List Value} (hs : a.eval s = v) (hown : w0.ownsRow base 39 5 v n xs)
    (hx : a.eval x = .slice (some ⟨w0.heap.size, 0, none⟩) 1 1) (hl : news.length = 5) (h1 : ∀ u ∈ news, u.oneCell' = true) (hsz : n + 1 ≤ 9437185) (hbase : base ≤ w0.heap.size)
    (h : ∀ v' w', w'.ownsRow base 39 5 v' (n + 1) (xs ++ news) → (w0.alloc (.cells news.toArray 39)).grownBy w' v.ownBlock → (v'.ownBlock = v.ownBlock ∨ v'.ownBlock = some (w0.heap.size + 1)) → wpList Tryz.prog ops Q rest (a.put o.dst v') w') :
    wpList Tryz.prog ops Q (o :: rest) a (w0.alloc (.cells news.toArray 39)) :=
  wpList_plain hgd fun K hK => by
    obtain ⟨v', w', hrun, h2, h3, h4⟩ := run_pushE o.type hown hl h1 hsz hbase
    exact wp_app_run s x _ ho hs hx hrun (hK _ _ (h v' w' h2 h3 h4))
end Go.Proofs.YtdbaajgkcjpnoaaGreat.Kd

/-! Lists of numbers as a kind: what is read; and it made. Written by gl.py. -/
namespace Go.Proofs.YtdbaajgkcjpnoaaGreat.Kd
open Go.RowKit Go.ChangeAt By CoP Co Mo

set_option maxRecDepth 100000 in
set_option maxHeartbeats 3200000 in
theorem listI_g {L : Nat} {W : World} {bi : Nat} {most : Int} {k : Kd} {f1 f2 f3 : Value} {t1 : TypeId} (hLi : L ≤ bi) (hi : W.heap[bi]? = some (.cells #[f1, f2, f3] t1 (0, 0))) (hk : KindAt L W f1 f2 f3 0 k) (hsz : k.size = 1) {bm : Nat} {t2 : TypeId} (hLm : L ≤ bm) (hm : W.heap[bm]? = some (.cells #[.int .i64 most] t2 (0, 0)))
    (hz : k.zero = [.int .i64 0]) (hm0 : 0 ≤ most) (hm1 : most ≤ 1000) (hint : ∀ {w : World} {S : Nat → Prop} {vs : List Value} {d : Data}, k.rep w S vs d → ∃ z : Int, vs = [.int .i64 z]) :
    GetAt L W (.func (.func 123) #[] #[.pointer (some ⟨bm, 0, none⟩), .pointer (some ⟨bi, 0, none⟩)]) 0 (listK k most) := by
  have hok := hk.ok
  obtain ⟨_, ⟨fj, capj, rfl, _, _⟩, ⟨fq, capq, rfl, _, _⟩, ⟨fi, capi, rfl, ei, HI0⟩⟩ := hk
  refine ⟨_, _, rfl, enters_of Tryz.func123 (by kernel_rfl) rfl, ?_⟩
  intro w hbw g o cs ty B A n c at_ b hg hrow _ hzz hn hnc hmn hr hBg hat
  have hnum := num_in A n c at_ B b hn hnc hat hmn w hr
  have hgs := row_lt hrow
  have hbig : bi < g := Nat.lt_of_lt_of_le (row_lt hi) hg
  have hbmg : bm < g := Nat.lt_of_lt_of_le (row_lt hm) hg
  have hfac := numR_facts (b.drop at_)
  have hbad := listK_get_bad (k := k) (most := most) (b := b.drop at_)
  have hgood := listK_get_ok (k := k) (most := most) (b := b.drop at_)
  have hcs : cs[o + 0]? = some (.slice none 0 0) := zero_one hzz
  have hol : o < cs.length := (List.getElem?_eq_some_iff.1 hcs).1
  have hmrow := (hbw.block bm hLm (row_lt hm)).trans hm
  have hirow := (hbw.block bi hLi (row_lt hi)).trans hi
  have ei' : ∀ (args : Array Value) (w : World), (callFunc fi args).run Tryz.prog w = .ok (.enter fi args) w := ei
  have hWw := hbw.size
  generalize numR (b.drop at_) = N at hnum hfac hbad hgood
  obtain ⟨v, used, er⟩ := N
  have hnum2 : Calls Tryz.prog 83 #[.slice A n c, .int .i64 (at_ : Nat)] w (GivesN v (nextI at_ used er) (er : Int) w) := hnum
  simp only at hfac hbad hgood
  have HNUM := Lib.hid hnum2
  have HROW := Lib.hid hrow
  have HOL := Lib.hid hol
  have HCS := Lib.hid (show cs[o]? = some (.slice none 0 0) from hcs)
  have HM := Lib.hid hmrow
  have HIR := Lib.hid hirow
  have HI := Lib.hid HI0
  have HB := Lib.hid hbw
  have HR := Lib.hid hr
  have HN := Lib.hid hn
  have HOK := Lib.hid hok
  have HAT := Lib.hid hat
  clear hnum hnum2 hrow hr hbw hzz hcs hn hat hol hi hm hmrow hirow HI0 ei hok
  by_cases he : er = 0
  · subst he
    obtain ⟨hus, hv64⟩ := hfac rfl
    rw [List.length_drop] at hus
    have hnx : nextI at_ used 0 = ((at_ + used : Nat) : Int) := by rw [nextI_ok]; omega
    have HNX := Lib.hid hnx
    have hatu : at_ + used ≤ n := by have := HN.out; have := HAT.out; omega
    by_cases hvm : (v : Int) ≤ most
    · have hget := hgood rfl hvm
      have HGET := Lib.hid hget
      have hd1 : decide (most < (v : Int)) = false := decide_eq_false (by omega)
      have hd2 : ¬ most < (v : Int) := by omega
      have hmw : IntKind.u64.wrap most = most := by simp [IntKind.wrap, IntKind.bits, IntKind.signed]; omega
      clear hbad hgood hfac hus hnx hget
      go_enter Tryz.func123, Tryz.ntmps123
      go_wp2_with fail
      refine HNUM.out.mono ?_
      rintro e w1 ⟨rfl, hb1⟩
      have hmr1 := (hb1.block bm (by omega)).trans HM.out
      have c1 : w1.cell? ⟨bm, 0, none⟩ = some (.int .i64 most) := by rw [cell_of_row w1 bm 0 _ _ _ hmr1]; rfl
      have HR1 := Lib.hid ((hb1.block g hgs).trans HROW.out)
      have HB1 := Lib.hid hb1
      have hz1 := hb1.size
      clear hb1 hmr1
      rw [HNX.out]
      go_wp2
      go_loopw [11, 31] (fun a i wr => ∃ (j u : Nat) (ds : List Data) (sv : Value) (rows : List Value), j ≤ v ∧ i = .int .u64 (j : Int) ∧ a = .int .i64 ((at_ + used + u : Nat) : Int) ∧ at_ + used + u ≤ n ∧ w.grownBy wr (some g) ∧ wr.heap[g]? = some (.cells (splice cs o [sv]).toArray ty (0, 0)) ∧
        wr.ownsRow w.heap.size 3 1 sv j rows ∧ ds.length = j ∧ ItemsF k w wr sv rows ds ∧ ContsM k v ((b.drop at_).drop used) j ds u) (fun _ i _ => v - (intOf i).toNat)
      case atStart =>
        exact ⟨0, 0, [], .slice none 0 0, [], Nat.zero_le _, rfl, rfl, hatu, grown_of_below HB1.out _, by rw [splice_same HCS.out]; exact HR1.out, World.ownsRow_nil _ _ _ _, rfl, ItemsF.nil _ _ _ _ _, ContsM.start _ _ _⟩
      case round =>
        obtain ⟨j, u, ds, sv, rows, hj, rfl, rfl, hun, hgr, hrw, hown, hdl, hit, hct⟩ := hrel
        have hzr := hgr.size
        by_cases hlt : j < v
        · have hlti : (j : Int) < (v : Int) := by omega
          have hirow := (hgr.block bi (by omega) (fun e => by have := Option.some.inj e; omega)).trans HIR.out
          have hf3 : wr.cell? ⟨bi, 2, none⟩ = some (.func (.func fi) #[] capi) := by rw [cell_of_row wr bi 2 _ _ _ hirow]; rfl
          have hbA := (Below.refl wr.heap.size wr).alloc (Nat.le_refl _) (.cells #[.int .i64 0] 3)
          have hrA := heap_alloc_new wr (.cells #[.int .i64 0] 3)
          have hbwr : bi < wr.heap.size := by omega
          have hf4 : (wr.alloc (.cells #[.int .i64 0] 3)).cell? ⟨bi, 2, none⟩ = some (.func (.func fi) #[] capi) := (World.cell?_alloc_lt wr _ ⟨bi, 2, none⟩ hbwr).trans hf3
          have hgA := grown_of_below hbA (some g)
          have hgw := grown_trans hgr hgA
          have hbWf := HB.out.grown hgw hWw (fun q e => by have := Option.some.inj e; omega)
          have hdd : ((b.drop at_).drop used).drop u = b.drop (at_ + used + u) := by rw [List.drop_drop, List.drop_drop]; congr 1; omega
          have hcall := HI.out _ hbWf wr.heap.size 0 [.int .i64 0] 3 B A n c (at_ + used + u) b (by omega) hrA (by rw [hsz]; simp) (by rw [hsz, hz]; rfl) HN.out hnc hmn (lies_grown HR.out (by omega) hgw hBg) (by omega) hun
          have HG := Lib.hid hgr
          have HRW := Lib.hid hrw
          have HOWN := Lib.hid hown
          have HDL := Lib.hid hdl
          have HIT := Lib.hid hit
          have HCT := Lib.hid hct
          have HGA := Lib.hid hgA
          have HGW := Lib.hid hgw
          have HDD := Lib.hid hdd
          have HRA := Lib.hid hrA
          have hzA := World.size_alloc wr (.cells #[.int .i64 0] 3)
          have HZA := Lib.hid hzA
          clear hgr hrw hown hdl hit hct hirow hbA hrA hgA hgw hbWf hdd hzA
          rcases hget : k.get (b.drop (at_ + used + u)) with _ | ⟨d, x⟩
          · have HC := Lib.hid (hcall.mono fun e w' h => Got.fails h hget)
            have HG0 := Lib.hid hget
            clear hcall hget
            go_wp2_with fail
            refine HC.out.mono ?_
            rintro e w2 ⟨N, rfl, hg2⟩
            have HG2 := Lib.hid (grown_new HGW.out (by omega) hg2)
            clear hg2
            go_wp2
            go_ret2
            refine Got.ofNone ?_ HG2.out
            rw [HGET.out, HCT.out.fails hlt (by rw [HDD.out]; exact HG0.out)]
            rfl
          · have HC := Lib.hid (hcall.mono fun e w' h => Got.gives h hget)
            have HG0 := Lib.hid hget
            have hus := HOK.out.used hget
            rw [List.length_drop] at hus
            have hus2 : at_ + used + u + x ≤ n := by have := HN.out; omega
            clear hcall hget hus
            go_wp2_with fail
            refine HC.out.mono ?_
            rintro e w2 ⟨rfl, hg2, us, hx2, hrep2⟩
            have hul := HOK.out.len hrep2
            rw [hsz] at hul
            rw [splice_all (by rw [hul]; rfl)] at hx2
            have hone := HOK.out.one hrep2
            obtain ⟨z, rfl⟩ : ∃ z : Int, us = [.int .i64 z] := hint hrep2
            have hgx := grown_new HGW.out (by omega) hg2
            have hrw2 : w2.heap[g]? = some (.cells (splice cs o [sv]).toArray ty (0, 0)) := (hg2.block g (by rw [HZA.out]; omega) (fun e => by have := Option.some.inj e; omega)).trans ((heap_alloc_old wr _ (by omega)).trans HRW.out)
            have hown2 : w2.ownsRow w.heap.size 3 1 sv j rows := (HOWN.out.alloc _).kept hg2 (by
              rcases hv : sv.ownBlock with _ | q
              · exact .inl rfl
              · refine .inr (fun e => ?_)
                have h1 := (HOWN.out.lt q hv).2
                have h2 := Option.some.inj e
                omega)
            obtain ⟨A0, c0, hsv, hjc, _, _⟩ := owns_form hown2
            subst hsv
            have hsvlt := HOWN.out.lt
            have hc0 : w2.cell? ⟨g, o, none⟩ = some (.slice A0 j c0) := by
              rw [cell_of_row w2 g o _ _ _ hrw2]
              simp [splice, Nat.min_eq_left (Nat.le_of_lt HOL.out)]
            have hu0 : w2.cell? ⟨wr.heap.size, 0, none⟩ = some (.int .i64 z) := by rw [cell_of_row w2 wr.heap.size 0 _ _ _ hx2]; rfl
            have hfr : w2.frozen? ⟨g, o, none⟩ = false := frozen_of_row w2 g o _ _ hrw2
            have hgw2 : g < w2.heap.size := row_lt hrw2
            have hcA : (w2.alloc (.cells #[.int .i64 z] 3)).cell? ⟨g, o, none⟩ = some (.slice A0 j c0) := (World.cell?_alloc_lt w2 _ ⟨g, o, none⟩ hgw2).trans hc0
            have hj1 : j + 1 ≤ 9437185 := by omega
            have hbd : w.heap.size ≤ w2.drew.heap.size := hgx.size
            have HGX := Lib.hid hgx
            have HRW2 := Lib.hid hrw2
            have HOWN2 := Lib.hid hown2
            have HREP2 := Lib.hid hrep2
            have HONE := Lib.hid hone
            have HG2 := Lib.hid hg2
            have hz2 := hgx.size
            have hzr2 : wr.heap.size + 1 ≤ w2.heap.size := by have := hg2.size; rw [HZA.out] at this; exact this
            have HSV := Lib.hid hsvlt
            have HOWD := Lib.hid (show w2.drew.ownsRow w.heap.size 3 1 (.slice A0 j c0) j rows from hown2)
            clear hgx hrw2 hown2 hrep2 hone hg2 hul hx2 hsvlt
            go_wp2
            go_region_law (first
              | (refine step_pushI rfl (.tmp 46) (.tmp 48) rfl (v := .slice A0 j c0) (news := [.int .i64 z]) (by simp [Act.eval]) HOWD.out (by simp [Act.eval]) rfl HONE.out hj1 hbd ?_
                 intro v3 w3 ho3 hg3 hb3
                 obtain ⟨A3, c3, hv3, _, _, _⟩ := owns_form ho3
                 subst hv3
                 have hrw3 := (hg3.block g (by rw [World.size_alloc]; exact Nat.lt_succ_of_lt hgw2) (fun e => by have := (HSV.out g e.symm).1; omega)).trans ((heap_alloc_old w2 (.cells #[.int .i64 z] 3) hgw2).trans HRW2.out)
                 have hf3 : w3.frozen? ⟨g, o, none⟩ = false := frozen_of_row w3 g o _ _ hrw3
                 have hc3 : w3.cell? ⟨g, o, none⟩ = some (.slice A0 j c0) := by
                   rw [cell_of_row w3 g o _ _ _ hrw3]
                   simp [splice, Nat.min_eq_left (Nat.le_of_lt HOL.out)]
                 have HO3 := Lib.hid ho3
                 have HG3 := Lib.hid hg3
                 have HB3 := Lib.hid hb3
                 have HRW3 := Lib.hid hrw3
                 clear ho3 hg3 hb3 hrw3))
            all_goals
              go_wp2
              go_roundw
              case rel =>
                obtain ⟨r1, r2, r3, r4⟩ := list_round HOK.out hsz hgs HOL.out HGX.out hzr HOWN.out HDL.out HIT.out HG2.out HREP2.out HG3.out HO3.out HB3.out HRW3.out
                exact ⟨j + 1, u + x, ds ++ [d], _, rows ++ [.int .i64 z], by omega, by go_num, congrArg (Value.int .i64) (by omega), by omega, r1, r2, r3, by rw [List.length_append, HDL.out]; rfl, r4, HCT.out.next hlt (by rw [HDD.out]; exact HG0.out)⟩
              case measure => simp [intOf]; omega
        · obtain rfl : j = v := by omega
          have hnlt : ¬ (j : Int) < (j : Int) := by omega
          have hfin : Got (listK k most) b at_ g (o + 0) cs ty w (.returned (.tuple #[.int .i64 ((at_ + used + u : Nat) : Int), .bool true])) wr := by
            rw [show at_ + used + u = at_ + (used + u) from Nat.add_assoc _ _ _]
            refine Got.ofSome (d := .agg ds) (used := used + u) ?_ ⟨hgr, [sv], hrw, hit.rep HOK.out (by rw [hsz, hdl]; exact hown) (by omega) most⟩
            rw [HGET.out, hct.done]
            rfl
          have HFIN := Lib.hid hfin
          clear hfin hgr hrw hown hit hct hdl
          go_wp2
          go_ret2
          exact HFIN.out
    · have hget := hbad (.inr (by omega))
      have HGET := Lib.hid hget
      have hd1 : decide (most < (v : Int)) = true := decide_eq_true (by omega)
      have hd2 : most < (v : Int) := by omega
      have hmw : IntKind.u64.wrap most = most := by simp [IntKind.wrap, IntKind.bits, IntKind.signed]; omega
      clear hbad hgood hfac hus hnx hget
      go_enter Tryz.func123, Tryz.ntmps123
      go_wp2_with fail
      refine HNUM.out.mono ?_
      rintro e w1 ⟨rfl, hb1⟩
      have hmr1 := (hb1.block bm (by omega)).trans HM.out
      have c1 : w1.cell? ⟨bm, 0, none⟩ = some (.int .i64 most) := by rw [cell_of_row w1 bm 0 _ _ _ hmr1]; rfl
      have HB1 := Lib.hid hb1
      clear hb1 hmr1
      rw [HNX.out]
      go_wp2
      go_ret2
      exact Got.ofNone HGET.out (grown_of_below HB1.out _)
  · have heb : ((er : Int) == 0) = false := by rw [beq_eq_false_iff_ne]; omega
    have hget := hbad (.inl he)
    have HGET := Lib.hid hget
    obtain ⟨nx, hnx⟩ : ∃ nx, nextI at_ used er = nx := ⟨_, rfl⟩
    have hnum3 := HNUM.out
    rw [hnx] at hnum3
    have HNUM3 := Lib.hid hnum3
    clear hbad hgood hfac hget hnum3 hnx
    go_enter Tryz.func123, Tryz.ntmps123
    go_wp2_with fail
    refine HNUM3.out.mono ?_
    rintro e w1 ⟨rfl, hb1⟩
    have HB1 := Lib.hid hb1
    clear hb1
    go_wp2
    go_ret2
    exact Got.ofNone HGET.out (grown_of_below HB1.out _)
set_option maxHeartbeats 400000 in
theorem listI_any {L : Nat} {k : Kd} {kv1 kv2 kv3 : Value} (w : World) (hL : L ≤ w.heap.size) (hk : KindAt L w kv1 kv2 kv3 0 k) (most : Int) (hm0 : 0 ≤ most) (hm1 : most ≤ 1000) (hsz : k.size = 1) (hz : k.zero = [.int .i64 0]) (hint : ∀ {w : World} {S : Nat → Prop} {vs : List Value} {d : Data}, k.rep w S vs d → ∃ z : Int, vs = [.int .i64 z]) :
    Calls Tryz.prog 112 #[.agg #[kv1, kv2, kv3], .int .i64 most] w (Makes L (listK k most) 0 w) := by
  have hmf : ∀ (fn : Fn) (first cap : Array Value) (w : World), (Instr.makeFunc fn first cap).run Tryz.prog w = .ok (.func fn first cap) w := fun _ _ _ _ => rfl
  have HK := Lib.hid hk
  obtain ⟨_, ⟨q1, c1, rfl, _⟩, ⟨q2, c2, rfl, _⟩, ⟨q3, c3, rfl, _⟩⟩ := hk
  go_enter Tryz.func112, Tryz.ntmps112
  go_wp2
  exact bodyPost_ret (v := .agg #[.func (.func 121) #[] #[.pointer (some ⟨w.heap.size + 1, 0, none⟩), .pointer (some ⟨w.heap.size, 0, none⟩)], .func (.func 122) #[] #[.pointer (some ⟨w.heap.size, 0, none⟩)], .func (.func 123) #[] #[.pointer (some ⟨w.heap.size + 1, 0, none⟩), .pointer (some ⟨w.heap.size, 0, none⟩)]]) (results_cell_row rfl _ _ (w.heap.size + 1 + 1) 168 #[.func (.func 121) #[] #[.pointer (some ⟨w.heap.size + 1, 0, none⟩), .pointer (some ⟨w.heap.size, 0, none⟩)], .func (.func 122) #[] #[.pointer (some ⟨w.heap.size, 0, none⟩)], .func (.func 123) #[] #[.pointer (some ⟨w.heap.size + 1, 0, none⟩), .pointer (some ⟨w.heap.size, 0, none⟩)]] (0, 0) _ rfl (heap3_2 w _ _ _) Tryz.underlying168 rfl (by kernel_rfl)) rfl
    ⟨_, _, _, rfl, ⟨listK_ok HK.out.ok most, listI_s hL (heap3_0 w _ _ _) (HK.out.later (below3 w _ _ _)) hsz (Nat.le_succ_of_le hL) (heap3_1 w _ _ _), listI_p hL (heap3_0 w _ _ _) (HK.out.later (below3 w _ _ _)) hsz, listI_g hL (heap3_0 w _ _ _) (HK.out.later (below3 w _ _ _)) hsz (Nat.le_succ_of_le hL) (heap3_1 w _ _ _) hz hm0 hm1 hint⟩, below3 w _ _ _⟩
end Go.Proofs.YtdbaajgkcjpnoaaGreat.Kd
