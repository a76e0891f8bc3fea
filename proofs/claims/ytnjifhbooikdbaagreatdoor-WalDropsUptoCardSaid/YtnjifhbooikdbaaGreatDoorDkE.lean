/- Package disk's put into a file, as a contract of a call. -/
import Derived.Test.YtnjifhbooikdbaaGreatDoorDkD
import Derived.Deep.QuietTactic
import Derived.BigQuiet
namespace Go.Proofs.YtnjifhbooikdbaaGreatDoor.Dk
open Go.RowKit Go.Maps By Mp

theorem LiesS.drop {w : World} {S : Nat → Prop} {B : Option Addr} {l : Bs} (h : LiesS w S B l) {c : Nat} (hc : l.length ≤ c) (m : Nat) : LiesS w S (cutA B c m) (l.drop m) := fun hn => by
  rw [List.length_drop] at hn
  obtain ⟨g, o, rfl, hg, hl⟩ := h (by omega)
  refine ⟨g, o + m, cutA_some (by omega), hg, fun j x hx => ?_⟩
  rw [List.getElem?_drop] at hx
  rw [Nat.add_assoc]
  exact hl _ _ hx
/-- A file's bytes when t bytes of d are laid at off. -/
def putF (f : Nat → UInt8) (off : Nat) (d : Bs) (t : Nat) : Nat → UInt8 := fun j => if off ≤ j ∧ j < off + t then d.getD (j - off) 0 else f j
theorem putF_zero (f : Nat → UInt8) (off : Nat) (d : Bs) (j : Nat) : putF f off d 0 j = f j := by unfold putF; rw [if_neg (by omega)]
/-- The piece behind a copy of as many bytes as it takes. -/
theorem piece_put {f : Nat → UInt8} {off t m : Nat} {d : Bs} (hm : m = Nat.min (d.length - t) (256 - (off + t) % 256)) (ht : t < d.length) :
    splice (pieceF (putF f off d t) ((off + t) / 256)) ((off + t) % 256) ((bvs (d.drop t)).take m) = pieceF (putF f off d (t + m)) ((off + t) / 256) := by
  have hm' : m = min (d.length - t) (256 - (off + t) % 256) := hm
  have hmod := Nat.mod_lt (off + t) (show 256 > 0 by omega)
  have hdm := Nat.div_add_mod (off + t) 256
  generalize hi : (off + t) / 256 = i at *
  generalize hr : (off + t) % 256 = r at *
  have hcl : ((bvs (d.drop t)).take m).length = m := by rw [List.length_take, bvs_length, List.length_drop]; omega
  have htl : ((pieceF (putF f off d t) i).take r).length = r := by rw [List.length_take, pieceF_length]; omega
  apply List.ext_getElem?
  intro j
  unfold splice
  rw [hcl]
  by_cases h1 : j < r
  · rw [List.getElem?_append_left (by omega), List.getElem?_take_of_lt h1, pieceF_get _ _ _ (by omega), pieceF_get _ _ _ (by omega)]
    unfold putF
    by_cases h2 : off ≤ 256 * i + j
    · rw [if_pos ⟨h2, by omega⟩, if_pos ⟨h2, by omega⟩]
    · rw [if_neg (by omega), if_neg (by omega)]
  · rw [List.getElem?_append_right (by omega), htl]
    by_cases h2 : j - r < m
    · rw [List.getElem?_append_left (by omega), List.getElem?_take_of_lt (by omega), pieceF_get _ _ _ (by omega)]
      unfold putF
      rw [if_pos ⟨by omega, by omega⟩]
      unfold bvs
      rw [List.getElem?_map, List.getElem?_drop, show t + (j - r) = 256 * i + j - off by omega, List.getD_eq_getElem?_getD, List.getElem?_eq_getElem (by omega)]
      rfl
    · rw [List.getElem?_append_right (by omega), List.getElem?_drop, hcl, show r + m + (j - r - m) = j by omega]
      by_cases h3 : j < 256
      · rw [pieceF_get _ _ _ h3, pieceF_get _ _ _ h3]
        unfold putF
        by_cases h4 : off ≤ 256 * i + j ∧ 256 * i + j < off + t
        · omega
        · rw [if_neg h4, if_neg (by omega)]
      · rw [List.getElem?_eq_none (by rw [pieceF_length]; omega), List.getElem?_eq_none (by rw [pieceF_length]; omega)]
/-- The pieces behind it. -/
theorem pc_put {get : Lit → Option Value} {f : Nat → UInt8} {L off t m : Nat} {d : Bs} (h : PcSays get (putF f off d t) L) (hL : off + d.length ≤ L) (hm : m = Nat.min (d.length - t) (256 - (off + t) % 256)) (ht : t < d.length) :
    PcSays (upd get (pkey ((off + t) / 256)) (some (.agg (pieceF (putF f off d (t + m)) ((off + t) / 256)).toArray))) (putF f off d (t + m)) L := by
  have hm' : m = min (d.length - t) (256 - (off + t) % 256) := hm
  have hother : ∀ i, i ≠ (off + t) / 256 → ∀ j, j < 256 → putF f off d (t + m) (256 * i + j) = putF f off d t (256 * i + j) := by
    intro i hi j hj
    unfold putF
    by_cases h1 : off ≤ 256 * i + j ∧ 256 * i + j < off + t
    · rw [if_pos h1, if_pos (by omega)]
    · rw [if_neg h1, if_neg (by omega)]
  constructor
  · intro l v hk hv
    unfold upd at hv
    split at hv
    · rename_i hs
      have := WideAt.sameKey_eq hs
      subst this
      injection hv with hv
      exact ⟨_, rfl, by omega, hv.symm⟩
    · rename_i hs
      obtain ⟨i, rfl, hi, rfl⟩ := h.1 l v hk hv
      have hne : i ≠ (off + t) / 256 := fun e => hs (by rw [pkey_same]; simp [e])
      exact ⟨i, rfl, hi, by rw [pieceF_congr (hother i hne)]⟩
  · intro i hi j hj
    unfold upd at hi
    split at hi
    · cases hi
    · rename_i hs
      have hne : i ≠ (off + t) / 256 := fun e => hs (by rw [e, pkey_same]; simp)
      rw [hother i hne j hj]
      exact h.2 i hi j hj
/-- The piece that is there, or noughts. -/
theorem pc_get {get : Lit → Option Value} {f : Nat → UInt8} {L : Nat} (h : PcSays get f L) (i : Nat) : (get (pkey i)).getD (.agg zeroP) = .agg (pieceF f i).toArray := by
  cases hg : get (pkey i) with
  | none => rw [Option.getD_none, pieceF_zero (fun j hj => h.2 i hg j hj)]
  | some v =>
    obtain ⟨i', he, _, rfl⟩ := h.1 _ v (by simp [pkey, WideAt.IsKeyLit]) hg
    injection he with _ he
    have : i = i' := by omega
    subst this
    rfl
set_option maxRecDepth 100000 in
set_option maxHeartbeats 4000000 in
/-- Bytes are laid into a file. -/
theorem fput_any (X : Nat) (mb : Option Nat) (off : Nat) (b : Bs) (A : Option Addr) (n c : Nat) (d : Bs) (w : World) (hx : w.heap[X]? = some (.cells #[.int .i64 (b.length : Nat), .map mb] tFile (0, 0))) (hn : n = d.length) (hnc : n ≤ c) (hsz : b.length ≤ 4194304) (ho : off + d.length ≤ 4194304) (hf : FileAt w mb b)
    (S : Nat → Prop) (hS : ∀ b, S b → b ≠ X ∧ mb ≠ some b ∧ b < w.heap.size) (hd : LiesS w S A d) :
    Calls Tryz.prog 96 #[.pointer (some ⟨X, 0, none⟩), .int .i64 (off : Nat), .slice A n c] w (Does fun w' => ∃ q, (mb = some q ∨ (mb = none ∧ w.heap.size ≤ q)) ∧ w'.heap[X]? = some (.cells #[.int .i64 ((putB b off d).length : Nat), .map (some q)] tFile (0, 0)) ∧ FileAt w' (some q) (putB b off d) ∧ Kept (fun c => c = X ∨ mb = some c) w w') := by
  subst hn
  obtain ⟨sz, hszd⟩ : ∃ sz, sz = b.length := ⟨_, rfl⟩
  obtain ⟨f, hfd⟩ : ∃ f : Nat → UInt8, f = fun j => b.getD j 0 := ⟨_, rfl⟩
  rw [← hszd] at hx hsz
  have hc0 : w.cell? ⟨X, 0, none⟩ = some (.int .i64 (sz : Nat)) := by rw [cell_of_row w X 0 _ _ _ hx]; rfl
  have hf0 : w.frozen? ⟨X, 0, none⟩ = false := frozen_of_row w X 0 _ _ hx
  have hlx := row_lt hx
  obtain ⟨mx, hmx⟩ : ∃ mx : Nat, mx = max sz (off + d.length) := ⟨_, rfl⟩
  have hmax : (if (sz : Int) < (off : Int) + (d.length : Int) then (off : Int) + (d.length : Int) else (sz : Int)) = (mx : Int) := by
    split <;> omega
  have hge : off + d.length ≤ mx := by omega
  have hms : mx ≤ 4194304 := by omega
  have hx1 : (w.setCell ⟨X, 0, none⟩ (.int .i64 (mx : Int))).heap[X]? = some (.cells #[.int .i64 (mx : Nat), .map mb] tFile (0, 0)) := heap_setCell_same w X 0 _ _ (.int .i64 (mx : Nat)) hx
  have hk1 : Kept (fun c => c = X ∨ mb = some c) w (w.setCell ⟨X, 0, none⟩ (.int .i64 (mx : Int))) := (Kept.refl (fun c => c = X ∨ mb = some c) w).setCell (p := ⟨X, 0, none⟩) (fun _ => .inl rfl) _
  have hend : ∀ (q : Nat) (w' : World), PcAt w' q (putF f off d d.length) mx → FileAt w' (some q) (putB b off d) := by
    intro q w' h
    refine PcAt.congr h (by rw [putB_length, hmx, hszd]; exact Nat.le_refl _) (fun j => ?_)
    rw [putB_get, hfd]
    rfl
  have hml : mx = (putB b off d).length := by rw [putB_length, hmx, hszd]
  have hst : ∀ q, mb = some q → PcAt (w.setCell ⟨X, 0, none⟩ (.int .i64 (mx : Int))) q (putF f off d 0) mx ∧ q ≠ X := by
    intro q hq
    subst hq
    have hqx : q ≠ X := by
      rintro rfl
      obtain ⟨get, n, ⟨D, ⟨es, clock, hb, _⟩, _⟩, _⟩ := hf
      rw [hx] at hb
      cases hb
    refine ⟨PcAt.keep (PcAt.congr hf (by omega) (fun j => ?_)) (heap_setCell_other w ⟨X, 0, none⟩ q _ hqx), hqx⟩
    rw [putF_zero, hfd]
  have hst0 : mb = none → ∀ j, putF f off d 0 j = 0 := by
    intro hq j
    subst hq
    rw [putF_zero, hfd]
    exact hf j
  have hzw := size_setCell' w ⟨X, 0, none⟩ (.int .i64 (mx : Int))
  have HMAX := Lib.hid hmax
  have HX1 := Lib.hid hx1
  have HK1 := Lib.hid hk1
  have HS := Lib.hid hS
  have HD := Lib.hid hd
  have HST := Lib.hid hst
  have HST0 := Lib.hid hst0
  have HEND := Lib.hid hend
  have HML := Lib.hid hml
  have HZW := Lib.hid hzw
  clear hmax hmx hx1 hk1 hS hd hx hszd hfd hend hml hst hst0 hzw hf
  have qT : ∀ (w : World) (r : Option Nat), (binOp .eql tPM (.map r) (.map none)).run Tryz.prog w = .ok (.bool r.isNone) w := fun w r => run_eql_map_nil w _ _ _ r Tryz.underlying97
  have hmm := @run_makeMap Tryz.prog
  go_enter Tryz.func96, Tryz.ntmps96
  go_upto_region 1 with fail
  rw [HMAX.out]
  have hz1 := HZW.out
  generalize w.setCell ⟨X, 0, none⟩ (.int .i64 (mx : Int)) = w1 at *
  have hc1 : w1.cell? ⟨X, 1, none⟩ = some (.map mb) := by rw [cell_of_row _ X 1 _ _ _ HX1.out]; rfl
  have hf1 : w1.frozen? ⟨X, 1, none⟩ = false := frozen_of_row w1 X 1 _ _ HX1.out
  clear hc0 hf0
  have HM : Hid (∃ (q : Nat) (wl : World), (mb = some q ∨ (mb = none ∧ w.heap.size ≤ q)) ∧ q ≠ X ∧ wl.heap[X]? = some (.cells #[.int .i64 (mx : Nat), .map (some q)] tFile (0, 0)) ∧ PcAt wl q (putF f off d 0) mx ∧ Kept (fun c => c = X ∨ mb = some c) w wl ∧
      (mb.isNone = false → wl = w1) ∧ (mb.isNone = true → wl = (w1.setCell ⟨X, 1, none⟩ (.map (some w1.heap.size))).alloc (.map #[] 0))) := by
    cases mb with
    | some q => exact ⟨q, w1, .inl rfl, (HST.out q rfl).2, HX1.out, (HST.out q rfl).1, HK1.out, fun _ => rfl, fun h => by cases h⟩
    | none =>
      have hmd := MapIs.made (w1.setCell ⟨X, 1, none⟩ (.map (some w1.heap.size))) Tryz.prog tInt
      rw [size_setCell'] at hmd
      have hxa := heap_setCell_same w1 X 1 _ _ (.map (some w1.heap.size)) HX1.out
      refine ⟨w1.heap.size, _, .inr ⟨rfl, by omega⟩, by omega, (heap_alloc_old _ _ (row_lt hxa)).trans hxa, ⟨fun _ => none, 0, hmd, ⟨(fun l v _ h => nomatch h), fun i _ j _ => HST0.out rfl _⟩⟩, ?_, fun h => (by cases h), fun _ => rfl⟩
      exact (HK1.out.setCell (p := ⟨X, 1, none⟩) (fun _ => .inl rfl) _).alloc _
  obtain ⟨q, wl, hq, hqx, hxl, hpl, hkl, hwl, hwl2⟩ := HM.out
  obtain ⟨M, hMd⟩ : ∃ M : Nat → Prop, M = fun c => c = X ∨ mb = some c := ⟨_, rfl⟩
  rw [← hMd] at hkl
  have HQM := Lib.hid (show q < w.heap.size → M q from fun h => by rw [hMd]; exact hq.elim .inr (fun e => absurd h (by omega)))
  have HSM := Lib.hid (show ∀ b, S b → ¬ M b from fun b hb e => by rw [hMd] at e; exact e.elim (HS.out b hb).1 (HS.out b hb).2.1)
  have HMD := Lib.hid hMd
  have HQ := Lib.hid hq
  have HQX := Lib.hid hqx
  have HXL := Lib.hid hxl
  have HPL := Lib.hid hpl
  have HKL := Lib.hid hkl
  have HWL := Lib.hid hwl
  have HWL2 := Lib.hid hwl2
  have HSQ := Lib.hid (show ∀ b, S b → b ≠ q from fun b hb e => hq.elim (fun h => (HS.out b hb).2.1 (e ▸ h)) (fun h => by have := (HS.out b hb).2.2; omega))
  clear hq hqx hxl hpl hkl hwl hwl2 hMd HM HST HST0 HX1 HK1
  have hlx1 : X < w1.heap.size := by omega
  clear hz1
  cases hN : mb.isNone
  all_goals
    go_wp2
    first | rw [← HWL.out hN] | rw [← HWL2.out hN] | fail "wl"
    clear hc1 hf1 qT hmm hN HWL HWL2 hlx1
    go_loopw [1, 2] (fun o' dd wr => ∃ t : Nat, t ≤ d.length ∧ o' = .int .i64 ((off + t : Nat) : Int) ∧ (∃ B, dd = .slice B (d.length - t) (c - t) ∧ LiesS w S B (d.drop t)) ∧ wr.heap[X]? = some (.cells #[.int .i64 (mx : Nat), .map (some q)] tFile (0, 0)) ∧ PcAt wr q (putF f off d t) mx ∧ Kept M w wr)
      (fun _ dd _ => match dd with | .slice _ n _ => n | _ => 0)
    case atStart => exact ⟨0, Nat.zero_le _, by rw [Nat.add_zero], ⟨A, rfl, HD.out⟩, HXL.out, HPL.out, HKL.out⟩
    case round =>
      obtain ⟨t, ht, rfl, ⟨B, rfl, hlb⟩, hxr, hpr, hkr⟩ := hrel
      have HLB := Lib.hid hlb
      have HXR := Lib.hid hxr
      have HPR := Lib.hid hpr
      have HKR := Lib.hid hkr
      clear hxr hpr hkr hlb
      by_cases hlt : t < d.length
      · obtain ⟨get', m', hmap, hsay⟩ := HPR.out
        obtain ⟨g, o, rfl, hg, hl⟩ := HLB.out (by rw [List.length_drop]; omega)
        obtain ⟨p, hp⟩ : ∃ p, p = off + t := ⟨_, rfl⟩
        obtain ⟨m, hm⟩ : ∃ m, m = Nat.min (d.length - t) (256 - p % 256) := ⟨_, rfl⟩
        have hm' : m = min (d.length - t) (256 - p % 256) := hm
        have hmod := Nat.mod_lt p (show 256 > 0 by omega)
        have hm1 : 0 < m := by omega
        have hm2 : m ≤ d.length - t := by omega
        have hkey : keyOf Tryz.prog tInt (.int .i64 ((p : Int) / 256)) = some (pkey (p / 256)) := by
          have := keyOf_int_mk (P := Tryz.prog) Tryz.underlying3 (a := ((p / 256 : Nat) : Int)) (by exact WalkArith.wf_i64 (by omega))
          rw [show ((p / 256 : Nat) : Int) = (p : Int) / 256 by omega] at this
          rw [this]
          unfold pkey
          rw [show ((p / 256 : Nat) : Int) = (p : Int) / 256 by omega]
        have hlk := hmap.look keyI Tryz.underlying97 (zero_piece wr) hkey false
        rw [pc_get hsay] at hlk
        simp only [Bool.false_eq_true, if_false] at hlk
        obtain ⟨CS, hCS⟩ : ∃ CS, CS = (pieceF (putF f off d t) (p / 256)).toArray := ⟨_, rfl⟩
        obtain ⟨NP, hNP⟩ : ∃ NP, NP = (pieceF (putF f off d (t + m)) (p / 256)).toArray := ⟨_, rfl⟩
        obtain ⟨SR, hSR⟩ : ∃ SR, SR = (bvs (d.drop t)).take m := ⟨_, rfl⟩
        rw [← hCS] at hlk
        have hpc : PcSays (upd get' (pkey (p / 256)) (some (.agg NP))) (putF f off d (t + m)) mx := by
          rw [hNP]; subst hp; exact pc_put hsay hge hm hlt
        have hcs : CS.size = 256 := by rw [hCS, List.size_toArray, pieceF_length]
        have hns : NP.size = 256 := by rw [hNP, List.size_toArray, pieceF_length]
        have hsl0 : SR.length = m := by rw [hSR, List.length_take, bvs_length, List.length_drop]; omega
        have HI := Lib.hid (show (Tryz.prog.info? tPiece).map (·.size) = some CS.size by rw [hcs]; exact info_piece)
        have HI2 := Lib.hid (show (Tryz.prog.info? tPiece).map (·.size) = some NP.size by rw [hns]; exact info_piece)
        have HO := Lib.hid (show Tryz.zeroCells123.size = CS.size by rw [hcs]; exact zc_size)
        have H1 := Lib.hid (show CS.all (·.oneCell') = true by rw [hCS]; exact pieceF_one _ _)
        have HSPL := Lib.hid (show splice CS.toList (p % 256) SR = NP.toList by rw [hCS, hNP, hSR]; subst hp; exact piece_put hm hlt)
        have HFIT := Lib.hid (show p % 256 + SR.length ≤ CS.size by rw [hcs, hsl0]; omega)
        have HSN := Lib.hid (show SR.length = Nat.min (d.length - t) (256 - p % 256) by rw [hsl0]; exact hm)
        have HSI := Lib.hid (show (SR.length : Int) = (m : Int) by rw [hsl0])
        have HS1 := Lib.hid (show ∀ v ∈ SR, v.oneCell' = true from fun v hv => bvs_one v (List.mem_of_mem_take (hSR ▸ hv)))
        have hgs := HS.out g hg
        have hgq := HSQ.out g hg
        have hsrc : ∀ j v, SR[j]? = some v → w.cell? ⟨g, o + j, none⟩ = some v := by
          intro j v hv
          rw [hSR, List.getElem?_take] at hv
          split at hv
          · obtain ⟨x, hx, rfl⟩ := bvs_get hv
            exact hl j x hx
          · cases hv
        have hsmall : m' < maxLen := by
          have := pc_small hmap (fun l v hl hv => by obtain ⟨i, h1, h2, _⟩ := hsay.1 l v hl hv; exact ⟨i, h1, h2⟩)
          unfold maxLen; omega
        obtain ⟨g5, hg5⟩ : ∃ g5, g5 = wr.heap.size := ⟨_, rfl⟩
        have hlx' := row_lt HXR.out
        have hqlt := hmap.lt
        have hwz := HKR.out.size
        have hg5' : g < g5 ∧ X < g5 ∧ q < g5 := by omega
        have HG5 := Lib.hid hg5
        have hoth : ∀ k, k < wr.heap.size → ((wr.alloc (.cells Tryz.zeroCells123 tPiece)).setRow wr.heap.size CS).heap[k]? = wr.heap[k]? := fun k hk => (setRow_other _ _ k _ (by omega)).trans (heap_alloc_old _ _ hk)
        have hp5 : ((wr.alloc (.cells Tryz.zeroCells123 tPiece)).setRow wr.heap.size CS).heap[wr.heap.size]? = some (.cells CS tPiece (0, 0)) := setRow_heap _ _ _ _ _ _ (heap_alloc_new wr _)
        have hk5 : Kept M w ((wr.alloc (.cells Tryz.zeroCells123 tPiece)).setRow wr.heap.size CS) := (HKR.out.alloc _).setRow (fun h => absurd h (Nat.not_lt_of_le HKR.out.size)) _
        rw [← hg5] at hoth hp5 hk5
        have HC1 := Lib.hid (show wr.cell? ⟨X, 1, none⟩ = some (.map (some q)) by rw [cell_of_row _ X 1 _ _ _ HXR.out]; rfl)
        have hc1 := HC1.out
        have HX5 := Lib.hid ((hoth X (by omega)).trans HXR.out)
        have HM5 := Lib.hid (hmap.keep (hoth q (by omega)))
        have HP5 := Lib.hid hp5
        have HK5 := Lib.hid hk5
        have HSRC := Lib.hid (show ∀ j v, SR[j]? = some v → ((wr.alloc (.cells Tryz.zeroCells123 tPiece)).setRow g5 CS).cell? ((⟨g, o, none⟩ : Addr).add j) = some v by
          intro j v hv
          rw [plainAdd]
          refine Eq.trans ?_ (hsrc j v hv)
          apply World.cell?_of_block
          show _ = w.heap[g]?
          exact (hoth g (by omega)).trans (HKR.out.block g hgs.2.2 (HSM.out g hg)))
        have HPC := Lib.hid hpc
        have HKEY := Lib.hid hkey
        have HSL := Lib.hid hsmall
        have HPP := Lib.hid hp
        have hw1 : p ≤ 4194304 := by omega
        have hm3 : m ≤ 256 := by omega
        have HLD := Lib.hid (LiesS.drop HLB.out (c := c - t) (by rw [List.length_drop]; omega) m)
        have hcap : d.length - t ≤ c - t := by omega
        clear hCS hNP hSR hpc hcs hns hsl0 hsrc hsmall hoth hp5 hk5 hkey hmap hsay hl hgs hm hm' hg HLB HPR hlx' hqlt hwz
        rw [← HPP.out]
        have hw2 : IntKind.i64.wrap ((p : Int) / 256) = (p : Int) / 256 := IntWalk.i64_in _ (by omega)
        have hw3 : IntKind.i64.wrap ((p : Int) % 256) = (p : Int) % 256 := IntWalk.i64_in _ (by omega)
        clear hp
        have hlt2 : 0 < d.length - t := by omega
        clear hg5
        go_upto_region 6 with (with_reducible refine wpList_store_row rfl tPiece (.tmp 8) (.tmp 43) rfl wr.heap.size CS rfl rfl tPiece _ (heap_alloc_new wr _) HI.out HO.out H1.out ?_)
        rw [← HG5.out]
        generalize (wr.alloc (.cells Tryz.zeroCells123 tPiece)).setRow g5 CS = w5 at *
        have hsl : ∀ w', (Instr.sliceAt tPiece (.pointer (some ⟨g5, 0, none⟩)) (some (.int .i64 ((p : Int) % 256))) none none).run Tryz.prog w' = .ok (.slice (some ⟨g5, p % 256, none⟩) (256 - p % 256) (256 - p % 256)) w' := by
          intro w'
          rw [run_sliceAt_array_l w' tPiece ⟨g5, 0, none⟩ pc_array .i64 ((p : Int) % 256) (by omega) (by rw [arr_piece]; omega)]
          rw [pc_elem_size, arr_piece]
          have e : ((p : Int) % 256).toNat = p % 256 := by omega
          have h2 : ¬ 256 = p % 256 := by omega
          simp only [Result.andThen, slicedAt, e, if_neg h2, plainAdd, Nat.mul_one, Nat.zero_add]
        have hgx : g5 ≠ X := by omega
        have HX6 := Lib.hid ((setRow_other w5 g5 X NP (by omega)).trans HX5.out)
        have HM6 := Lib.hid (show MapIs Tryz.prog tInt (w5.setRow g5 NP) q get' m' from HM5.out.keep (setRow_other _ _ _ _ (by omega)))
        have HP6 := Lib.hid (setRow_heap _ _ _ NP _ _ HP5.out)
        have HK6 := Lib.hid (show Kept M w (w5.setRow g5 NP) from HK5.out.setRow (fun h => absurd h (by have := HG5.out; have := HKR.out.size; omega)) _)
        clear hlk HI HO H1
        go_upto_region 7 with (with_reducible refine wpList_copy_named rfl (.tmp 45) (.tmp 46) 32 32 rfl 5 Tryz.underlying32 u8size g5 (p % 256) (256 - p % 256) (256 - p % 256) ⟨g, o, none⟩ (d.length - t) (c - t) rfl rfl CS tPiece HP5.out SR HSN.out HSRC.out HFIT.out HS1.out (m : Int) HSI.out NP HSPL.out ?_)
        clear HX5 HM5 HP5 HK5 HSN HSRC HFIT HS1 HSI HSPL hsl
        generalize w5.setRow g5 NP = w6 at *
        have hc6 : w6.cell? ⟨X, 1, none⟩ = some (.map (some q)) := by rw [cell_of_row _ X 1 _ _ _ HX6.out]; rfl
        have hld : (Instr.loadAt tPiece (.pointer (some ⟨g5, 0, none⟩))).run Tryz.prog { w6 with drawn := w6.drawn + 1 } = .ok (.agg NP) { w6 with drawn := w6.drawn + 1 } := by
          have := run_loadVar_row (P := Tryz.prog) { w6 with drawn := w6.drawn + 1 } g5 tPiece tPiece NP (0, 0) _ HP6.out pc_array rfl HI2.out
          simp only [Instr.loadAt, Instr.sureAddr, Sem.run_bind, Sem.run_pure, Result.andThen_ok, this]
        go_still_tail 6, (by kernel_rfl)
        refine still_load_row rfl tPiece (.tmp 8) rfl g5 rfl NP hld ?_
        refine wpStill_nil ?_
        change wpList _ _ _ _ _ w6.drew
        have HM7 := Lib.hid (show MapIs Tryz.prog tInt w6.drew q get' m' from HM6.out.keep rfl)
        have HX7 := Lib.hid (show w6.drew.heap[X]? = _ from HX6.out)
        have HK7 := Lib.hid (HK6.out.drew)
        clear hld hc6 hc1 HC1 HX6 HM6 HP6 HK6 HI2 HXR HKR
        generalize w6.drew = w7 at *
        go_upto_region 8 with (at_mapUpdate; refine wpList_put rfl (.tmp 51) (.tmp 52) (.tmp 53) tPM rfl tInt tPiece keyI Tryz.underlying97 q m' get' rfl HM7.out HSL.out _ _ _ rfl rfl HKEY.out ?_; intro w8 hm8 hturn)
        have HX8 := Lib.hid ((turned_other hturn (fun e => HQX.out e.symm)).trans HX7.out)
        have HK8 := Lib.hid (HK7.out.turned hturn HQM.out)
        have HM8 := Lib.hid hm8
        clear hm8 hturn HM7 HX7 HK7
        have hrf : ∀ w', (Instr.slice 32 (.slice (some ⟨g, o, none⟩) (d.length - t) (c - t)) (some (.int .i64 (m : Int))) none none).run Tryz.prog w' = .ok (.slice (cutA (some ⟨g, o, none⟩) (c - t) m) (d.length - t - m) (c - t - m)) w' := fun w' => run_from w' _ _ _ _ hm2
        have hw4 : IntKind.i64.wrap ((p : Int) + (m : Int)) = (p : Int) + (m : Int) := IntWalk.i64_in _ (by omega)
        go_quiet (fail)
        go_roundw
        case rel =>
         (repeat apply Exists.intro)
         refine ⟨?_, rfl⟩
         exact ⟨t + m, by omega, congrArg (Value.int .i64) (by have := HPP.out; omega), ⟨_, by rw [Nat.sub_sub, Nat.sub_sub], by have := HLD.out; rwa [List.drop_drop] at this⟩, HX8.out, ⟨_, _, HM8.out.keep rfl, HPC.out⟩, HK8.out.drewN _⟩
        case measure => show d.length - t - m < d.length - t; omega
      · have hte : d.length - t = 0 := by omega
        go_wp2
        go_end0
        have : t = d.length := by omega
        subst this
        exact ⟨rfl, q, HQ.out, by rw [← HML.out]; exact HXR.out, HEND.out q _ HPR.out, by have := HMD.out; subst this; exact HKR.out⟩
end Go.Proofs.YtnjifhbooikdbaaGreatDoor.Dk
