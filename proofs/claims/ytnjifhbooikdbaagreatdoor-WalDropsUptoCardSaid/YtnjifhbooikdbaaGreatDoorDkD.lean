/- Package disk's cut of a file, as a contract of a call. -/
import Derived.Test.YtnjifhbooikdbaaGreatDoorDkC
import Derived.Test.YtnjifhbooikdbaaGreatDoorEA
namespace Go.Proofs.YtnjifhbooikdbaaGreatDoor.Dk
open Go.RowKit Go.Maps By Mp

def bigK (n : Nat) : Lit → Bool
  | .int _ z => decide ((n : Int) ≤ z * 256)
  | _ => false
/-- What a map of pieces answers while those behind n go. -/
def cutting (get : Lit → Option Value) (left : Lit → Bool) (n : Nat) (get' : Lit → Option Value) : Prop := ∀ l, WideAt.IsKeyLit l → get' l = if bigK n l = true ∧ left l = false then none else get l
theorem cutting_start {get : Lit → Option Value} {left : Lit → Bool} (n : Nat) (h : ∀ l, WideAt.IsKeyLit l → left l = (get l).isSome) : cutting get left n get := by
  intro l hl
  by_cases hc : bigK n l = true ∧ left l = false
  · rw [if_pos hc]
    have := hc.2
    rw [h l hl] at this
    cases hg : get l with
    | none => rfl
    | some v => rw [hg] at this; cases this
  · rw [if_neg hc]
theorem cutting_del {get get' : Lit → Option Value} {left : Lit → Bool} {n i : Nat} (h : cutting get left n get') (hb : (n : Int) ≤ (i : Int) * 256) : cutting get (fun z => (left z && !z.sameKey (pkey i)) && !z.sameKey (pkey i)) n (upd get' (pkey i) none) := by
  intro l hl
  unfold upd
  by_cases hs : l.sameKey (pkey i) = true
  · have := WideAt.sameKey_eq hs
    subst this
    rw [if_pos hs, if_pos]
    simp [bigK, pkey, hb]
    simpa [pkey] using fun _ => hs
  · have hs' : l.sameKey (pkey i) = false := by simpa using hs
    rw [if_neg hs, h l hl]
    simp only [hs', Bool.not_false, Bool.and_true]
theorem cutting_keep {get get' : Lit → Option Value} {left : Lit → Bool} {n i : Nat} (h : cutting get left n get') (hb : ¬ (n : Int) ≤ (i : Int) * 256) : cutting get (fun z => left z && !z.sameKey (pkey i)) n get' := by
  intro l hl
  rw [h l hl]
  by_cases hs : l.sameKey (pkey i) = true
  · have := WideAt.sameKey_eq hs
    subst this
    have : bigK n (pkey i) = false := by simp [bigK, pkey]; omega
    rw [this]
    simp
  · have hs' : l.sameKey (pkey i) = false := by simpa using hs
    simp only [hs', Bool.not_false, Bool.and_true]
/-- The pieces, cut. -/
theorem cutting_end {get get' : Lit → Option Value} {f : Nat → UInt8} {L n : Nat} (hs : PcSays get f L) {left : Lit → Bool} (hl : ∀ l, left l = false) (h : cutting get left n get') : 
    (∀ l v, WideAt.IsKeyLit l → get' l = some v → ∃ i : Nat, l = pkey i ∧ 256 * i < n ∧ v = .agg (pieceF f i).toArray) ∧ ∀ i, 256 * i < n → get' (pkey i) = none → ∀ j, j < 256 → f (256 * i + j) = 0 := by
  constructor
  · intro l v hk hv
    rw [h l hk] at hv
    split at hv
    · cases hv
    · rename_i hc
      obtain ⟨i, rfl, hi, rfl⟩ := hs.1 l v hk hv
      refine ⟨i, rfl, ?_, rfl⟩
      have : ¬ bigK n (pkey i) = true := fun e => hc ⟨e, hl _⟩
      simp [bigK, pkey] at this
      omega
  · intro i hi hv j hj
    rw [h (pkey i) (by simp [pkey, WideAt.IsKeyLit])] at hv
    have hb : ¬ (bigK n (pkey i) = true ∧ left (pkey i) = false) := by
      rintro ⟨e, _⟩
      simp [bigK, pkey] at e
      omega
    rw [if_neg hb] at hv
    exact hs.2 i hv j hj
def cutF (f : Nat → UInt8) (n : Nat) : Nat → UInt8 := fun j => if j < n then f j else 0
theorem pieceF_cut {f : Nat → UInt8} {n i : Nat} (h : 256 * i + 256 ≤ n) : pieceF (cutF f n) i = pieceF f i := pieceF_congr fun j hj => by unfold cutF; rw [if_pos (by omega)]
/-- The piece in which the end is, cleared behind it. -/
theorem piece_clear {f : Nat → UInt8} {n : Nat} (hm : n % 256 < 256) : splice (pieceF f (n / 256)) (n % 256) (List.replicate (256 - n % 256) (.int .u8 0)) = pieceF (cutF f n) (n / 256) := by
  apply List.ext_getElem?
  intro j
  unfold splice
  have htl : ((pieceF f (n / 256)).take (n % 256)).length = n % 256 := by rw [List.length_take, pieceF_length]; omega
  by_cases h1 : j < n % 256
  · rw [List.getElem?_append_left (by omega), List.getElem?_take_of_lt h1, pieceF_get _ _ _ (by omega), pieceF_get _ _ _ (by omega)]
    unfold cutF
    rw [if_pos (by omega)]
  · rw [List.getElem?_append_right (by omega), htl]
    by_cases h2 : j < 256
    · rw [List.getElem?_append_left (by rw [List.length_replicate]; omega), List.getElem?_replicate, if_pos (by omega), pieceF_get _ _ _ h2]
      unfold cutF
      rw [if_neg (by omega)]
      rfl
    · rw [List.getElem?_append_right (by rw [List.length_replicate]; omega), List.getElem?_eq_none (by rw [List.length_drop, pieceF_length, List.length_replicate]; omega), List.getElem?_eq_none (by rw [pieceF_length]; omega)]
/-- Nothing stands in the piece in which the end is. -/
theorem pc_cut_none {get' : Lit → Option Value} {f : Nat → UInt8} {n : Nat} (h1 : ∀ l v, WideAt.IsKeyLit l → get' l = some v → ∃ i : Nat, l = pkey i ∧ 256 * i < n ∧ v = .agg (pieceF f i).toArray) (h2 : ∀ i, 256 * i < n → get' (pkey i) = none → ∀ j, j < 256 → f (256 * i + j) = 0)
    (hn : get' (pkey (n / 256)) = none) : PcSays get' (cutF f n) n := by
  constructor
  · intro l v hk hv
    obtain ⟨i, rfl, hi, rfl⟩ := h1 l v hk hv
    have hne : i ≠ n / 256 := fun e => by rw [e, hn] at hv; cases hv
    exact ⟨i, rfl, hi, by rw [pieceF_cut (by omega)]⟩
  · intro i hi j hj
    unfold cutF
    split
    · exact h2 i (by omega) hi j hj
    · rfl
theorem pc_cut_some {get' : Lit → Option Value} {f : Nat → UInt8} {n : Nat} (h1 : ∀ l v, WideAt.IsKeyLit l → get' l = some v → ∃ i : Nat, l = pkey i ∧ 256 * i < n ∧ v = .agg (pieceF f i).toArray) (h2 : ∀ i, 256 * i < n → get' (pkey i) = none → ∀ j, j < 256 → f (256 * i + j) = 0)
    {v : Value} (hn : get' (pkey (n / 256)) = some v) : PcSays (upd get' (pkey (n / 256)) (some (.agg (pieceF (cutF f n) (n / 256)).toArray))) (cutF f n) n := by
  constructor
  · intro l v hk hv
    unfold upd at hv
    split at hv
    · rename_i hs
      have := WideAt.sameKey_eq hs
      subst this
      injection hv with hv
      obtain ⟨i, hi, hi2, _⟩ := h1 _ _ hk hn
      injection hi with _ hi
      exact ⟨n / 256, rfl, by omega, hv.symm⟩
    · rename_i hs
      obtain ⟨i, rfl, hi, rfl⟩ := h1 l v hk hv
      have hne : i ≠ n / 256 := fun e => hs (by rw [pkey_same]; simp [e])
      exact ⟨i, rfl, hi, by rw [pieceF_cut (by omega)]⟩
  · intro i hi j hj
    unfold upd at hi
    split at hi
    · cases hi
    · unfold cutF
      split
      · exact h2 i (by omega) hi j hj
      · rfl
theorem pc_array : Tryz.prog.underlying tPiece = some (.array (Tryz.prog.arrayLen tPiece) (Tryz.prog.elem tPiece)) := by kernel_rfl
theorem pc_elem_size (w : World) : (sizeOf (Tryz.prog.elem tPiece)).run Tryz.prog w = .ok 1 w := by kernel_rfl
theorem zero_u8 (w : World) : (zeroValue 5).run Tryz.prog w = .ok (.int .u8 0) w := by kernel_rfl
/-- A call that gives nothing, and what it leaves. -/
def Does (P : World → Prop) (e : Ending) (w' : World) : Prop := e = .returned (.tuple #[]) ∧ P w'
set_option maxRecDepth 100000 in
set_option maxHeartbeats 1000000 in
theorem fcut_some (X q : Nat) (sz : Int) (f : Nat → UInt8) (L n : Nat) (w : World) (hx : w.heap[X]? = some (.cells #[.int .i64 sz, .map (some q)] tFile (0, 0))) (hL : L ≤ 4194304) (hn : n ≤ 4194304) (hf : PcAt w q f L) :
    Calls Tryz.prog 97 #[.pointer (some ⟨X, 0, none⟩), .int .i64 (n : Nat)] w (Does fun w' => w'.heap[X]? = some (.cells #[.int .i64 (n : Nat), .map (some q)] tFile (0, 0)) ∧ PcAt w' q (cutF f n) n ∧ Kept (fun c => c = X ∨ c = q) w w') := by
  obtain ⟨get, cnt, hmap, hsay⟩ := hf
  have hc0 : w.cell? ⟨X, 0, none⟩ = some (.int .i64 sz) := by rw [cell_of_row w X 0 _ _ _ hx]; rfl
  have hf0 : w.frozen? ⟨X, 0, none⟩ = false := frozen_of_row w X 0 _ _ hx
  have hlx := row_lt hx
  have hlq := hmap.lt
  have hqx : q ≠ X := by
    rintro rfl
    obtain ⟨D, ⟨es, clock, hb, _⟩, _⟩ := hmap
    rw [hx] at hb
    cases hb
  have hx1 := heap_setCell_same w X 0 _ _ (.int .i64 (n : Nat)) hx
  have hx1' : (w.setCell ⟨X, 0, none⟩ (.int .i64 (n : Nat))).heap[X]? = some (.cells #[.int .i64 (n : Nat), .map (some q)] tFile (0, 0)) := hx1
  have hm1 : MapIs Tryz.prog tInt (w.setCell ⟨X, 0, none⟩ (.int .i64 (n : Nat))) q get cnt := hmap.keep (heap_setCell_other w ⟨X, 0, none⟩ q _ hqx)
  have hk1 : Kept (fun c => c = X ∨ c = q) w (w.setCell ⟨X, 0, none⟩ (.int .i64 (n : Nat))) := (Kept.refl _ _).setCell (fun _ => .inl rfl) _
  have hz1 := size_setCell' w ⟨X, 0, none⟩ (.int .i64 (n : Nat))
  have hc1 : (w.setCell ⟨X, 0, none⟩ (.int .i64 (n : Nat))).cell? ⟨X, 1, none⟩ = some (.map (some q)) := by rw [cell_of_row _ X 1 _ _ _ hx1']; rfl
  have HS := Lib.hid hsay
  have HM := Lib.hid hm1
  have HX := Lib.hid hx1'
  have HK := Lib.hid hk1
  have HZ := Lib.hid hz1
  have HQX := Lib.hid hqx
  clear hsay hmap hm1 hx1' hx1 hk1 hz1 hx hqx
  go_enter Tryz.func97, Tryz.ntmps97
  go_wp2_with (first
    | (at_range; refine wpList_range rfl _ tPM rfl tInt tPiece keyI Tryz.underlying97 q cnt get rfl HM.out ?_; intro w2 left lc hrg hl hg2 hs2)
    | go_in)
  go_frame
  have hinv : ∀ get', cutting get left n get' → True := fun _ _ => trivial
  clear hinv
  have hx2 : w2.heap[X]? = some (.cells #[.int .i64 (n : Nat), .map (some q)] tFile (0, 0)) := (hg2.block X (row_lt HX.out) (by simp)).trans HX.out
  have hk2 : Kept (fun c => c = X ∨ c = q) w w2 := HK.out.step (Kept.of_grown (M := fun _ => False) hg2 (by simp)) (fun _ _ e => e.elim)
  have hct := cutting_start n hl
  have hzr := HZ.out
  generalize (w.setCell ⟨X, 0, none⟩ (.int .i64 (n : Nat))).heap.size = r at *
  have HRG := Lib.hid hrg
  have HX2 := Lib.hid hx2
  have HK2 := Lib.hid hk2
  have HCT := Lib.hid hct
  have HZR := Lib.hid hzr
  clear hrg hx2 hk2 hct hl hg2 hs2 HM HK HX HZ hc0 hf0 hc1 hzr
  go_loopw [4] (fun _ wr => ∃ (left : Lit → Bool) (lc : Nat) (get' : Lit → Option Value) (m : Nat), RangeIs Tryz.prog tInt wr q r get' m left lc ∧ cutting get left n get' ∧ wr.heap[X]? = some (.cells #[.int .i64 (n : Nat), .map (some q)] tFile (0, 0)) ∧ Kept (fun c => c = X ∨ c = q) w wr)
    (fun _ wr => wr.rangeLeft q r)
  case atStart => exact ⟨left, lc, get, cnt, HRG.out, HCT.out, HX2.out, HK2.out⟩
  case round =>
    clear HRG HX2 HK2 HCT
    obtain ⟨left, lc, get', m, hrg, hct, hxr, hkr⟩ := hrel
    have hinv : ∀ key kl v, keyOf Tryz.prog tInt key = some kl → get' kl = some v → ∃ (x : Nat) (c : Array Value), key = Value.int .i64 (x : Int) ∧ v = Value.agg c := by
      intro key kl v hk hg
      obtain ⟨x, rfl, rfl, _⟩ := Maps.keyOf_int_inv Tryz.underlying3 hk
      rw [hct _ (by simp [WideAt.IsKeyLit])] at hg
      split at hg
      · cases hg
      · obtain ⟨i, he, _, rfl⟩ := HS.out.1 _ v (by simp [WideAt.IsKeyLit]) hg
        injection he with _ he
        exact ⟨i, _, by rw [he], rfl⟩
    have HINV := Lib.hid hinv
    have HG := Lib.hid hrg
    have HCT := Lib.hid hct
    have HXR := Lib.hid hxr
    have HKR := Lib.hid hkr
    have HL0 := Lib.hid hrg.left_eq
    clear hinv hrg hct hxr hkr
    go_wp2_with (first
      | (at_next; refine wpList_next rfl _ rfl tInt keyI (fun i : Nat => Value.int .i64 (i : Int)) Value.agg q r m get' _ _ rfl HG.out HINV.out ?_ ?_)
      | go_in)
    · intro hl0
      have hend := cutting_end HS.out hl0 HCT.out
      have hmap := HG.out.map
      have hkey : keyOf Tryz.prog tInt (.int .i64 ((n : Int) / 256)) = some (pkey (n / 256)) := by
        have := keyOf_int_mk (P := Tryz.prog) Tryz.underlying3 (a := ((n / 256 : Nat) : Int)) (by exact WalkArith.wf_i64 (by omega))
        rw [show ((n / 256 : Nat) : Int) = (n : Int) / 256 by omega] at this
        rw [this]
        unfold pkey
        rw [show ((n / 256 : Nat) : Int) = (n : Int) / 256 by omega]
      have hlook := fun w' (e : w' = wr) => e ▸ hmap.look keyI Tryz.underlying97 (zero_piece wr) hkey true
      have hlk := hlook wr rfl
      clear hlook
      have hc1 : wr.cell? ⟨X, 1, none⟩ = some (.map (some q)) := by rw [cell_of_row _ X 1 _ _ _ HXR.out]; rfl
      have hlx' := row_lt HXR.out
      have hqlt := hmap.lt
      obtain ⟨g5, hg5⟩ : ∃ g5, g5 = wr.heap.size := ⟨_, rfl⟩
      have HG5 := Lib.hid hg5
      cases hgt : get' (pkey (n / 256)) with
      | none =>
        have hpc := pc_cut_none hend.1 hend.2 hgt
        rw [hgt] at hlk
        simp only [if_true, Option.getD_none, Option.isSome_none] at hlk
        obtain ⟨z, hz⟩ : ∃ z, z = zeroP := ⟨_, rfl⟩
        rw [← hz] at hlk
        have HI := Lib.hid (show (Tryz.prog.info? tPiece).map (·.size) = some z.size by rw [hz, zeroP_size]; exact info_piece)
        have HO := Lib.hid (show Tryz.zeroCells123.size = z.size by rw [hz, zeroP_size]; exact zc_size)
        have H1 := Lib.hid (show z.all (·.oneCell') = true by rw [hz]; exact zeroP_one)
        have hfin : Does (fun w' => w'.heap[X]? = some (.cells #[.int .i64 (n : Nat), .map (some q)] tFile (0, 0)) ∧ PcAt w' q (cutF f n) n ∧ Kept (fun c => c = X ∨ c = q) w w') (.returned (.tuple #[])) ((wr.alloc (.cells Tryz.zeroCells123 tPiece)).setRow wr.heap.size z) := by
          have hoth : ∀ k, k < wr.heap.size → ((wr.alloc (.cells Tryz.zeroCells123 tPiece)).setRow wr.heap.size z).heap[k]? = wr.heap[k]? := fun k hk => (setRow_other _ _ k _ (by omega)).trans (heap_alloc_old _ _ hk)
          exact ⟨rfl, (hoth X hlx').trans HXR.out, ⟨get', m, hmap.keep (hoth q hqlt), hpc⟩, (HKR.out.alloc _).setRow (fun h => absurd h (Nat.not_lt_of_le HKR.out.size)) _⟩
        have HFIN := Lib.hid hfin
        clear hfin hz hpc hend hgt hkey hmap hg5
        go_wp2_with (with_reducible refine wpList_store_row rfl tPiece (.tmp 5) (.tmp 37) rfl wr.heap.size z rfl rfl tPiece _ (heap_alloc_new wr _) HI.out HO.out H1.out ?_)
        go_end0
        exact HFIN.out
      | some v =>
        obtain ⟨i0, hi0, hi1, hv⟩ := hend.1 _ v (by simp [pkey, WideAt.IsKeyLit]) hgt
        have hii : n / 256 = i0 := by
          injection hi0 with _ hi0
          omega
        subst hii
        have hpc := pc_cut_some hend.1 hend.2 hgt
        obtain ⟨CS, hCS⟩ : ∃ CS, CS = (pieceF f (n / 256)).toArray := ⟨_, rfl⟩
        obtain ⟨NP, hNP⟩ : ∃ NP, NP = (pieceF (cutF f n) (n / 256)).toArray := ⟨_, rfl⟩
        rw [← hNP] at hpc
        rw [← hCS] at hv
        subst hv
        rw [hgt] at hlk
        simp only [if_true, Option.getD_some, Option.isSome_some] at hlk
        have hcs : CS.size = 256 := by rw [hCS, List.size_toArray, pieceF_length]
        have hns : NP.size = 256 := by rw [hNP, List.size_toArray, pieceF_length]
        have HI := Lib.hid (show (Tryz.prog.info? tPiece).map (·.size) = some CS.size by rw [hcs]; exact info_piece)
        have HI2 := Lib.hid (show (Tryz.prog.info? tPiece).map (·.size) = some NP.size by rw [hns]; exact info_piece)
        have HO := Lib.hid (show Tryz.zeroCells123.size = CS.size by rw [hcs]; exact zc_size)
        have H1 := Lib.hid (show CS.all (·.oneCell') = true by rw [hCS]; exact pieceF_one _ _)
        have HSPL := Lib.hid (show splice CS.toList (n % 256) (List.replicate (256 - n % 256) (.int .u8 0)) = NP.toList by rw [hCS, hNP]; exact piece_clear (Nat.mod_lt _ (by omega)))
        have HFIT := Lib.hid (show n % 256 + (256 - n % 256) ≤ CS.size by rw [hcs]; have := Nat.mod_lt n (show 256 > 0 by omega); omega)
        have hpos : 0 < 256 - n % 256 := by have := Nat.mod_lt n (show 256 > 0 by omega); omega
        have HPOS := Lib.hid hpos
        have hsmall : m < maxLen := by
          have := pc_small hmap (fun l v hl hv => by obtain ⟨i, h1, h2, _⟩ := hend.1 l v hl hv; exact ⟨i, h1, h2⟩)
          unfold maxLen; omega
        have HSM := Lib.hid hsmall
        have HPC := Lib.hid hpc
        have HKEY := Lib.hid hkey
        have HMAP := Lib.hid hmap
        have HX6 := Lib.hid (show ((wr.alloc (.cells Tryz.zeroCells123 tPiece)).setRow wr.heap.size CS).heap[wr.heap.size]? = some (.cells CS tPiece (0, 0)) from setRow_heap _ _ _ _ _ _ (heap_alloc_new wr _))
        have HOTH := Lib.hid (show ∀ k, k < wr.heap.size → ((wr.alloc (.cells Tryz.zeroCells123 tPiece)).setRow wr.heap.size CS).heap[k]? = wr.heap[k]? from fun k hk => (setRow_other _ _ k _ (by omega)).trans (heap_alloc_old _ _ hk))
        have HK6 := Lib.hid (show Kept (fun c => c = X ∨ c = q) w ((wr.alloc (.cells Tryz.zeroCells123 tPiece)).setRow wr.heap.size CS) from (HKR.out.alloc _).setRow (fun h => absurd h (Nat.not_lt_of_le HKR.out.size)) _)
        have hge := HKR.out.size
        clear hCS hNP hcs hns hpc hend hgt hkey hmap hpos hsmall hi0 hi1 hg5
        go_upto_region 8 with (with_reducible refine wpList_store_row rfl tPiece (.tmp 5) (.tmp 37) rfl wr.heap.size CS rfl rfl tPiece _ (heap_alloc_new wr _) HI.out HO.out H1.out ?_)
        rw [← HG5.out]
        have HX7 := Lib.hid (HG5.out ▸ HX6.out : ((wr.alloc (.cells Tryz.zeroCells123 tPiece)).setRow g5 CS).heap[g5]? = some (.cells CS tPiece (0, 0)))
        rw [← HG5.out] at HOTH HK6
        generalize (wr.alloc (.cells Tryz.zeroCells123 tPiece)).setRow g5 CS = w6 at *
        have hsl : ∀ w', (Instr.sliceAt tPiece (.pointer (some ⟨g5, 0, none⟩)) (some (.int .i64 ((n : Int) % 256))) none none).run Tryz.prog w' = .ok (.slice (some ⟨g5, n % 256, none⟩) (256 - n % 256) (256 - n % 256)) w' := by
          intro w'
          rw [run_sliceAt_array_l w' tPiece ⟨g5, 0, none⟩ pc_array .i64 ((n : Int) % 256) (by omega) (by rw [arr_piece]; omega)]
          rw [pc_elem_size, arr_piece]
          have e : ((n : Int) % 256).toNat = n % 256 := by omega
          have h2 : ¬ 256 = n % 256 := by have := HPOS.out; omega
          simp only [Result.andThen, slicedAt, e, if_neg h2, plainAdd, Nat.mul_one, Nat.zero_add]
        have hz6 := row_lt HX7.out
        have hge5 := HG5.out
        have hx6 := (HOTH.out X (HG5.out ▸ hlx')).trans HXR.out
        have hm6 := HMAP.out.keep (HOTH.out q (HG5.out ▸ hqlt))
        have hx7 : (w6.setRow g5 NP).heap[X]? = some (.cells #[.int .i64 (n : Nat), .map (some q)] tFile (0, 0)) := (setRow_other _ _ _ _ (by omega)).trans hx6
        have hm7 : MapIs Tryz.prog tInt (w6.setRow g5 NP) q get' m := hm6.keep (setRow_other _ _ _ _ (by omega))
        have hp7 : (w6.setRow g5 NP).heap[g5]? = some (.cells NP tPiece (0, 0)) := setRow_heap _ _ _ _ _ _ HX7.out
        have hk7 : Kept (fun c => c = X ∨ c = q) w (w6.setRow g5 NP) := HK6.out.setRow (fun h => absurd h (by have := HG5.out; omega)) _
        have HX8 := Lib.hid hx7
        have HM8 := Lib.hid hm7
        have HP8 := Lib.hid hp7
        have HK8 := Lib.hid hk7
        clear hx6 hm6 hx7 hm7 hp7 hk7 HK6 HOTH HI HO H1 HX6 hz6 HG HINV HL0 HXR HKR HMAP hlk hc1 hlx' hqlt hge HCT hge5
        go_upto_region 9 with (with_reducible refine wpList_clear rfl (.tmp 42) 32 5 rfl Tryz.underlying32 (.int .u8 0) (zero_u8 _) rfl rfl g5 (n % 256) (256 - n % 256) (256 - n % 256) rfl HPOS.out CS tPiece HX7.out HFIT.out NP HSPL.out ?_)
        clear HX7 HFIT HSPL hsl HPOS
        generalize w6.setRow g5 NP = w7 at *
        have hc1 : w7.cell? ⟨X, 1, none⟩ = some (.map (some q)) := by rw [cell_of_row _ X 1 _ _ _ HX8.out]; rfl
        have hld : (Instr.loadAt tPiece (.pointer (some ⟨g5, 0, none⟩))).run Tryz.prog { w7 with drawn := w7.drawn + 1 } = .ok (.agg NP) { w7 with drawn := w7.drawn + 1 } := by
          have := run_loadVar_row (P := Tryz.prog) { w7 with drawn := w7.drawn + 1 } g5 tPiece tPiece NP (0, 0) _ HP8.out pc_array rfl HI2.out
          simp only [Instr.loadAt, Instr.sureAddr, Sem.run_bind, Sem.run_pure, Result.andThen_ok, this]
        have hwr : IntKind.i64.wrap ((n : Int) / 256) = (n : Int) / 256 := IntWalk.i64_in _ (by omega)
        go_still_tail 7, (by kernel_rfl)
        refine still_load_row rfl tPiece (.tmp 5) rfl g5 rfl NP hld ?_
        refine wpStill_nil ?_
        change wpList _ _ _ _ _ w7.drew
        have HM9 := Lib.hid (show MapIs Tryz.prog tInt w7.drew q get' m from HM8.out.keep rfl)
        have HX9 := Lib.hid (show w7.drew.heap[X]? = _ from HX8.out)
        have HK9 := Lib.hid (HK8.out.drew)
        clear hld hc1 hwr HM8 HX8 HK8 HP8 HI2
        generalize w7.drew = w9 at *
        go_wp2_with (at_mapUpdate; refine wpList_put rfl (.tmp 46) (.tmp 48) (.tmp 49) tPM rfl tInt tPiece keyI Tryz.underlying97 q m get' rfl HM9.out HSM.out _ _ _ rfl rfl HKEY.out ?_; intro w10 hm10 hturn)
        go_end0
        exact ⟨rfl, (turned_other hturn (fun e => HQX.out e.symm)).trans HX9.out, ⟨_, _, hm10, HPC.out⟩, HK9.out.turned hturn (fun _ => .inr rfl)⟩
    · intro i c kl w3 lc3 hkey hlk hget hrg3 hlt hgr hsz hen
      have hgk : get kl = some (.agg c) := by
        have := HCT.out kl (keyI.key hkey)
        rw [hget] at this
        split at this
        · cases this
        · exact this.symm
      obtain ⟨i', hkl, hin, _⟩ := HS.out.1 _ _ (keyI.key hkey) hgk
      have hii : i = i' := by
        obtain ⟨x, e1, e2, _⟩ := Maps.keyOf_int_inv Tryz.underlying3 hkey
        rw [hkl] at e2
        injection e1 with _ e1
        injection e2 with _ e2
        omega
      subst hii
      subst hkl
      have hx3 : w3.heap[X]? = some (.cells #[.int .i64 (n : Nat), .map (some q)] tFile (0, 0)) := (hgr.block X (row_lt HXR.out) (fun e => by have := Option.some.inj e; have := HZR.out; omega)).trans HXR.out
      have hk3 : Kept (fun c => c = X ∨ c = q) w w3 := HKR.out.step (Kept.of_grown (M := fun c => c = r) hgr (fun k e _ => (Option.some.inj e).symm)) (fun k hk e => by have := HZR.out; omega)
      have hc1 : w3.cell? ⟨X, 1, none⟩ = some (.map (some q)) := by rw [cell_of_row _ X 1 _ _ _ hx3]; rfl
      have HKEY := Lib.hid hkey
      have HG3 := Lib.hid hrg3
      have HLT := Lib.hid hlt
      have HX3 := Lib.hid hx3
      have HK3 := Lib.hid hk3
      clear hkey hrg3 hlt hx3 hk3 hget hgk hlk hgr hsz HG HINV HXR HKR
      by_cases hbig : (n : Int) ≤ (i : Int) * 256
      · go_wp2_with (first
          | (at_delete; refine wpList_del_range rfl _ _ tPM tInt rfl tPiece keyI Tryz.underlying97 q r m get' _ lc3 rfl HG3.out _ _ rfl HKEY.out ?_; intro w4 m' lc4 hrg4 hle hturn; go_frame)
          | go_in)
        go_roundw
        case rel => exact ⟨_, lc4, _, m', hrg4, cutting_del HCT.out hbig, (turned_other hturn (fun e => HQX.out e.symm)).trans HX3.out, HK3.out.turned hturn (fun _ => .inr rfl)⟩
        case measure => rw [hrg4.left_eq, HL0.out]; have := HLT.out; omega
      · go_wp2
        go_roundw
        case rel => exact ⟨_, lc3, _, m, HG3.out, cutting_keep HCT.out hbig, HX3.out, HK3.out⟩
        case measure => rw [HG3.out.left_eq, HL0.out]; exact HLT.out
set_option maxRecDepth 100000 in
set_option maxHeartbeats 1000000 in
theorem fcut_none (X : Nat) (sz : Int) (n : Nat) (w : World) (hx : w.heap[X]? = some (.cells #[.int .i64 sz, .map none] tFile (0, 0))) (hn : n ≤ 4194304) :
    Calls Tryz.prog 97 #[.pointer (some ⟨X, 0, none⟩), .int .i64 (n : Nat)] w (Does fun w' => w'.heap[X]? = some (.cells #[.int .i64 (n : Nat), .map none] tFile (0, 0)) ∧ Kept (fun c => c = X) w w') := by
  have hc0 : w.cell? ⟨X, 0, none⟩ = some (.int .i64 sz) := by rw [cell_of_row w X 0 _ _ _ hx]; rfl
  have hf0 : w.frozen? ⟨X, 0, none⟩ = false := frozen_of_row w X 0 _ _ hx
  have hlx := row_lt hx
  have hx1 : (w.setCell ⟨X, 0, none⟩ (.int .i64 (n : Nat))).heap[X]? = some (.cells #[.int .i64 (n : Nat), .map none] tFile (0, 0)) := heap_setCell_same w X 0 _ _ (.int .i64 (n : Nat)) hx
  have hc1 : (w.setCell ⟨X, 0, none⟩ (.int .i64 (n : Nat))).cell? ⟨X, 1, none⟩ = some (.map none) := by rw [cell_of_row _ X 1 _ _ _ hx1]; rfl
  have hk1 : Kept (fun c => c = X) w (w.setCell ⟨X, 0, none⟩ (.int .i64 (n : Nat))) := (Kept.refl (fun c => c = X) w).setCell (p := ⟨X, 0, none⟩) (fun _ => rfl) _
  have hrg := run_range_nilMap (P := Tryz.prog) (w.setCell ⟨X, 0, none⟩ (.int .i64 (n : Nat))) tPM tInt tPiece Tryz.underlying97
  have hkey : keyOf Tryz.prog tInt (.int .i64 ((n : Int) / 256)) = some (pkey (n / 256)) := by
    have := keyOf_int_mk (P := Tryz.prog) Tryz.underlying3 (a := ((n / 256 : Nat) : Int)) (by exact WalkArith.wf_i64 (by omega))
    rw [show ((n / 256 : Nat) : Int) = (n : Int) / 256 by omega] at this
    rw [this]
    unfold pkey
    rw [show ((n / 256 : Nat) : Int) = (n : Int) / 256 by omega]
  obtain ⟨w1, hw1⟩ : ∃ w1, w1 = (w.setCell ⟨X, 0, none⟩ (.int .i64 (n : Nat))).alloc (.mapIter none 0 #[] 0) := ⟨_, rfl⟩
  have hnx : ∀ ty : TypeId, (Instr.next (.pointer (some ⟨(w.setCell ⟨X, 0, none⟩ (.int .i64 (n : Nat))).heap.size, 0, none⟩)) false ty).run Tryz.prog w1 = .ok (.tuple #[.bool false]) w1 := fun ty => by rw [hw1]; exact run_next_nilMap _ ty 0 0 #[]
  rw [← hw1] at hrg
  simp only [size_setCell'] at hrg hnx
  have hx2 : w1.heap[X]? = some (.cells #[.int .i64 (n : Nat), .map none] tFile (0, 0)) := by rw [hw1, heap_alloc_old _ _ (row_lt hx1)]; exact hx1
  have hc2 : w1.cell? ⟨X, 1, none⟩ = some (.map none) := by rw [cell_of_row _ X 1 _ _ _ hx2]; rfl
  have hk2 : Kept (fun c => c = X) w w1 := by rw [hw1]; exact hk1.alloc _
  have hlk := look_none (w := w1) keyI Tryz.underlying97 (zero_piece w1) hkey true
  simp only [if_true] at hlk
  obtain ⟨z, hz⟩ : ∃ z, z = zeroP := ⟨_, rfl⟩
  rw [← hz] at hlk
  have HI := Lib.hid (show (Tryz.prog.info? tPiece).map (·.size) = some z.size by rw [hz, zeroP_size]; exact info_piece)
  have HO := Lib.hid (show Tryz.zeroCells123.size = z.size by rw [hz, zeroP_size]; exact zc_size)
  have H1 := Lib.hid (show z.all (·.oneCell') = true by rw [hz]; exact zeroP_one)
  have hfin : Does (fun w' => w'.heap[X]? = some (.cells #[.int .i64 (n : Nat), .map none] tFile (0, 0)) ∧ Kept (fun c => c = X) w w') (.returned (.tuple #[])) ((w1.alloc (.cells Tryz.zeroCells123 tPiece)).setRow w1.heap.size z) :=
    ⟨rfl, ((setRow_other _ _ X _ (by have := row_lt hx2; omega)).trans (heap_alloc_old _ _ (row_lt hx2))).trans hx2, (hk2.alloc _).setRow (fun h => absurd h (Nat.not_lt_of_le hk2.size)) _⟩
  have HFIN := Lib.hid hfin
  clear hfin hz hkey hk1 hk2 hx hx1 hx2 hw1
  go_enter Tryz.func97, Tryz.ntmps97
  go_wp2
  refine wp_loop_rounds 1 ?_
  rw [rounds_succ]
  go_wp2_with (with_reducible refine wpList_store_row rfl tPiece (.tmp 5) (.tmp 37) rfl w1.heap.size z rfl rfl tPiece _ (heap_alloc_new w1 _) HI.out HO.out H1.out ?_)
  go_end0
  exact HFIN.out
/-- A file is cut. -/
theorem fcut_any (X : Nat) (mb : Option Nat) (sz : Int) (b : Bs) (n : Nat) (w : World) (hx : w.heap[X]? = some (.cells #[.int .i64 sz, .map mb] tFile (0, 0))) (hb : b.length ≤ 4194304) (hn : n ≤ 4194304) (hf : FileAt w mb b) :
    Calls Tryz.prog 97 #[.pointer (some ⟨X, 0, none⟩), .int .i64 (n : Nat)] w (Does fun w' => w'.heap[X]? = some (.cells #[.int .i64 ((cutB b n).length : Nat), .map mb] tFile (0, 0)) ∧ FileAt w' mb (cutB b n) ∧ Kept (fun c => c = X ∨ mb = some c) w w') := by
  cases mb with
  | none =>
    refine (fcut_none X sz n w hx hn).mono ?_
    rintro e w' ⟨rfl, h1, h2⟩
    refine ⟨rfl, by rw [cutB_length]; exact h1, ?_, h2.mono (fun c _ e => .inl e)⟩
    intro j
    rw [cutB_get]
    split
    · exact hf j
    · rfl
  | some q =>
    refine (fcut_some X q sz _ b.length n w hx hb hn hf).mono ?_
    rintro e w' ⟨rfl, h1, h2, h3⟩
    refine ⟨rfl, by rw [cutB_length]; exact h1, ?_, h3.mono (fun c _ e => e.imp id (fun e => by rw [e]))⟩
    refine PcAt.congr h2 (by rw [cutB_length]; exact Nat.le_refl _) (fun j => ?_)
    show cutF _ n j = _
    rw [cutB_get]
    rfl
end Go.Proofs.YtnjifhbooikdbaaGreatDoor.Dk
