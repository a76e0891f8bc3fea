/- Package disk's files.clone, as a contract of a call: the walk. -/
import Derived.Test.YtjnmolpopjapnaaGreatDoorDkO
import Derived.Deep.RegionHeld3
namespace Go.Proofs.YtjnmolpopjapnaaGreatDoor.Dk
open Go.RowKit Go.Maps By Mp

abbrev tFiles : TypeId := 52
/-- Behind some rounds of the copying. -/
def CloneMid (q qn gb g0 r : Nat) (F : Fs) (pb : Bs → Option Nat) (w wr : World) : Prop := ∃ (left : Lit → Bool) (lc : Nat) (pb' : Bs → Option Nat), RangeIs Tryz.prog tStr wr q r (fsGet F pb) F.length left lc ∧ FilesAt wr (some qn) (doneF left F) pb' ∧ (∀ b, foot (some qn) (doneF left F) pb' b → w.heap.size ≤ b) ∧
  wr.heap[gb]? = some (.cells #[.map (some qn), .int .i64 (fsize F : Nat)] tFiles (0, 0)) ∧ wr.heap[g0]? = some (.cells #[.map none, .int .i64 0] tFiles (0, 0)) ∧ Below w.heap.size w wr
theorem emptyAt {w : World} {q : Nat} (h : MapIs Tryz.prog tStr w q (fun _ => none) 0) (pb : Bs → Option Nat) : FilesAt w (some q) [] pb :=
  ⟨fun e => (by cases e), fun q' e => by injection e with e; subst e; exact h.same (fun l hl => by cases l <;> rfl), fun n b h => (by cases h), fun n m b c q h => (by cases h), fun n b q h => (by cases h)⟩
theorem emptyFoot {q b : Nat} {pb : Bs → Option Nat} (h : foot (some q) [] pb b) : b = q := by
  rcases h with h | ⟨n, c, h, _⟩
  · injection h with h; exact h.symm
  · cases h
theorem foot_obj {w : World} {bm : Option Nat} {F : Fs} {pb : Bs → Option Nat} (h : FilesAt w bm F pb) {q : Nat} (hq : foot bm F pb q) : ∃ es c, w.heap[q]? = some (.map es c) := by
  rcases hq with hq | ⟨n, b, hn, hq⟩
  · obtain ⟨D, ⟨es, clock, hb, _⟩, _⟩ := h.map q hq
    exact ⟨_, _, hb⟩
  · have := h.file n b hn
    rw [hq] at this
    obtain ⟨get, m, ⟨D, ⟨es, clock, hb, _⟩, _⟩, _⟩ := this
    exact ⟨_, _, hb⟩
set_option maxRecDepth 100000 in
theorem keyName {n x : Bs} (h : keyOf Tryz.prog tStr (.string (str x)) = some (.string n)) : x = n := by
  obtain ⟨s, h1, h2, _⟩ := WideMaps.string_of_keyOf Tryz.underlying9 h
  injection h1 with h1
  injection h2 with h2
  rw [h2, ← h1]; rfl
theorem fsKey {F : Fs} {pb : Bs → Option Nat} {kl : Lit} {v : Value} (h : fsGet F pb kl = some v) : ∃ n b, kl = .string n ∧ fget F n = some b ∧ v = fileV b (pb n) := by
  cases kl with
  | string n =>
    simp only [fsGet, Option.map_eq_some_iff] at h
    obtain ⟨b, h1, h2⟩ := h
    exact ⟨n, b, rfl, h1, h2.symm⟩
  | _ => cases h
set_option maxRecDepth 100000 in
set_option maxHeartbeats 2000000 in
theorem fclone_some (g o q : Nat) (cs : Array Value) (T : TypeId) (F : Fs) (pb : Bs → Option Nat) (w : World) (hg : w.heap[g]? = some (.cells cs T (0, 0))) (hcs : filesC cs o (some q) (fsize F)) (hf : FilesAt w (some q) F pb) (hup : Up F) (hfit : Fit F) (hlen : F.length ≤ 68719476736) :
    Calls Tryz.prog 37 #[.pointer (some ⟨g, o, none⟩)] w (GivesFs F w) := by
  have hlg := row_lt hg
  have hc0 : w.cell? ⟨g, o, none⟩ = some (.map (some q)) := by rw [cell_of_row w g o _ _ _ hg]; exact hcs.1
  have hc1 : w.cell? ⟨g, o + 1, none⟩ = some (.int .i64 (fsize F : Nat)) := by rw [cell_of_row w g (o + 1) _ _ _ hg]; exact hcs.2
  have HF := Lib.hid hf
  have HUP := Lib.hid hup
  have HFIT := Lib.hid hfit
  have HG := Lib.hid hg
  have hlq := hf.lt (q := q) (.inl rfl)
  clear hf hup hfit hg hcs
  have hmm := @run_makeMap Tryz.prog
  go_enter Tryz.func37, Tryz.ntmps37
  go_upto_region 2 with fail
  clear hmm
  obtain ⟨w1, hw1⟩ : ∃ w1, w1 = ((w.alloc (.cells #[.map none, .int .i64 0] tFiles)).alloc (.map #[] 0)).alloc (.cells #[.map (some (w.heap.size + 1)), .int .i64 (fsize F : Nat)] tFiles) := ⟨_, rfl⟩
  have hb1 : Below w.heap.size w w1 := by
    rw [hw1]
    exact (((Below.refl _ _).alloc (Nat.le_refl _) _).alloc (by simp) _).alloc (by simp; omega) _
  have hr3 : w1.heap[w.heap.size + 1 + 1]? = some (.cells #[.map (some (w.heap.size + 1)), .int .i64 (fsize F : Nat)] tFiles (0, 0)) := by
    rw [hw1]
    have := heap_alloc_new ((w.alloc (.cells #[.map none, .int .i64 0] tFiles)).alloc (.map #[] 0)) (.cells #[.map (some (w.heap.size + 1)), .int .i64 (fsize F : Nat)] tFiles)
    simpa using this
  have hr2 : w1.heap[w.heap.size]? = some (.cells #[.map none, .int .i64 0] tFiles (0, 0)) := by
    rw [hw1, heap_alloc_old _ _ (by simp; omega), heap_alloc_old _ _ (by simp)]
    exact heap_alloc_new w _
  have hmq : MapIs Tryz.prog tStr w1 (w.heap.size + 1) (fun _ => none) 0 := by
    have h1 := MapIs.made (w.alloc (.cells #[.map none, .int .i64 0] tFiles)) Tryz.prog tStr
    rw [World.size_alloc] at h1
    refine h1.keep ?_
    rw [hw1, heap_alloc_old _ _ (by simp)]
  have hz1 : w1.heap.size = w.heap.size + 3 := by rw [hw1]; simp
  have hcg : w1.cell? ⟨g, o, none⟩ = some (.map (some q)) := (hb1.cell hlg).trans hc0
  rw [← hw1]
  clear hw1 hc0 hc1
  obtain ⟨qn, hqn⟩ : ∃ qn, qn = w.heap.size + 1 := ⟨_, rfl⟩
  obtain ⟨gb, hgb⟩ : ∃ gb, gb = w.heap.size + 1 + 1 := ⟨_, rfl⟩
  obtain ⟨g0, hg0⟩ : ∃ g0, g0 = w.heap.size := ⟨_, rfl⟩
  rw [← hgb] at hr3 ⊢
  rw [← hqn] at hr3 hmq ⊢
  rw [← hg0] at hr2 hz1 hqn hgb hlg hlq ⊢
  have HB1 := Lib.hid hb1
  have HR3 := Lib.hid hr3
  have HR2 := Lib.hid hr2
  have HMQ := Lib.hid hmq
  have HZ := Lib.hid hz1
  have HNM := Lib.hid (And.intro hqn (And.intro hgb hg0))
  have hmap := Lib.hid (((HF.out.map q rfl).keep (hb1.block q (by rw [← hg0]; exact hlq))) : MapIs Tryz.prog tStr w1 q (fsGet F pb) F.length)
  clear hb1 hr3 hr2 hmq hz1 hqn hgb hg0
  go_wp2_with (first
    | (at_range; refine wpList_range rfl _ tFM rfl tStr tFile keyS Tryz.underlying50 q F.length (fsGet F pb) rfl hmap.out ?_; intro w2 left lc hrg hl hg2 hs2)
    | go_in)
  go_frame
  have hst : CloneMid q qn gb g0 w1.heap.size F pb w w2 := by
    have hd : doneF left F = [] := done_none fun p hp => by rw [hl _ (by simp [WideAt.IsKeyLit])]; simp [fsGet, fget_mem HUP.out hp]
    have hz := HZ.out
    obtain ⟨e1, e2, e3⟩ := HNM.out
    refine ⟨left, lc, fun _ => none, hrg, ?_, ?_, ?_, ?_, ?_⟩
    · rw [hd]; exact emptyAt (HMQ.out.keep (hg2.block _ (by omega) (by simp))) _
    · rw [hd]; intro b hb; rw [emptyFoot hb]; omega
    · exact (hg2.block _ (by omega) (by simp)).trans HR3.out
    · exact (hg2.block _ (by omega) (by simp)).trans HR2.out
    · exact HB1.out.grown hg2 HB1.out.size (by simp)
  have hinv : ∀ key kl v, keyOf Tryz.prog tStr key = some kl → fsGet F pb kl = some v → ∃ (x : Bs) (c : Array Value), key = Value.string (str x) ∧ v = Value.agg c := by
    intro key kl v hk hgt
    obtain ⟨s, rfl, rfl, _⟩ := WideMaps.string_of_keyOf Tryz.underlying9 hk
    obtain ⟨n, b, _, _, rfl⟩ := fsKey hgt
    exact ⟨s.data.toList, _, rfl, rfl⟩
  have hzr : w1.heap.size = g0 + 3 := HZ.out
  obtain ⟨r, hr⟩ : ∃ r, r = w1.heap.size := ⟨_, rfl⟩
  rw [← hr] at hst hzr ⊢
  have HST := Lib.hid hst
  have HINV := Lib.hid hinv
  have HZR := Lib.hid hzr
  clear hst hinv hrg hl hg2 hs2 hr hzr HZ HR2 HR3 HMQ HB1 hmap hcg
  go_loopw [4] (fun _ wr => CloneMid q qn gb g0 r F pb w wr) (fun _ wr => wr.rangeLeft q r)
  case atStart => exact HST.out
  case round =>
    clear HST
    obtain ⟨left, lc, pb', hrg, hfd, hft, hrb, hr0, hbw⟩ := hrel
    have HR := Lib.hid hrg
    have HFD := Lib.hid hfd
    have HFT := Lib.hid hft
    have HRB := Lib.hid hrb
    have HR0 := Lib.hid hr0
    have HBW := Lib.hid hbw
    have HL0 := Lib.hid hrg.left_eq
    clear hrg hfd hft hrb hr0 hbw
    go_wp2_with (first
      | (at_next; refine wpList_next rfl _ rfl tStr keyS (fun n : Bs => Value.string (str n)) Value.agg q r F.length (fsGet F pb) _ _ rfl HR.out HINV.out ?_ ?_)
      | go_in)
    · intro hl0
      have hcb0 : wr.cell? ⟨gb, 0, none⟩ = some (.map (some qn)) := by rw [cell_of_row wr gb 0 _ _ _ HRB.out]; rfl
      have hcb1 : wr.cell? ⟨gb, 1, none⟩ = some (.int .i64 (fsize F : Nat)) := by rw [cell_of_row wr gb 1 _ _ _ HRB.out]; rfl
      have hc00 : wr.cell? ⟨g0, 0, none⟩ = some (.map none) := by rw [cell_of_row wr g0 0 _ _ _ HR0.out]; rfl
      have hc01 : wr.cell? ⟨g0, 1, none⟩ = some (.int .i64 0) := by rw [cell_of_row wr g0 1 _ _ _ HR0.out]; rfl
      have hf0 : wr.frozen? ⟨g0, 0, none⟩ = false := frozen_of_row wr g0 0 _ _ HR0.out
      have hf1 : wr.frozen? ⟨g0, 1, none⟩ = false := frozen_of_row wr g0 1 _ _ HR0.out
      have HDA := Lib.hid (done_all (F := F) hl0)
      clear hl0
      go_wp2
      have hrow := heap_setCell_same _ g0 1 _ _ (.int .i64 (fsize F : Nat)) (heap_setCell_same wr g0 0 _ _ (.map (some qn)) HR0.out)
      have hoth : ∀ b, b ≠ g0 → ((wr.setCell ⟨g0, 0, none⟩ (.map (some qn))).setCell ⟨g0, 1, none⟩ (.int .i64 (fsize F : Nat))).heap[b]? = wr.heap[b]? := fun b hb => (heap_setCell_other _ ⟨g0, 1, none⟩ b _ hb).trans (heap_setCell_other wr ⟨g0, 0, none⟩ b _ hb)
      refine bodyPost_ret (v := .agg #[.map (some qn), .int .i64 (fsize F : Nat)]) (results_cell_row rfl _ _ g0 tFiles #[.map (some qn), .int .i64 (fsize F : Nat)] (0, 0) _ rfl hrow Tryz.underlying52 rfl (by kernel_rfl)) rfl ?_
      have hfd := HFD.out
      have hft := HFT.out
      rw [HDA.out] at hfd hft
      obtain ⟨_, _, e3⟩ := HNM.out
      refine ⟨some qn, pb', rfl, hfd.keep (fun b hb => hoth b (fun e => foot_map hfd hb (e ▸ HR0.out))), hft, ?_⟩
      exact ⟨HBW.out.os, HBW.out.tape, HBW.out.output, by rw [size_setCell', size_setCell']; exact HBW.out.size, fun b hb => (hoth b (by omega)).trans (HBW.out.block b hb)⟩
    · intro x c kl w3 lc3 hkey hlk hget hrg3 hlt hgr hsz hen
      obtain ⟨n, b, rfl, hgt, hcv⟩ := fsKey hget
      obtain rfl := keyName hkey
      injection hcv with hcv
      subst hcv
      have HKEY := Lib.hid hkey
      have HLK := Lib.hid hlk
      have HGT := Lib.hid hgt
      have HRG3 := Lib.hid hrg3
      have HLT := Lib.hid hlt
      have HGR := Lib.hid hgr
      have HSZ := Lib.hid hsz
      clear hkey hlk hgt hget hrg3 hlt hgr hsz
      obtain ⟨w4, hw4⟩ : ∃ w4, w4 = w3.alloc (.cells #[.int .i64 (b.length : Nat), .map (pb x)] tFile) := ⟨_, rfl⟩
      obtain ⟨g5, hg5⟩ : ∃ g5, g5 = w3.heap.size := ⟨_, rfl⟩
      have hz3 : w3.heap.size = wr.heap.size := HSZ.out
      have hzb := HBW.out.size
      obtain ⟨e1, e2, e3⟩ := HNM.out
      have hrl := HRG3.out.lt
      have hqn := (HFD.out.map qn rfl).lt
      have hgbl := row_lt HRB.out
      have hg0l := row_lt HR0.out
      have hr3 : ∀ k, k < wr.heap.size → k ≠ r → w4.heap[k]? = wr.heap[k]? := fun k hk hne => by
        rw [hw4, heap_alloc_old _ _ (by omega)]
        exact HGR.out.block k hk (fun e => hne (Option.some.inj e))
      have hzr := HZR.out
      have hb4 : Below w.heap.size w w4 := by
        rw [hw4]
        exact (HBW.out.grown HGR.out HBW.out.size (fun k e => by have := Option.some.inj e; omega)).alloc (by omega) _
      have hx4 : w4.heap[g5]? = some (.cells #[.int .i64 (b.length : Nat), .map (pb x)] tFile (0, 0)) := by rw [hw4, hg5]; exact heap_alloc_new w3 _
      have hrb4 := (hr3 gb hgbl (by omega)).trans HRB.out
      have hr04 := (hr3 g0 hg0l (by omega)).trans HR0.out
      have hrr4 : RangeIs Tryz.prog tStr w4 q r (fsGet F pb) F.length (fun z => left z && !z.sameKey (.string x)) lc3 := HRG3.out.kept (by rw [hw4, heap_alloc_old _ _ (by omega)]) (by rw [hw4, heap_alloc_old _ _ hrl])
      have hfr : ∀ b, foot (some qn) (doneF left F) pb' b → b ≠ r := fun b hb e => by
        obtain ⟨D, ⟨es, clock, since, seen, c0, k1, k2, k3, k4, k5, k6⟩, k7⟩ := HR.out
        obtain ⟨es', c', ho⟩ := foot_obj HFD.out hb
        rw [e, k5] at ho
        cases ho
      have hfd4 : FilesAt w4 (some qn) (doneF left F) pb' := HFD.out.keep (fun k hk => hr3 k (HFD.out.lt hk) (hfr k hk))
      have hfa4 : FileAt w4 (pb x) b := (HF.out.file x b HGT.out).keep (fun k hk => hb4.block k (HF.out.lt (.inr ⟨x, b, HGT.out, hk⟩)))
      have hz4 : w4.heap.size = g5 + 1 := by rw [hw4, hg5]; simp
      have hcl : ∀ w', Below w4.heap.size w4 w' → Calls Tryz.prog 63 #[.map (pb x)] w' (GivesM b w') := fun w' hb => pclone_any (pb x) b w' (hfa4.keep (fun k hk => hb.block k (by rw [hk] at hfa4; exact FileAt.lt hfa4)))
      have hmm : ∀ w', Below w4.heap.size w4 w' → MapIs Tryz.prog tStr w' qn (fsGet (doneF left F) pb') (doneF left F).length := fun w' hb => (hfd4.map qn rfl).keep (hb.block qn (hfd4.map qn rfl).lt)
      have hall : ∀ w', Kept (fun k => k = qn) w4 w' → w'.cell? ⟨gb, 0, none⟩ = some (.map (some qn)) ∧ w'.cell? ⟨g5, 0, none⟩ = some (.int .i64 (b.length : Nat)) ∧ w'.cell? ⟨g5, 1, none⟩ = some (.map (pb x)) := fun w' hb => by
        have h1 := (hb.block gb (by omega) (by omega)).trans hrb4
        have h2 := (hb.block g5 (by omega) (by omega)).trans hx4
        exact ⟨by rw [cell_of_row w' gb 0 _ _ _ h1]; rfl, by rw [cell_of_row w' g5 0 _ _ _ h2]; rfl, by rw [cell_of_row w' g5 1 _ _ _ h2]; rfl⟩
      have hsm : (doneF left F).length < maxLen := by have := done_len left F; unfold maxLen; omega
      have HALL := Lib.hid hall
      have HCL := Lib.hid hcl
      have HMM := Lib.hid hmm
      have HSM := Lib.hid hsm
      have HX4 := Lib.hid hx4
      have HRB4 := Lib.hid hrb4
      have HR04 := Lib.hid hr04
      have HRR4 := Lib.hid hrr4
      have HFD4 := Lib.hid hfd4
      have HB4 := Lib.hid hb4
      have HZ4 := Lib.hid hz4
      have HW4 := Lib.hid hw4
      have HG5 := Lib.hid hg5
      have HE := Lib.hid (And.intro e1 (And.intro e2 e3))
      clear hall hcl hmm hsm hx4 hrb4 hr04 hrr4 hfd4 hb4 hz4 hw4 hg5 hfa4 hfr hr3 hz3 hzb hrl hqn hgbl hg0l hzr e1 e2 e3
      go_upto_region 5 with fail
      rw [← HG5.out]
      rw [← HW4.out]
      clear HW4 HG5 hen
      have HBD := Lib.hid (show Below w4.heap.size w4 w4.drew from (Below.refl _ _).drew)
      go_region_held3 (fun w' => w'.cell? ⟨gb, 0, none⟩ = some (.map (some qn)) ∧ w'.cell? ⟨g5, 0, none⟩ = some (.int .i64 (b.length : Nat)) ∧ w'.cell? ⟨g5, 1, none⟩ = some (.map (pb x)))
        (first
          | assumption
          | exact HALL.out _ (Kept.of_below HBD.out)
          | exact HALL.out _ (Kept.of_below HB5.out)
          | exact HALL.out _ HK6.out)
        (first
          | (go_at_call 63; refine (HCL.out _ HBD.out).mono ?_; rintro e w5 ⟨mb, rfl, hfm, hge, hb5⟩
             have HB5 := Lib.hid (By.ext HBD.out hb5)
             have HFM := Lib.hid hfm
             have HGE := Lib.hid hge
             obtain ⟨w6, hrun, hm6, ht6⟩ := (HMM.out _ HB5.out).put (t := tFM) (e := tFile) keyS Tryz.underlying50 HSM.out (val := .agg #[.int .i64 (b.length : Nat), .map mb]) HKEY.out
             have HK6 := Lib.hid (show Kept (fun k => k = qn) w4 w6 from (Kept.of_below HB5.out).turned ht6 (fun _ => rfl))
             have HM6 := Lib.hid hm6
             have HT6 := Lib.hid ht6
             clear hfm hge hb5 hm6 ht6))
      have hge4 := HZ4.out
      obtain ⟨e1, e2, e3⟩ := HE.out
      have hz4w : w.heap.size ≤ w4.heap.size := HB4.out.size
      have hq4 := (HFD4.out.map qn rfl).lt
      have hge : ∀ k, mb = some k → w4.heap.size ≤ k := HGE.out
      have hgbl := row_lt HRB4.out
      have hg0l := row_lt HR04.out
      have hrl := HRR4.out.lt
      have hzr := HZR.out
      have hk6 : ∀ k, k < w4.heap.size → k ≠ qn → w6.heap[k]? = w4.heap[k]? := fun k hk hne => HK6.out.block k hk hne
      have hput := files_put (w := w4) (w6 := w6) (name := x) (nb := b) (pm' := mb) (qm := qn) HFD4.out (HUP.out.done left)
        (fun n c k hn hc hp => hk6 k (HFD4.out.lt (.inr ⟨n, c, hc, hp⟩)) (fun e => HFD4.out.own n c k hc hp (by rw [e])))
        (HFM.out.keep (fun k hk => turned_other HT6.out (by have := hge k hk; omega)))
        (by have h := HM6.out; simp only [fsGet, Option.isSome_map] at h; exact h)
        (fun k hk => .inr (hge k hk)) (.inl rfl)
      rw [← done_step HUP.out HGT.out] at hput
      have hkr : RangeIs Tryz.prog tStr w6 q r (fsGet F pb) F.length (fun z => left z && !z.sameKey (.string x)) lc3 := HRR4.out.kept (hk6 q (by omega) (by omega)) (hk6 r hrl (by omega))
      go_roundw
      case rel =>
        (repeat apply Exists.intro)
        refine ⟨?_, rfl⟩
        refine ⟨_, lc3, _, hkr, hput.1, fun k hk => ?_, (hk6 gb hgbl (by omega)).trans HRB4.out, (hk6 g0 hg0l (by omega)).trans HR04.out, ?_⟩
        · rcases hput.2 k hk with h | h
          · exact HFT.out k h
          · omega
        · exact ⟨HK6.out.os.trans HB4.out.os, HK6.out.tape.trans HB4.out.tape, HK6.out.output.trans HB4.out.output, Nat.le_trans hz4w HK6.out.size, fun k hk => (hk6 k (by omega) (by omega)).trans (HB4.out.block k hk)⟩
      case measure => rw [hkr.left_eq, HL0.out]; exact HLT.out
end Go.Proofs.YtjnmolpopjapnaaGreatDoor.Dk
