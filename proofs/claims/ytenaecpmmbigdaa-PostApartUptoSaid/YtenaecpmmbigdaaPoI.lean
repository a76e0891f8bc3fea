/- Package post's Take as a contract of a call. -/
import Derived.Test.YtenaecpmmbigdaaPoH
namespace Go.Proofs.Ytenaecpmmbigdaa.Po
open Go.RowKit Go.Maps By Mp

/-- What a Take comes to: the letter, the error, the post behind it. -/
def takeR (p : P8) (i : Int) : P8 × L8 × Int :=
  match (if i < 0 then none else p.l[i.toNat]?) with
  | none => (p, zeroL, 8)
  | some x => ({ p with l := p.l.eraseIdx i.toNat }, x, 0)
def TakePost (g : Nat) (r : P8 × L8 × Int) (S : Nat → Prop) (w : World) (e : Ending) (w' : World) : Prop :=
  ∃ A c, e = .returned (.tuple #[.int .i64 r.2.1.a, .int .i64 r.2.1.b, .slice A r.2.1.d.length c, .int .i64 r.2.2]) ∧ Lies w' w'.heap.size A r.2.1.d ∧ (∀ b, (Value.slice A r.2.1.d.length c).ownBlock = some b → w.heap.size ≤ b) ∧
    ∃ S', PostIs w' g r.1 S' ∧ (∀ b, S' b → S b ∨ w.heap.size ≤ b) ∧ Kept S w w'
theorem lies_far {w w1 : World} {B N n c : Nat} {A : Option Addr} {l : Bs} (h : Lies w B A l) (hN : ∀ b, (Value.slice A n c).ownBlock = some b → N ≤ b) (hk : ∀ b, N ≤ b → b < B → w1.heap[b]? = w.heap[b]?) : Lies w1 B A l := fun hn => by
  obtain ⟨g, o, rfl, hg, hc⟩ := h hn
  exact ⟨g, o, rfl, hg, fun j x hx => (World.cell?_of_block (hk g (hN g rfl) hg)).trans (hc j x hx)⟩
theorem erase_ok {p : P8} (h : p.Ok) (k : Nat) : P8.Ok { p with l := p.l.eraseIdx k } := by
  refine ⟨h.room, ?_, fun x hx => h.lets x (List.eraseIdx_subset hx), h.nodup, h.ends⟩
  have := List.length_eraseIdx_le p.l k
  have h2 := h.few
  show ((p.l.eraseIdx k).length : Int) ≤ p.room
  omega
set_option maxHeartbeats 1600000 in
theorem take_any (g : Nat) (p : P8) (S : Nat → Prop) (i : Int) (w : World) (h : PostIs w g p S) : Calls Try.prog 14 #[.pointer (some ⟨g, 0, none⟩), .int .i64 i] w (TakePost g (takeR p i) S w) := by
  have HP := Lib.hid h
  obtain ⟨r, hr⟩ : ∃ r, r = takeR p i := ⟨_, rfl⟩
  rw [← hr]
  unfold takeR at hr
  cases hx : (if i < 0 then none else p.l[i.toNat]?) with
  | none =>
    rw [hx] at hr
    have HL := Lib.hid (look_none g p S i w h (at_out hx))
    have HRES := Lib.hid (show r = (p, zeroL, 8) from hr)
    have hne : ((8 : Int) == 0) = false := rfl
    clear h hr hx
    go_enter Try.func14, Try.ntmps14
    go_wp2_with fail
    refine HL.out.mono ?_
    rintro e w1 ⟨A, c, rfl, hl, hf, hb⟩
    have HFIN := Lib.hid (show TakePost g r S w (.returned (.tuple #[.int .i64 zeroL.a, .int .i64 zeroL.b, .slice A zeroL.d.length c, .int .i64 8])) w1 by
      rw [HRES.out]; exact ⟨A, c, rfl, hl, hf, S, HP.out.below hb, fun b hb => .inl hb, Kept.of_below hb⟩)
    clear hl hf hb HL
    go_wp2
    refine bodyPost_ret (results_tmp4 rfl _ _ _) rfl ?_
    exact HFIN.out
  | some x =>
    rw [hx] at hr
    obtain ⟨k, rfl, hk⟩ := at_in hx
    have HL := Lib.hid (look_some g p S k x w h hk)
    have HRES := Lib.hid (show r = ({ p with l := p.l.eraseIdx k }, x, 0) from by rw [hr]; simp)
    obtain ⟨v, mb, h⟩ := h
    have hkl := (List.getElem?_eq_some_iff.1 hk).1
    obtain ⟨b, c, hv, -, -, -⟩ := h.letter hk
    subst hv
    obtain ⟨m, hm⟩ : ∃ m, p.l.length = m + 1 := ⟨p.l.length - 1, by omega⟩
    have hki : (k : Int) < 4096 := by have := h.ok.few; have := h.ok.room; omega
    have HA := Lib.hid h
    have HM := Lib.hid hm
    have HKL := Lib.hid hkl
    have HVG := Lib.hid h.vg
    have HMV := Lib.hid (show ∀ q : Nat, mb = some q → (Value.slice (some ⟨b, 0, none⟩) p.l.length c).ownBlock ≠ some q from fun q e => h.mv e)
    clear h hr hx hk hm hkl
    go_enter Try.func14, Try.ntmps14
    go_wp2_with fail
    refine HL.out.mono ?_
    rintro e w1 ⟨A, cd, rfl, hl, hf, hb⟩
    have h1 := HA.out.below hb
    obtain ⟨p0, -, -⟩ := h1.cells
    have HDE := Lib.hid (delete_any b c k m p.l.length p.l ((k : Int) + 1) w1 HM.out HM.out (by have := HM.out; have := HKL.out; omega) rfl h1.own)
    have H1 := Lib.hid h1
    have HLI := Lib.hid hl
    have HFR := Lib.hid hf
    have HB := Lib.hid hb
    clear h1 hl hf hb HL
    go_wp2_with fail
    refine HDE.out.mono ?_
    rintro e w2 ⟨rfl, ho, hk2⟩
    have hne : g ≠ b := fun e => HVG.out (by rw [e]; rfl)
    have hr2 := (hk2.block g H1.out.glt hne).trans H1.out.row
    have c0 : w2.cell? ⟨g, 0, none⟩ = some (.slice (some ⟨b, 0, none⟩) p.l.length c) := by rw [cell_of_row w2 g 0 _ _ _ hr2]; rfl
    have f0 : w2.frozen? ⟨g, 0, none⟩ = false := frozen_of_row w2 g 0 _ _ hr2
    have HFIN := Lib.hid (show TakePost g r S w (.returned (.tuple #[.int .i64 x.a, .int .i64 x.b, .slice A x.d.length cd, .int .i64 0])) (w2.setCell ⟨g, 0, none⟩ (.slice (some ⟨b, 0, none⟩) m c)) by
      rw [HRES.out]
      have hz2 := hk2.size
      have hzb := HB.out.size
      have hs : (w2.setCell ⟨g, 0, none⟩ (.slice (some ⟨b, 0, none⟩) m c)).heap.size = w2.heap.size := by simp [World.setCell]
      have hgo : ∀ q, q ≠ g → (w2.setCell ⟨g, 0, none⟩ (.slice (some ⟨b, 0, none⟩) m c)).heap[q]? = w2.heap[q]? := fun q hq => heap_setCell_other w2 ⟨g, 0, none⟩ q _ hq
      have hbl : b < w.heap.size := HA.out.lt b (HA.out.sv b rfl)
      have hgl : g < w.heap.size := HA.out.glt
      have hsame : ∀ q, q ≠ g → q ≠ b → q < w1.heap.size → (w2.setCell ⟨g, 0, none⟩ (.slice (some ⟨b, 0, none⟩) m c)).heap[q]? = w1.heap[q]? := fun q h1 h2 h3 => (hgo q h1).trans (hk2.block q h3 h2)
      refine ⟨A, cd, rfl, ?_, HFR.out, S, ⟨.slice (some ⟨b, 0, none⟩) m c, mb, ⟨?_, ?_, ?_, HA.out.sg, HA.out.sv, HA.out.sm, fun q hq => ?_, erase_ok HA.out.ok k⟩⟩, fun q hq => .inl hq, ⟨hk2.os.trans HB.out.os, hk2.tape.trans HB.out.tape, hk2.output.trans HB.out.output, by omega, fun q hq hn => ?_⟩⟩
      · rw [hs]
        exact (lies_far HLI.out HFR.out (fun q h1 h2 => hsame q (by omega) (by omega) h2)).more hz2
      · exact heap_setCell_same w2 g 0 _ _ _ hr2
      · have e : (p.l.eraseIdx k).length = m := by rw [List.length_eraseIdx_of_lt HKL.out, HM.out]; rfl
        show World.ownsRow _ 0 tLet 3 _ (p.l.eraseIdx k).length (lRow (p.l.eraseIdx k))
        rw [e]
        exact ownsRow_keep ho (fun q hq => hgo q (fun e2 => hne (by
          have hq : some b = some q := hq
          injection hq with hq
          rw [hq, e2])))
      · exact H1.out.map.keep (fun q hq => hsame q (fun e => H1.out.mg (by rw [hq, e])) (fun e => HMV.out q hq (by rw [e]; rfl)) (H1.out.lt q (H1.out.sm q hq)))
      · have := HA.out.lt q hq; omega
      · exact (hsame q (fun e => hn (e ▸ HA.out.sg)) (fun e => hn (e ▸ HA.out.sv b rfl)) (by omega)).trans (HB.out.block q hq))
    clear ho hk2 hr2 hne HDE
    go_wp2
    refine bodyPost_ret (results_tmp4 rfl _ _ _) rfl ?_
    exact HFIN.out
end Go.Proofs.Ytenaecpmmbigdaa.Po
