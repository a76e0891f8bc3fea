/- The law WalBack returns true for every input whose bulk is within the given bound, and leaves its arguments as they were; with what its card ties: the listed package-level variables hold what their text lays. No condition beside the given statement's own. -/
import Derived.Test.YtjnmolpopjapnaaGreatDoorCards
import Derived.Test.YtjnmolpopjapnaaGreatDoorTie
import Derived.Test.YtjnmolpopjapnaaGreatDoorLaw
import Derived.Test.YtjnmolpopjapnaaGreatDoorWbc
import Derived.Test.YtjnmolpopjapnaaGreatDoorSl
import Derived.Test.YtjnmolpopjapnaaGreatDoorWaM
import Derived.JoinedCond
import Derived.Test.YtjnmolpopjapnaaGreatDoorGD
namespace Go.Proofs.YtjnmolpopjapnaaGreatDoor.walBack
open Go.ChangeShapes Go.WideShapes Go.ChangeAt Go.RowKit
theorem own : ownKnob Tryz.prog.godebug = none := by kernel_rfl
theorem laidOut : laidOutB Tryz.prog = true := by kernel_rfl
set_option maxRecDepth 100000 in
theorem contract (H : Type) (enc : TypeId × Value → H) (W : World) (base : Nat) (args : Array Value) (ds gs : List (DataW H)) (before : List MemPlace)
    (hval0 : ∀ (j : Nat) t v, Tryz.f3.params[j]? = some t → args[j]? = some v → Value.okWide Tryz.prog W .any base t v)
    (hW : DataW.Whole enc Tryz.prog Tryz.f3.params.toList Rows.walBackSpec.vars false W args.toList ds gs before) (hk : Rows.uptoSmall H (ds ++ gs) = true) :
    Calls Tryz.prog 3 args W fun e W' => ∃ v, e = .returned v ∧ Rows.walBackSpec.post enc Tryz.prog Tryz.f3 false true false false W args v W' := by
  have hval : ∀ (j : Nat) t v, Tryz.f3.params[j]? = some t → args[j]? = some v → Value.okWide Tryz.prog W .any base t v := hval0
  have hW' := hW
  obtain ⟨p, q, hA0, hV, rfl, _, _⟩ := hW
  have hA : DataW.TrodAll enc Tryz.prog W 0 (fun _ => true) true Tryz.f3.params.toList args.toList ds p := hA0
  rw [Tryz.params3] at hA hval
  obtain ⟨v0, vs0, d0, ds0, p0, q0, hargs0, rfl, rfl, h0, r0⟩ := trodAll_cons hA
  obtain ⟨v1, vs1, d1, ds1, p1, q1, hargs1, rfl, rfl, h1, r1⟩ := trodAll_cons r0
  obtain ⟨v2, vs2, d2, ds2, p2, q2, hargs2, rfl, rfl, h2, r2⟩ := trodAll_cons r1
  obtain ⟨v3, vs3, d3, ds3, p3, q3, hargs3, rfl, rfl, h3, r3⟩ := trodAll_cons r2
  obtain ⟨rfl, rfl, rfl⟩ := trodAll_nil r3
  subst hargs1
  subst hargs2
  subst hargs3
  obtain rfl : args = #[v0, v1, v2, v3] := by cases args; simp_all
  obtain ⟨rfl, rfl⟩ := trodVars_none hV
  have hbulk := Bulk.bound hk
  obtain ⟨A0, n0, c0, l0, rfl, hn0, hc0, hm0, hf0, hr0⟩ := Sl.rows (hval 0 22 v0 rfl rfl) h0 Rows.uptoBulk Bulk.len_le 1048576 (fun elems spare hd => by
    subst hd
    exact Bulk.rows_of hbulk (by simp))
  subst hn0
  obtain ⟨A1, n1, c1, l1, rfl, hn1, hc1, hm1, hf1, hr1⟩ := Sl.rows (hval 1 22 v1 rfl rfl) h1 Rows.uptoBulk Bulk.len_le 1048576 (fun elems spare hd => by
    subst hd
    exact Bulk.rows_of hbulk (by simp))
  subst hn1
  obtain ⟨k2, rfl, rfl, rfl, w2⟩ := open_int Tryz.underlying23 (hval 2 23 v2 rfl rfl) h2
  have b2 := Opn.wf_u64 w2
  obtain ⟨k3, rfl, rfl, rfl, w3⟩ := open_int Tryz.underlying3 (hval 3 3 v3 rfl rfl) h3
  have b3 := Opn.wf_i64 w3
  refine (Wa.walBack_any A0 A1 c0 c1 l0 l1 k2 k3 W hr0 hr1 (Nat.le_trans hc0 hm0) (Nat.le_trans hc1 hm1) (fun l hl => Nat.le_trans (Nat.le_trans (List.Sublist.length_le (List.sublist_flatten_of_mem hl)) hf0) (by decide)) (fun l hl => Nat.le_trans (Nat.le_trans (List.Sublist.length_le (List.sublist_flatten_of_mem hl)) hf1) (by decide)) (by have := b2; omega)).mono fun e W' ⟨he, hb⟩ => ?_
  subst he
  exact ⟨_, rfl, Law.post_of_below laidOut (by rw [Tryz.params3]; intro t ht; simp at ht; rcases ht with rfl | rfl | rfl | rfl <;> exact ⟨by kernel_rfl, of_decide_eq_true (by kernel_rfl)⟩) rfl Tryz.underlying4 rfl rfl hW' hb⟩
theorem reads (os : Os) {H : Type} (enc : TypeId × Value → H) : ∃ places, DataW.whole enc Tryz.prog ((Wm.laidWorld os).forCall (fun _ _ => 0) ⟨#[], #[.slice none 0 0, .slice none 0 0, .int .u64 0, .int .i64 0], []⟩).memory Tryz.f3.params.toList Rows.walBackSpec.vars false (#[.slice none 0 0, .slice none 0 0, .int .u64 0, .int .i64 0] : Array Value).toList 8 = some ([.nil, .nil, .lit (.int .u64 0), .lit (.int .i64 0)], [], places) :=
  ⟨[], by kernel_rfl⟩
set_option maxRecDepth 100000 in
theorem lifted (os : Os) (started : os.Started) (H : Type) (enc : TypeId × Value → H) (F : Stop.Interp) :
    ReturnsInHanded {} Tryz.checked os 3 .any ((Rows.OpenSpec.upto Rows.walBackSpec).preRow enc Tryz.prog Tryz.f3 Rows.walBackUptoRow.domain false Rows.walBackUptoRow.laid) (((Rows.OpenSpec.upto Rows.walBackSpec).at F).post enc Tryz.prog Tryz.f3 false true false false) := by
  obtain ⟨places, hx⟩ := reads os enc
  refine returnsInHanded_of_row (C := Tryz.checked) (s := Rows.OpenSpec.upto Rows.walBackSpec) own started (by kernel_rfl) Tryz.func3
    (witness_row_atRef (enc := enc) (C := Tryz.checked) false (Wm.laidWorld os) #[.slice none 0 0, .slice none 0 0, .int .u64 0, .int .i64 0] rfl (by kernel_rfl) (by kernel_rfl) (by kernel_rfl)
      (OpenSpec.preRow_of_cond 8 hx (by kernel_rfl) (fun k hk => by cases hk; kernel_rfl) (by kernel_rfl) (Wm.laid_met os _))) ?_
  intro W base args ds gs before hval hW _ hcond _ _ _ _
  exact contract H enc W base args ds gs before hval hW (hcond _ rfl)
theorem said : Rows.WalBackUptoSaid :=
  OpenClaim.holds_of_cond 3 Tryz.f3 rfl rfl rfl rfl rfl rfl rfl ⟨rfl, rfl, rfl, rfl, rfl⟩ rfl rfl rfl rfl rfl (by kernel_rfl) Tryz.func3 (by kernel_rfl)
    (of_decide_eq_true (by kernel_rfl)) (by unfold Func.isWrapper; first | (rw [if_pos (by decide +kernel)]; kernel_rfl) | (rw [if_neg (by decide +kernel)]; exact ⟨rfl, rfl⟩))
    (fun os started H enc _ F => by rw [OpenClaim.pre_eq_preRow]; exact lifted os started H enc F)
set_option maxRecDepth 100000 in
theorem plain (f : FuncId) (fn : Func) (hf : Tryz.pinned.checked.prog.funcNamed "scupper/scupperlaw05.WalBack" = some f) (hfn : Tryz.pinned.checked.prog.funcs[f]? = some fn) :
    true = Tryz.pinned.checked.prog.looks [] ∧ ∀ (j : Nat) t, fn.params[j]? = some t → Tryz.pinned.checked.prog.wantsStandIn t = false := by
  obtain rfl : f = 3 := Option.some.inj ((show Tryz.prog.funcNamed "scupper/scupperlaw05.WalBack" = some 3 by kernel_rfl).symm.trans hf) |>.symm
  obtain rfl : fn = Tryz.f3 := (Option.some.inj (Tryz.func3.symm.trans hfn)).symm
  refine ⟨by kernel_rfl, fun j t ht => ?_⟩
  rw [Tryz.params3] at ht
  have hm := Array.mem_of_getElem? ht
  simp at hm
  have hw : Tryz.prog.wantsStandIn 22 = false ∧ Tryz.prog.wantsStandIn 3 = false ∧ Tryz.prog.wantsStandIn 23 = false := by refine ⟨?_, ?_, ?_⟩ <;> kernel_rfl
  rcases hm with rfl | rfl | rfl | rfl <;> first | exact hw.1 | exact hw.2.1 | exact hw.2.2
theorem card : Rows.WalBackUptoCardSaid :=
  Claim7.holds_tied_plain_at .later [] _ _ _ _ said (fun _ h => by cases h) (by kernel_rfl) (fun _ h => by cases h) walBackUpto_row_tie rfl ⟨rfl, rfl⟩ (by kernel_rfl) rfl plain (by kernel_rfl)
#print axioms card
end Go.Proofs.YtjnmolpopjapnaaGreatDoor.walBack
