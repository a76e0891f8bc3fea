/- The walk of SlotNames. -/
import Derived.Test.YtjnmolpopjapnaaDoorSoK
import Derived.Deep.CutBlock
namespace Go.Proofs.YtjnmolpopjapnaaDoor.So
open Go.RowKit Go.Maps By Mp Dk

def lenOk (nm : Bs) : Bool := decide (1 ≤ nm.length) && decide (nm.length ≤ 8)
def pre (nm : Bs) (k : Nat) : Bool := lenOk nm && (nm.take k).all snameC
theorem pre_false {nm : Bs} {k : Nat} (h : pre nm k = false) (hk : k < nm.length) : pre nm (k + 1) = false := by
  unfold pre at h ⊢
  rw [List.take_succ_eq_append_getElem hk, List.all_append, ← Bool.and_assoc, h]
  rfl
theorem pre_true {nm : Bs} {k : Nat} (h : pre nm k = true) (hk : k < nm.length) : pre nm (k + 1) = snameC nm[k] := by
  unfold pre at h ⊢
  rw [List.take_succ_eq_append_getElem hk, List.all_append, ← Bool.and_assoc, h]
  simp
theorem pre_all (nm : Bs) : pre nm nm.length = sname nm := by
  unfold pre lenOk
  rw [List.take_length, sname_eq]
theorem pre_zero (nm : Bs) : pre nm 0 = lenOk nm := by
  unfold pre
  simp
/-- What Open gives for any name. -/
def NamedPost (nm : Bs) (w : World) (e : Ending) (w' : World) : Prop := ∃ (p : Option Addr) (E : Int), e = .returned (.tuple #[.pointer p, .int .i64 E]) ∧ ((sname nm = true ∧ E = 0 ∧ ∃ g, p = some ⟨g, 0, none⟩) ∨ (sname nm = false ∧ E = 1 ∧ p = none)) ∧ Below w.heap.size w w'
theorem open_two (d : Nat) (S : Nat → Prop) (nm : Bs) (w : World) (h : DiskAt w d (newDS 400) S) (hm : nm.length ≤ 9223372036854775807) : Calls Tryd.prog 12 #[.pointer (some ⟨d, 0, none⟩), .string (str nm)] w (NamedPost nm w) := by
  cases hn : sname nm with
  | true =>
    refine (sopen_any d (newDS 400) S nm w h rfl hn).mono ?_
    rintro e w' ⟨g, he, _, _, hb⟩
    exact ⟨_, _, he, .inl ⟨hn, rfl, g, rfl⟩, hb⟩
  | false =>
    refine (sopen_bad d nm w hm hn).mono ?_
    rintro e w' ⟨he, rfl⟩
    exact ⟨_, _, he, .inr ⟨hn, rfl, rfl⟩, Below.refl _ _⟩
set_option maxRecDepth 100000 in
set_option maxHeartbeats 4000000 in
theorem slotNames_any (nm : Bs) (w : World) (hm : nm.length ≤ 1048576) : Calls Tryd.prog 7 #[.string (str nm)] w (True_ w) := by
  have HN := Lib.hid (new_any 400 w rfl)
  have HM := Lib.hid hm
  have q1 := slotTest
  have hsz : (str nm).size = nm.length := str_size nm
  go_enter Tryd.func7, Tryd.ntmps7
  go_wp2_with fail
  refine HN.out.mono ?_
  rintro e w1 ⟨d, S, rfl, hd1, hS1, hb1⟩
  have HB1 := Lib.hid hb1
  have HOP := Lib.hid (open_two d S nm w1 hd1 (by omega))
  clear HN hd1 hS1 hb1
  go_wp2_with fail
  refine HOP.out.mono ?_
  rintro e w2 ⟨p, E, rfl, hp, hb2⟩
  have HP := Lib.hid hp
  have HB2 := Lib.hid (By.ext HB1.out hb2)
  clear HOP hp hb2
  have HPZ := Lib.hid (pre_zero nm)
  obtain ⟨n, hn⟩ : ∃ n, n = nm.length := ⟨_, rfl⟩
  rw [← hn] at hsz
  have HNL := Lib.hid hn
  have hnm : (n : Int) ≤ 1048576 := by have := HM.out; omega
  have hn0 : (0 : Int) ≤ (n : Int) := by omega
  have HLK := Lib.hid (show lenOk nm = (decide (1 ≤ n) && decide (n ≤ 8)) by rw [hn]; rfl)
  clear hn
  have hrel0 : ∀ (v : Value), v = .bool (lenOk nm) → v = .bool (pre nm 0) := fun v h => by rw [HPZ.out]; exact h
  have hcases : n = 0 ∨ (1 ≤ n ∧ n ≤ 8) ∨ 8 < n := by omega
  have HR0 := Lib.hid hrel0
  clear hrel0
  go_upto_region 3 with fail
  go_cut [7] (fun v wx => wx = w2 ∧ v = .bool (pre nm 0))
  case first =>
    rcases hcases with h0 | ⟨h1, h2⟩ | h3
    · subst h0
      have HV := Lib.hid (show Value.bool false = .bool (pre nm 0) from HR0.out _ (by rw [HLK.out]; rfl))
      go_wp2
      go_meet
      exact ⟨rfl, HV.out⟩
    · have h1i : (1 : Int) ≤ (n : Int) := by omega
      have h2i : (n : Int) ≤ 8 := by omega
      have HV := Lib.hid (show Value.bool true = .bool (pre nm 0) from HR0.out _ (by rw [HLK.out, decide_eq_true h1, decide_eq_true h2]; rfl))
      clear h1 h2
      go_wp2
      go_meet
      exact ⟨rfl, HV.out⟩
    · have h1i : (1 : Int) ≤ (n : Int) := by omega
      have h2i : ¬ ((n : Int) ≤ 8) := by omega
      have HV := Lib.hid (show Value.bool false = .bool (pre nm 0) from HR0.out _ (by rw [HLK.out, decide_eq_false (show ¬ n ≤ 8 by omega), Bool.and_false]))
      clear h3
      go_wp2
      go_meet
      exact ⟨rfl, HV.out⟩
  obtain ⟨hwc, hvc⟩ := hcut
  subst hwc
  subst hvc
  clear hcases
  go_upto_block 0 with fail
  go_cut [7] (fun v wx => wx = wc ∧ v = .bool (sname nm))
  case first =>
    go_wp2
    go_loopw [7, 8] (fun v i wr => wr = wc ∧ ∃ k : Nat, k ≤ nm.length ∧ i = .int .i64 (k : Int) ∧ v = .bool (pre nm k)) (fun _ i _ => nm.length - (intOf i).toNat)
    case atStart => exact ⟨rfl, 0, Nat.zero_le _, rfl, rfl⟩
    case round =>
      obtain ⟨rfl, k, hk, rfl, rfl⟩ := hrel
      by_cases hlt : k < nm.length
      · have hix := fun w' => run_index w' nm k hlt
        have HPF := Lib.hid (fun h => pre_false (nm := nm) (k := k) h hlt)
        have HPT := Lib.hid (fun h => pre_true (nm := nm) (k := k) h hlt)
        obtain ⟨cc, hcc⟩ : ∃ cc, cc = nm[k] := ⟨_, rfl⟩
        rw [← hcc] at hix HPT
        have hc0 : (0 : Int) ≤ (cc.toNat : Int) := by omega
        have hc1 : (cc.toNat : Int) ≤ 255 := byte_hi cc
        have hki : (k : Int) < (n : Int) := by have := HNL.out; omega
        clear hcc
        cases hB : pre nm k with
        | false =>
          have HF := Lib.hid (HPF.out hB)
          clear hix hc0 hc1 hB
          go_wp2
          go_roundw
          case rel => exact ⟨trivial, k + 1, by omega, by go_num, by rw [HF.out]⟩
          case measure => simp [intOf]; omega
        | true =>
          have HF := Lib.hid (HPT.out hB)
          clear hB
          have hcs : (cc.toNat : Int) < 97 ∨ ((97 ≤ (cc.toNat : Int)) ∧ (cc.toNat : Int) ≤ 122) ∨ 122 < (cc.toNat : Int) := by omega
          rcases hcs with h | ⟨h, h2⟩ | h
          · have H := Lib.hid (show pre nm (k + 1) = false by rw [HF.out]; unfold snameC; rw [decide_eq_false (show ¬ 97 ≤ cc.toNat by omega)]; rfl)
            have hd : decide ((97 : Int) ≤ (cc.toNat : Int)) = false := decide_eq_false (by omega)
            go_wp2
            go_roundw
            case rel => exact ⟨trivial, k + 1, by omega, by go_num, by rw [H.out]⟩
            case measure => simp [intOf]; omega
          · have H := Lib.hid (show pre nm (k + 1) = true by rw [HF.out]; unfold snameC; rw [decide_eq_true (show 97 ≤ cc.toNat by omega), decide_eq_true (show cc.toNat ≤ 122 by omega)]; rfl)
            go_wp2
            go_roundw
            case rel => exact ⟨trivial, k + 1, by omega, by go_num, by rw [H.out]⟩
            case measure => simp [intOf]; omega
          · have H := Lib.hid (show pre nm (k + 1) = false by rw [HF.out]; unfold snameC; rw [decide_eq_false (show ¬ cc.toNat ≤ 122 by omega), Bool.and_false])
            have hd : decide ((cc.toNat : Int) ≤ 122) = false := decide_eq_false (by omega)
            have hd2 : (97 : Int) ≤ (cc.toNat : Int) := by omega
            go_wp2
            go_roundw
            case rel => exact ⟨trivial, k + 1, by omega, by go_num, by rw [H.out]⟩
            case measure => simp [intOf]; omega
      · have hke : k = nm.length := by omega
        subst hke
        have HPA := Lib.hid (show Value.bool (pre nm nm.length) = .bool (sname nm) by rw [pre_all])
        have hki : ¬ ((nm.length : Int) < (n : Int)) := by have := HNL.out; omega
        go_wp2
        go_meet
        exact ⟨rfl, HPA.out⟩
  obtain ⟨hwc, hvc⟩ := hcut
  subst hwc
  subst hvc
  have HON := Lib.hid (fun w' => sopen_nil [97] w')
  have HLN := Lib.hid (fun w' => load_nil w')
  have HSN := Lib.hid (fun w' => save_nil none 0 0 w')
  have HAN := Lib.hid (fun w' => answers_any w')
  go_wp2_with fail
  refine (HON.out _).mono ?_
  rintro e w' ⟨rfl, rfl⟩
  go_wp2_with fail
  refine (HLN.out _).mono ?_
  rintro e w' ⟨rfl, rfl⟩
  go_wp2_with fail
  refine (HAN.out _).mono ?_
  rintro e w3 ⟨rfl, hb3⟩
  have HB3 := Lib.hid (By.ext HB2.out hb3)
  clear hb3
  rcases HP.out with ⟨hs, he, g, hp⟩ | ⟨hs, he, hp⟩
  · subst he
    subst hp
    rw [hs]
    clear hs
    go_wp2_with fail
    refine (HSN.out _).mono ?_
    rintro e w' ⟨rfl, rfl⟩
    go_wp2
    go_ret
    exact ⟨rfl, HB3.out⟩
  · subst he
    subst hp
    rw [hs]
    clear hs
    go_wp2_with fail
    refine (HSN.out _).mono ?_
    rintro e w' ⟨rfl, rfl⟩
    go_wp2
    go_ret
    exact ⟨rfl, HB3.out⟩
end Go.Proofs.YtjnmolpopjapnaaDoor.So
