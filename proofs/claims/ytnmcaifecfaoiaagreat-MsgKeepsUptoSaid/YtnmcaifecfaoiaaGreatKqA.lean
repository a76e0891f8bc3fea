/- There and back, as plain facts: what is sound in memory fits; a value's bytes are read as it; cut off, or with one more, they are none. No walk. -/
import Derived.Test.YtnmcaifecfaoiaaGreatKpA
namespace Go.Proofs.YtnmcaifecfaoiaaGreat.Kd
open Go.RowKit By CoP Co Mo

/-- What lies in memory and is sound is one of which the bytes speak. -/
def Sure (k : Kd) : Prop := ∀ {w : World} {S : Nat → Prop} {vs : List Value} {d : Data}, k.rep w S vs d → k.sound d = true → k.fits d
theorem sure_num (lo hi : Int) : Sure (numK lo hi) := by
  rintro w S vs d ⟨n, h, _, rfl⟩ _
  exact ⟨n, h, rfl⟩
theorem sure_int (lo hi : Int) : Sure (intK lo hi) := by
  rintro w S vs d ⟨z, h1, h2, _, rfl⟩ _
  exact ⟨z, h1, h2, rfl⟩
theorem sure_flag : Sure flagK := by
  rintro w S vs d ⟨b, _, rfl⟩ _
  exact ⟨b, rfl⟩
theorem sure_bytes (m : Int) : Sure (bytesK m) := by
  rintro w S vs d ⟨A, c, l, _, rfl, _, h, _⟩ _
  exact ⟨l, rfl, h⟩
theorem sure_text (m : Int) : Sure (textK m) := by
  rintro w S vs d ⟨l, _, rfl, h⟩ _
  exact ⟨l, rfl, h⟩
theorem sure_list {k : Kd} (hk : Sure k) (most : Int) : Sure (listK k most) := by
  rintro w S vs d ⟨A, c, ds, _, rfl, _, hm, hl⟩ hs
  have hs' : (decide ((ds.length : Int) ≤ most) && ds.all k.sound) = true := hs
  rw [Bool.and_eq_true, decide_eq_true_eq, List.all_eq_true] at hs'
  refine ⟨ds, rfl, hs'.1, hm, fun x hx => ?_⟩
  obtain ⟨j, hj, rfl⟩ := List.mem_iff_getElem.1 hx
  obtain ⟨g, o, _, _, hc⟩ := hl (by omega)
  obtain ⟨us, h1, _⟩ := hc j ds[j] (List.getElem?_eq_getElem hj)
  exact hk h1 (hs'.2 _ hx)
theorem sure_all {w : World} {S : Nat → Prop} : ∀ {ks : List Kd} (_ : ∀ k ∈ ks, Sure k) {vs : List Value} {ds : List Data}, RepAll w S ks vs ds → soundAll ks ds = true → FitsAll ks ds := by
  intro ks
  induction ks with
  | nil => rintro _ vs ds ⟨_, rfl⟩ _; rfl
  | cons k ks ih =>
    rintro hk vs ds ⟨v1, v2, d, ds2, _, rfl, h1, h2⟩ hs
    have hs' : (k.sound d && soundAll ks ds2) = true := hs
    rw [Bool.and_eq_true] at hs'
    exact ⟨d, ds2, rfl, hk k List.mem_cons_self h1 hs'.1, ih (fun k' h' => hk k' (List.mem_cons_of_mem _ h')) h2 hs'.2⟩
theorem sure_rec {ks : List Kd} (hk : ∀ k ∈ ks, Sure k) (t : List Data → Bool) : Sure (recK ks t) := by
  rintro w S vs d ⟨ds, rfl, h⟩ hs
  have hs' : (soundAll ks ds && t ds) = true := hs
  rw [Bool.and_eq_true] at hs'
  exact ⟨ds, rfl, sure_all hk h hs'.1⟩
theorem sure_entry : Sure entryK := sure_rec (fun k hk => by
  simp only [entryF, List.mem_cons, List.not_mem_nil, or_false] at hk
  rcases hk with rfl | rfl | rfl | rfl | rfl
  all_goals first | exact sure_num _ _ | exact sure_int _ _ | exact sure_bytes _) _
theorem sure_conf : Sure confK := sure_rec (fun k hk => by
  simp only [confF, List.mem_cons, List.not_mem_nil, or_false] at hk
  rcases hk with rfl | rfl
  all_goals exact sure_list (sure_int _ _) _) _
theorem sure_command : Sure commandK := sure_rec (fun k hk => by
  simp only [commandF, List.mem_cons, List.not_mem_nil, or_false] at hk
  rcases hk with rfl | rfl | rfl | rfl | rfl | rfl | rfl
  all_goals first | exact sure_num _ _ | exact sure_int _ _ | exact sure_text _) _
theorem sure_reply : Sure replyK := sure_rec (fun k hk => by
  simp only [replyF, List.mem_cons, List.not_mem_nil, or_false] at hk
  rcases hk with rfl | rfl | rfl | rfl | rfl | rfl
  all_goals first | exact sure_num _ _ | exact sure_int _ _) _
theorem entryF_laws : ∀ k ∈ entryF, k.Ok ∧ k.Laws := by
  intro k hk
  refine ⟨entryF_ok k hk, ?_⟩
  simp only [entryF, List.mem_cons, List.not_mem_nil, or_false] at hk
  rcases hk with rfl | rfl | rfl | rfl | rfl
  all_goals first | exact numK_laws _ _ | exact intK_laws _ _ | exact bytesK_laws _
theorem entryK_laws : entryK.Laws := recK_laws entryF_laws _
theorem msgF_laws : ∀ k ∈ msgF, k.Ok ∧ k.Laws := by
  intro k hk
  refine ⟨msgF_ok k hk, ?_⟩
  simp only [msgF, List.mem_cons, List.not_mem_nil, or_false] at hk
  rcases hk with rfl | rfl | rfl | rfl | rfl | rfl | rfl | rfl | rfl | rfl | rfl | rfl | rfl
  all_goals first | exact intK_laws _ _ | exact numK_laws _ _ | exact flagK_laws | exact listK_laws entryK_ok entryK_laws _ | exact looseK_laws confK_laws | exact bytesK_laws _
theorem msgK_laws : msgK.Laws := recK_laws msgF_laws _
theorem noConf_fits {vs ls : List Int} (h : noConf (confD vs ls) = true) : confK.fits (confD vs ls) := by
  rw [noConf_eq, Bool.and_eq_true] at h
  have h1 : vs = [] := by simpa using h.1
  have h2 : ls = [] := by simpa using h.2
  subst h1 h2
  exact ⟨_, rfl, _, _, rfl, ⟨[], rfl, by decide, by decide, by simp⟩, _, _, rfl, ⟨[], rfl, by decide, by decide, by simp⟩, rfl⟩
theorem sure_msg {w : World} {xs : List Value} {d : Data} (h : msgK.rep w (Old w) xs d) (hs : msgK.sound d = true) : msgK.fits d := by
  obtain ⟨kd, fr, tt, tm, ix, lt, cm, rd, ok, Ae, ce, es, A, c, vs, A2, c2, ls, fo, A3, c3, da, rfl, rfl, ⟨hk, hf, ht, ho⟩, ⟨n1, n2, n3, n4, n5⟩, ⟨_, he⟩, ⟨_, _, _, _, _, _, hcf⟩, _, hm, _⟩ := msg_shape h
  have e : msgK.sound (msgD kd fr tt tm ix lt cm rd ok es vs ls fo da) = (soundAll msgF [.lit (.int .i64 kd), .lit (.int .i64 fr), .lit (.int .i64 tt), .lit (.int .u64 (tm : Int)), .lit (.int .u64 (ix : Int)), .lit (.int .u64 (lt : Int)), .lit (.int .u64 (cm : Int)), .lit (.int .u64 (rd : Int)), .lit (.bool ok), .agg es, confD vs ls, .lit (.int .i64 fo), .lit (.string da)] &&
    (if kd = 7 then confK.sound (confD vs ls) else noConf (confD vs ls))) := rfl
  have hes : entsK.sound (.agg es) = true := by
    rw [msg_sound ⟨n1, n2, n3, n4, n5⟩] at hs
    unfold msgB msgB0 at hs
    simp only [Bool.and_eq_true, decide_eq_true_eq] at hs
    show (decide ((es.length : Int) ≤ 8) && es.all entryK.sound) = true
    rw [Bool.and_eq_true, decide_eq_true_eq]
    exact ⟨by omega, hs.2⟩
  rw [e, Bool.and_eq_true] at hs
  have hc : confK.fits (confD vs ls) := by
    have h2 := hs.2
    by_cases h7 : kd = 7
    · rw [if_pos h7] at h2
      exact sure_conf hcf h2
    · rw [if_neg h7] at h2
      exact noConf_fits h2
  have hef : entsK.fits (.agg es) := sure_list sure_entry 8 he hes
  exact ⟨_, rfl, _, _, rfl, ⟨kd, hk.1, hk.2, rfl⟩, _, _, rfl, ⟨fr, hf.1, hf.2, rfl⟩, _, _, rfl, ⟨tt, ht.1, ht.2, rfl⟩, _, _, rfl, ⟨tm, n1, rfl⟩, _, _, rfl, ⟨ix, n2, rfl⟩, _, _, rfl, ⟨lt, n3, rfl⟩, _, _, rfl, ⟨cm, n4, rfl⟩, _, _, rfl, ⟨rd, n5, rfl⟩, _, _, rfl, ⟨ok, rfl⟩, _, _, rfl, hef, _, _, rfl, hc, _, _, rfl, ⟨fo, ho.1, ho.2, rfl⟩, _, _, rfl, ⟨da, rfl, hm⟩, rfl⟩
theorem Kd.Laws.whole {k : Kd} (h : k.Laws) {d : Data} (hf : k.fits d) : k.get (k.put d) = some (d, (k.put d).length) := by
  have := h.back hf []
  rwa [List.append_nil] at this
theorem Kd.Laws.short {k : Kd} (h : k.Laws) {d : Data} (hf : k.fits d) {q : Nat} (hq : q < (k.put d).length) (d' : Data) : ¬ (k.get ((k.put d).take q) = some (d', ((k.put d).take q).length) ∧ k.sound d' = true) := by
  rintro ⟨e, _⟩
  rw [List.length_take, Nat.min_eq_left (Nat.le_of_lt hq)] at e
  exact h.cut hf hq e
theorem Kd.Laws.more {k : Kd} (h : k.Laws) {d : Data} (hf : k.fits d) (x : UInt8) (d' : Data) : ¬ (k.get (k.put d ++ [x]) = some (d', (k.put d ++ [x]).length) ∧ k.sound d' = true) := by
  rintro ⟨e, _⟩
  rw [h.back hf [x]] at e
  injection e with e
  injection e with _ e
  rw [List.length_append, List.length_singleton] at e
  omega
theorem msg_put_pos {d : Data} (h : msgK.fits d) : 0 < (msgK.put d).length := by
  obtain ⟨_, rfl, _, _, rfl, ⟨kd, _, _, rfl⟩, _⟩ := h
  show 0 < (putNum (u64N kd) ++ _).length
  rw [List.length_append, putNum_length]
  omega
end Go.Proofs.YtnmcaifecfaoiaaGreat.Kd
