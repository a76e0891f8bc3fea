/- Lists of bytes in memory: a slice that reads as a list of bytes, a slice of the call's own that holds one, what is appended to it, its cuts, its text. Nothing here speaks of one function. | Plain facts on numbers as bytes, frames, and the sum of bytes. No program, no walk. | What a call gives, as plain posts; and facts of numbers read. Nothing here speaks of one function. | The reference's PutNum and PutBytes, as contracts of calls. | The reference's Num, as a contract of calls. | The reference's Bytes, as a contract of calls. -/
import Derived.Test.YtdbaajgkcjpnoaaGreatProg
import Derived.Test.YtdbaajgkcjpnoaaGreatBy
import Derived.WalkKit
import Derived.ProofKit
import Derived.OpenShut
import Derived.Below
import Derived.Laws.OwnMore
import Derived.Laws.BytesArg
import Derived.WalkSpells
import Derived.Deep.AppendLies
import Derived.Deep.Draws
import Derived.Lib.Hide
import Derived.Lib.BitFns
import Derived.Laws.BitsAllLaws
import Derived.OwnWalk
import Derived.Deep.QuietTactic
import Derived.BigQuiet
/-! Lists of bytes in memory: a slice that reads as a list of bytes, a slice of the call's own that holds one, what is appended to it, its cuts, its text. Nothing here speaks of one function. -/

/-! Plain facts on numbers as bytes, frames, and the sum of bytes. No program, no walk. -/
namespace Go.Proofs.YtdbaajgkcjpnoaaGreat.CoP

/-- One bit of the sum's division. -/
def bitStep (s : Nat) : Nat := if s % 2 = 1 then s / 2 ^^^ 3988292384 else s / 2
def steps : Nat → Nat → Nat
  | 0, s => s
  | k + 1, s => bitStep (steps k s)
def byteStep (s c : Nat) : Nat := steps 8 (s ^^^ c)
def crcFrom (s : Nat) (l : List UInt8) : Nat := l.foldl (fun s c => byteStep s c.toNat) s
def crc (l : List UInt8) : Nat := 4294967295 - crcFrom 4294967295 l

theorem bitStep_lt {s : Nat} (h : s < 4294967296) : bitStep s < 4294967296 := by
  unfold bitStep
  split
  · exact Nat.xor_lt_two_pow (n := 32) (by omega) (by omega)
  · omega
theorem steps_lt {k s : Nat} (h : s < 4294967296) : steps k s < 4294967296 := by
  induction k with
  | zero => exact h
  | succ k ih => exact bitStep_lt ih
theorem xor_lt32 {a b : Nat} (ha : a < 4294967296) (hb : b < 4294967296) : a ^^^ b < 4294967296 := Nat.xor_lt_two_pow (n := 32) (by omega) (by omega)
theorem byteStep_lt {s c : Nat} (h : s < 4294967296) (hc : c < 256) : byteStep s c < 4294967296 := steps_lt (xor_lt32 h (by omega))
theorem crcFrom_lt {l : List UInt8} : ∀ {s : Nat}, s < 4294967296 → crcFrom s l < 4294967296 := by
  induction l with
  | nil => intro s h; exact h
  | cons c l ih => intro s h; exact ih (byteStep_lt h c.toNat_lt)
theorem crcFrom_append (s : Nat) (l m : List UInt8) : crcFrom s (l ++ m) = crcFrom (crcFrom s l) m := by unfold crcFrom; rw [List.foldl_append]
theorem crcFrom_snoc (s : Nat) (l : List UInt8) (c : UInt8) : crcFrom s (l ++ [c]) = byteStep (crcFrom s l) c.toNat := by rw [crcFrom_append]; rfl
theorem crc_lt (l : List UInt8) : crc l < 4294967296 := by unfold crc; omega
theorem crcFrom_take {l : List UInt8} {k : Nat} (s : Nat) (h : k < l.length) : crcFrom s (l.take (k + 1)) = byteStep (crcFrom s (l.take k)) l[k].toNat := by
  rw [List.take_succ_eq_append_getElem h, crcFrom_snoc]

/-- The bits of a byte laid on one at a time. -/
theorem xor_mod2 (a b : Nat) : (a ^^^ b) % 2 = 1 ↔ a % 2 ≠ b % 2 := by
  have h := Nat.xor_mod_two_eq_one (a := a) (b := b)
  rw [h]
  omega
theorem xor_div2 (a b : Nat) : (a ^^^ b) / 2 = a / 2 ^^^ b / 2 := by
  have := @Nat.xor_div_two_pow a b 1
  simpa using this
theorem bit_ne {s r c k : Nat} (h : steps k s = r ^^^ c / 2 ^ k) (hb : c / 2 ^ k % 2 ≠ r % 2) : steps (k + 1) s = (r / 2 ^^^ 3988292384) ^^^ c / 2 ^ (k + 1) := by
  show bitStep (steps k s) = _
  rw [h]
  unfold bitStep
  rw [if_pos ((xor_mod2 _ _).2 (fun e => hb e.symm)), xor_div2, Nat.div_div_eq_div_mul, ← Nat.pow_succ, Nat.xor_assoc, Nat.xor_assoc, Nat.xor_comm 3988292384]
theorem bit_eq {s r c k : Nat} (h : steps k s = r ^^^ c / 2 ^ k) (hb : c / 2 ^ k % 2 = r % 2) : steps (k + 1) s = (r / 2) ^^^ c / 2 ^ (k + 1) := by
  show bitStep (steps k s) = _
  rw [h]
  unfold bitStep
  rw [if_neg (fun e => (xor_mod2 _ _).1 e hb.symm), xor_div2, Nat.div_div_eq_div_mul, ← Nat.pow_succ]
theorem bit_start (s c : Nat) : steps 0 (s ^^^ c) = s ^^^ c / 2 ^ 0 := by simp [steps]
theorem bit_end {s r c : Nat} (h : steps 8 s = r ^^^ c / 2 ^ 8) (hc : c < 256) : steps 8 s = r := by
  rw [h, Nat.div_eq_of_lt (by simpa using hc)]
  simp

/-- No two states come to one by a bit. -/
theorem bitStep_inj {a b : Nat} (ha : a < 4294967296) (hb : b < 4294967296) (h : bitStep a = bitStep b) : a = b := by
  have top : ∀ x : Nat, x < 2147483648 → (x ^^^ 3988292384).testBit 31 = true := by
    intro x hx
    rw [Nat.testBit_xor, Nat.testBit_lt_two_pow (by simpa using hx)]
    decide
  have low : ∀ x : Nat, x < 2147483648 → x.testBit 31 = false := fun x hx => Nat.testBit_lt_two_pow (by simpa using hx)
  have e : a / 2 = b / 2 ∧ a % 2 = b % 2 := by
    unfold bitStep at h
    split at h <;> split at h
    · refine ⟨?_, by omega⟩
      have := congrArg (· ^^^ 3988292384) h
      simpa [Nat.xor_assoc] using this
    · have h1 := top (a / 2) (by omega)
      rw [h, low (b / 2) (by omega)] at h1
      cases h1
    · have h1 := top (b / 2) (by omega)
      rw [← h, low (a / 2) (by omega)] at h1
      cases h1
    · exact ⟨h, by omega⟩
  omega
theorem steps_inj {k : Nat} : ∀ {a b : Nat}, a < 4294967296 → b < 4294967296 → steps k a = steps k b → a = b := by
  induction k with
  | zero => intro a b _ _ h; exact h
  | succ k ih => intro a b ha hb h; exact ih ha hb (bitStep_inj (steps_lt ha) (steps_lt hb) h)
theorem byteStep_inj {a b c : Nat} (ha : a < 4294967296) (hb : b < 4294967296) (hc : c < 256) (h : byteStep a c = byteStep b c) : a = b := by
  have := steps_inj (xor_lt32 ha (by omega)) (xor_lt32 hb (by omega)) h
  have := congrArg (· ^^^ c) this
  simpa [Nat.xor_assoc] using this
theorem byteStep_inj_byte {a c d : Nat} (ha : a < 4294967296) (hc : c < 256) (hd : d < 256) (h : byteStep a c = byteStep a d) : c = d := by
  have := steps_inj (xor_lt32 ha (by omega)) (xor_lt32 ha (by omega)) h
  have := congrArg (a ^^^ ·) this
  simpa [← Nat.xor_assoc] using this
theorem crcFrom_inj {l : List UInt8} : ∀ {a b : Nat}, a < 4294967296 → b < 4294967296 → crcFrom a l = crcFrom b l → a = b := by
  induction l with
  | nil => intro a b _ _ h; exact h
  | cons c l ih => intro a b ha hb h; exact byteStep_inj ha hb c.toNat_lt (ih (byteStep_lt ha c.toNat_lt) (byteStep_lt hb c.toNat_lt) h)
/-- One byte another one: another sum. -/
theorem crc_one (p q : List UInt8) (c d : UInt8) (h : c ≠ d) : crc (p ++ c :: q) ≠ crc (p ++ d :: q) := by
  intro e
  have s0 : (4294967295 : Nat) < 4294967296 := by omega
  have hl : ∀ x : List UInt8, crcFrom 4294967295 x < 4294967296 := fun x => crcFrom_lt s0
  have h1 := hl (p ++ c :: q)
  have h2 := hl (p ++ d :: q)
  unfold crc at e
  have e2 : crcFrom 4294967295 (p ++ c :: q) = crcFrom 4294967295 (p ++ d :: q) := by omega
  rw [crcFrom_append, crcFrom_append] at e2
  have e3 := crcFrom_inj (l := q) (byteStep_lt (hl p) c.toNat_lt) (byteStep_lt (hl p) d.toNat_lt) e2
  have e4 := byteStep_inj_byte (hl p) c.toNat_lt d.toNat_lt e3
  exact h (UInt8.toNat_inj.1 e4)

theorem snocInd {α : Type} {P : List α → Prop} (h0 : P []) (h1 : ∀ l c, P l → P (l ++ [c])) (l : List α) : P l := by
  have : ∀ m : List α, P m.reverse := by
    intro m
    induction m with
    | nil => exact h0
    | cons c m ih => rw [List.reverse_cons]; exact h1 _ _ ih
  have h := this l.reverse
  rwa [List.reverse_reverse] at h

/-- A number of bytes, the highest first. -/
def val (l : List UInt8) : Nat := l.foldl (fun n c => n * 256 + c.toNat) 0
theorem val_snoc (l : List UInt8) (c : UInt8) : val (l ++ [c]) = val l * 256 + c.toNat := by unfold val; rw [List.foldl_append]; rfl
theorem val_lt (l : List UInt8) : val l < 256 ^ l.length := by
  induction l using snocInd with
  | h0 => simp [val]
  | h1 l c ih =>
    have hc := c.toNat_lt
    rw [val_snoc, List.length_append, List.length_singleton, Nat.pow_succ]
    omega
theorem val_take {l : List UInt8} {k : Nat} (h : k < l.length) : val (l.take (k + 1)) = val (l.take k) * 256 + l[k].toNat := by
  rw [List.take_succ_eq_append_getElem h, val_snoc]

/-- The k lowest bytes of n, the highest first. -/
def be (k n : Nat) : List UInt8 := (List.range k).map fun i => UInt8.ofNat (n / 256 ^ (k - 1 - i))
theorem be_length (k n : Nat) : (be k n).length = k := by simp [be]
theorem be_get {k n i : Nat} (h : i < k) : (be k n)[i]? = some (UInt8.ofNat (n / 256 ^ (k - 1 - i))) := by simp [be, h]
theorem be_take_succ {k n i : Nat} (h : i < k) : (be k n).take (i + 1) = (be k n).take i ++ [UInt8.ofNat (n / 256 ^ (k - 1 - i))] := by
  rw [List.take_add_one, be_get h]
  rfl
theorem be_succ (k n : Nat) : be (k + 1) n = be k (n / 256) ++ [UInt8.ofNat n] := by
  apply List.ext_getElem?
  intro i
  rcases Nat.lt_trichotomy i k with h | h | h
  · rw [be_get (by omega), List.getElem?_append_left (by rw [be_length]; exact h), be_get h, Nat.div_div_eq_div_mul]
    have e : k + 1 - 1 - i = (k - 1 - i) + 1 := by omega
    rw [e, Nat.pow_succ, Nat.mul_comm]
  · subst h
    rw [be_get (by omega), List.getElem?_append_right (by rw [be_length]; exact Nat.le_refl _), be_length]
    simp
  · rw [List.getElem?_eq_none (by rw [be_length]; omega), List.getElem?_eq_none (by rw [List.length_append, be_length]; simp; omega)]
theorem ofNat_mod (n : Nat) : (UInt8.ofNat n).toNat = n % 256 := by simp
theorem be_val (k : Nat) : ∀ n, n < 256 ^ k → val (be k n) = n := by
  induction k with
  | zero => intro n h; simp at h; subst h; rfl
  | succ k ih =>
    intro n h
    rw [be_succ, val_snoc, ih _ (Nat.div_lt_of_lt_mul (by rw [Nat.pow_succ, Nat.mul_comm] at h; exact h)), ofNat_mod]
    omega
theorem val_be (l : List UInt8) : be l.length (val l) = l := by
  induction l using snocInd with
  | h0 => rfl
  | h1 l c ih =>
    have hc := c.toNat_lt
    rw [List.length_append, List.length_singleton, be_succ, val_snoc]
    have e1 : (val l * 256 + c.toNat) / 256 = val l := by omega
    have e2 : UInt8.ofNat (val l * 256 + c.toNat) = c := by
      apply UInt8.toNat_inj.1
      rw [ofNat_mod]
      omega
    rw [e1, e2, ih]

/-- A number's bytes, the lowest first, as short as can be. -/
def lows (n : Nat) : List UInt8 := if n = 0 then [] else UInt8.ofNat (n % 256) :: lows (n / 256)
theorem lows_zero : lows 0 = [] := by rw [lows]; rfl
theorem lows_pos {n : Nat} (h : n ≠ 0) : lows n = UInt8.ofNat (n % 256) :: lows (n / 256) := by rw [lows, if_neg h]
theorem lows_rev (n : Nat) : (lows n).reverse = be (lows n).length n := by
  induction n using Nat.strongRecOn with
  | ind n ih =>
    by_cases h : n = 0
    · subst h; rw [lows_zero]; rfl
    · rw [lows_pos h, List.reverse_cons, ih (n / 256) (by omega), List.length_cons, be_succ]
      congr 2
      apply UInt8.toNat_inj.1
      rw [ofNat_mod, ofNat_mod]
      omega
theorem lows_lt (n : Nat) : n < 256 ^ (lows n).length := by
  induction n using Nat.strongRecOn with
  | ind n ih =>
    by_cases h : n = 0
    · subst h; rw [lows_zero]; simp
    · have := ih (n / 256) (by omega)
      rw [lows_pos h, List.length_cons, Nat.pow_succ]
      omega
theorem lows_ge (n : Nat) (h : n ≠ 0) : 0 < (lows n).length ∧ 256 ^ ((lows n).length - 1) ≤ n := by
  induction n using Nat.strongRecOn with
  | ind n ih =>
    rw [lows_pos h, List.length_cons]
    refine ⟨by omega, ?_⟩
    by_cases h2 : n / 256 = 0
    · rw [h2, lows_zero]; simp; omega
    · obtain ⟨h3, h4⟩ := ih (n / 256) (by omega) h2
      obtain ⟨k, hk⟩ : ∃ k, (lows (n / 256)).length = k + 1 := ⟨(lows (n / 256)).length - 1, by omega⟩
      rw [hk] at h4 ⊢
      simp only [Nat.add_sub_cancel] at h4 ⊢
      rw [Nat.pow_succ]
      omega
def nb (n : Nat) : Nat := (lows n).length
theorem nb_le {n k : Nat} (h : n < 256 ^ k) : nb n ≤ k := by
  by_cases h0 : n = 0
  · subst h0; unfold nb; rw [lows_zero]; simp
  · obtain ⟨h1, h2⟩ := lows_ge n h0
    have := (Nat.pow_lt_pow_iff_right (a := 256) (by omega)).1 (Nat.lt_of_le_of_lt h2 h)
    unfold nb
    omega
theorem nb_zero : nb 0 = 0 := by unfold nb; rw [lows_zero]; rfl
theorem nb_pos {n : Nat} (h : n ≠ 0) : nb n = nb (n / 256) + 1 := by unfold nb; rw [lows_pos h]; rfl
theorem nb_bits (n : Nat) (h : n < 18446744073709551616) : nb n = (Lib.bitLen n + 7) / 8 := by
  induction n using Nat.strongRecOn with
  | ind n ih =>
    by_cases h0 : n = 0
    · subst h0; rw [nb_zero]; rfl
    · rw [nb_pos h0]
      by_cases h1 : 256 ≤ n
      · rw [ih (n / 256) (by omega) (by omega), Lib.bitLen_shift8 n h1 h]
        omega
      · have e : n / 256 = 0 := by omega
        have a := Lib.bitLen_half n h0 (by simpa using h)
        have b := Lib.bitLen_le n 8 (by omega) (by omega)
        rw [e, nb_zero]
        omega

/-- A number as it is written. -/
def putNum (n : Nat) : List UInt8 := UInt8.ofNat (nb n) :: be (nb n) n
theorem putNum_length (n : Nat) : (putNum n).length = nb n + 1 := by simp [putNum, be_length]
def putBytes (d : List UInt8) : List UInt8 := putNum d.length ++ d
/-- What stands at the beginning of bytes as a number: it, how many bytes it takes, the error. -/
def numR : List UInt8 → Nat × Nat × Nat
  | [] => (0, 0, 5)
  | k :: t => if 8 < k.toNat ∨ (0 < k.toNat ∧ t[0]? = some 0) then (0, 0, 4) else if t.length < k.toNat then (0, 0, 5) else (val (t.take k.toNat), 1 + k.toNat, 0)
/-- Likewise a list of bytes. -/
def bytesR (b : List UInt8) : List UInt8 × Nat × Nat :=
  if (numR b).2.2 ≠ 0 then ([], 0, (numR b).2.2) else if b.length - (numR b).2.1 < (numR b).1 then ([], 0, 5) else ((b.drop (numR b).2.1).take (numR b).1, (numR b).2.1 + (numR b).1, 0)
/-- Likewise a frame. -/
def unR (b : List UInt8) : List UInt8 × Nat × Nat :=
  if b.length < 8 then ([], 0, 5) else if 65536 < val (b.take 4) then ([], 0, 7) else if b.length - 8 < val (b.take 4) then ([], 0, 5)
  else if crc (b.take 4 ++ (b.drop 8).take (val (b.take 4))) ≠ val ((b.drop 4).take 4) then ([], 0, 6)
  else ((b.drop 8).take (val (b.take 4)), 8 + val (b.take 4), 0)
/-- A frame. -/
def frame (d : List UInt8) : List UInt8 := be 4 d.length ++ be 4 (crc (be 4 d.length ++ d)) ++ d
theorem frame_length (d : List UInt8) : (frame d).length = d.length + 8 := by simp [frame, be_length]; omega

theorem be_head_ne {n : Nat} (h : n ≠ 0) : (be (nb n) n)[0]? ≠ some 0 := by
  obtain ⟨h1, h2⟩ := lows_ge n h
  have h3 := lows_lt n
  rw [be_get (by exact h1)]
  intro e
  injection e with e
  have := congrArg UInt8.toNat e
  rw [ofNat_mod] at this
  have h0 : (0 : UInt8).toNat = 0 := rfl
  rw [h0] at this
  unfold nb at *
  rw [Nat.sub_zero] at this
  obtain ⟨k, hk⟩ : ∃ k, (lows n).length = k + 1 := ⟨(lows n).length - 1, by omega⟩
  rw [hk] at this h2 h3
  simp only [Nat.add_sub_cancel] at this h2
  rw [Nat.pow_succ] at h3
  have hp : 0 < 256 ^ k := Nat.pow_pos (by omega)
  have a : 1 ≤ n / 256 ^ k := (Nat.le_div_iff_mul_le hp).2 (by omega)
  have b : n / 256 ^ k < 256 := Nat.div_lt_of_lt_mul (by omega)
  omega
theorem numR_put (n : Nat) (h : n < 256 ^ 8) (r : List UInt8) : numR (putNum n ++ r) = (n, nb n + 1, 0) := by
  have hk : nb n ≤ 8 := nb_le h
  have e : (UInt8.ofNat (nb n)).toNat = nb n := by rw [ofNat_mod]; omega
  unfold putNum
  rw [List.cons_append]
  simp only [numR]
  rw [e]
  have hn : ¬ (8 < nb n ∨ (0 < nb n ∧ (be (nb n) n ++ r)[0]? = some 0)) := by
    rintro (h1 | ⟨h1, h2⟩)
    · omega
    · rw [List.getElem?_append_left (by rw [be_length]; exact h1)] at h2
      refine be_head_ne ?_ h2
      rintro rfl
      unfold nb at h1
      rw [lows_zero] at h1
      simp at h1
  rw [if_neg hn, if_neg (by rw [List.length_append, be_length]; omega), List.take_left' (be_length _ _), show val (be (nb n) n) = n from be_val _ _ (lows_lt n), Nat.add_comm]
theorem bytesR_put (d : List UInt8) (h : d.length < 256 ^ 8) (r : List UInt8) : bytesR (putBytes d ++ r) = (d, (putBytes d).length, 0) := by
  unfold putBytes bytesR
  rw [List.append_assoc, numR_put _ h]
  simp only [ne_eq, not_true_eq_false, if_false]
  have hl := putNum_length d.length
  rw [if_neg (by simp only [List.length_append]; omega), ← hl, List.drop_left, List.take_left]
  simp [List.length_append]
theorem val4 (n : Nat) (h : n < 4294967296) (r : List UInt8) : val ((be 4 n ++ r).take 4) = n := by
  rw [List.take_left' (be_length _ _)]
  exact be_val 4 n (by simpa using h)
theorem unR_frame (d : List UInt8) (h : d.length ≤ 65536) (r : List UInt8) : unR (frame d ++ r) = (d, (frame d).length, 0) := by
  have e4 : frame d ++ r = be 4 d.length ++ (be 4 (crc (be 4 d.length ++ d)) ++ (d ++ r)) := by simp [frame]
  have hl := frame_length d
  have t4 : (frame d ++ r).take 4 = be 4 d.length := by rw [e4]; exact List.take_left' (be_length _ _)
  have d4 : (frame d ++ r).drop 4 = be 4 (crc (be 4 d.length ++ d)) ++ (d ++ r) := by rw [e4]; exact List.drop_left' (be_length _ _)
  have d8 : (frame d ++ r).drop 8 = d ++ r := by
    have : (frame d ++ r).drop 8 = ((frame d ++ r).drop 4).drop 4 := by rw [List.drop_drop]
    rw [this, d4]; exact List.drop_left' (be_length _ _)
  have v4 : val (be 4 d.length) = d.length := be_val 4 _ (by simp; omega)
  unfold unR
  rw [t4, d4, d8, v4, List.take_left' (be_length _ _), be_val 4 _ (by simpa using crc_lt _), List.take_left]
  rw [if_neg (by rw [List.length_append]; omega), if_neg (by omega), if_neg (by rw [List.length_append]; omega), if_neg (by simp), hl, Nat.add_comm]
theorem unR_short (d : List UInt8) (h : d.length ≤ 65536) (k : Nat) (hk : k < (frame d).length) : (unR ((frame d).take k)).2.2 = 5 := by
  have hl := frame_length d
  have hlk : ((frame d).take k).length = k := by rw [List.length_take]; omega
  unfold unR
  rw [hlk]
  by_cases h8 : k < 8
  · rw [if_pos h8]
  · have t4 : ((frame d).take k).take 4 = be 4 d.length := by
      rw [List.take_take, Nat.min_eq_left (by omega), frame, List.append_assoc]; exact List.take_left' (be_length _ _)
    rw [if_neg h8, t4, be_val 4 _ (by simp; omega), if_neg (by omega), if_pos (by omega)]

theorem unR_parts (h s d : List UInt8) (h4 : h.length = 4) (s4 : s.length = 4) (hv : val h = d.length) (hd : d.length ≤ 65536) (hc : crc (h ++ d) ≠ val s) : unR (h ++ (s ++ d)) = ([], 0, 6) := by
  have t4 : (h ++ (s ++ d)).take 4 = h := List.take_left' h4
  have d4 : (h ++ (s ++ d)).drop 4 = s ++ d := List.drop_left' h4
  have d8 : (h ++ (s ++ d)).drop 8 = d := by
    have : (h ++ (s ++ d)).drop 8 = ((h ++ (s ++ d)).drop 4).drop 4 := by rw [List.drop_drop]
    rw [this, d4]; exact List.drop_left' s4
  have hl : (h ++ (s ++ d)).length = d.length + 8 := by rw [List.length_append, List.length_append]; omega
  unfold unR
  rw [t4, d4, d8, hv, hl, List.take_left' s4, List.take_length]
  rw [if_neg (by omega), if_neg (by omega), if_neg (by omega), if_pos hc]
/-- A frame in whose sum or data one byte is another one. -/
theorem unR_flip (d : List UInt8) (hd : d.length ≤ 65536) (q : Nat) (hq : 4 + q < (frame d).length) (y : UInt8) (hy : y ≠ (frame d)[4 + q]) : unR ((frame d).set (4 + q) y) = ([], 0, 6) := by
  have hfl := frame_length d
  have hb : (be 4 d.length).length = 4 := be_length _ _
  have hs : (be 4 (crc (be 4 d.length ++ d))).length = 4 := be_length _ _
  have hv : val (be 4 d.length) = d.length := be_val 4 _ (by simp; omega)
  have hc : val (be 4 (crc (be 4 d.length ++ d))) = crc (be 4 d.length ++ d) := be_val 4 _ (by simpa using crc_lt _)
  have hx : (frame d)[4 + q]? = some (frame d)[4 + q] := List.getElem?_eq_getElem hq
  generalize (frame d)[4 + q] = x at hy hx
  have ef : frame d = be 4 d.length ++ (be 4 (crc (be 4 d.length ++ d)) ++ d) := by simp [frame]
  rw [ef] at hx ⊢
  generalize hS : be 4 (crc (be 4 d.length ++ d)) = s at *
  generalize hH : be 4 d.length = h at *
  rw [List.set_append_right _ _ (by omega), hb, Nat.add_sub_cancel_left]
  rw [List.getElem?_append_right (by omega), hb, Nat.add_sub_cancel_left] at hx
  by_cases h4 : q < 4
  · rw [List.set_append_left _ _ (by omega)]
    rw [List.getElem?_append_left (by omega)] at hx
    refine unR_parts h _ d hb (by rw [List.length_set]; exact hs) hv hd (fun e => ?_)
    rw [← hc] at e
    have e1 := val_be (s.set q y)
    have e2 := val_be s
    rw [List.length_set, ← e, e2] at e1
    have e3 := congrArg (fun l => l[q]?) e1
    simp only [List.getElem?_set_self (show q < s.length by omega)] at e3
    rw [hx] at e3
    injection e3 with e3
    exact hy e3.symm
  · rw [List.set_append_right _ _ (by omega), hs]
    rw [List.getElem?_append_right (by omega), hs] at hx
    have hi : q - 4 < d.length := by omega
    refine unR_parts h s _ hb hs (by rw [List.length_set]; exact hv) (by rw [List.length_set]; exact hd) (fun e => ?_)
    rw [hc] at e
    have e1 : d = d.take (q - 4) ++ x :: d.drop (q - 4 + 1) := by
      conv => lhs; rw [← List.take_append_drop (q - 4) d, List.drop_eq_getElem_cons hi]
      rw [List.getElem?_eq_getElem hi] at hx
      injection hx with hx
      rw [hx]
    rw [List.set_eq_take_append_cons_drop, if_pos hi] at e
    conv at e => rhs; rw [e1]
    rw [← List.append_assoc, ← List.append_assoc] at e
    exact crc_one _ _ y x hy e

/-- Numbers one behind the other. -/
def putAll (l : List Nat) : List UInt8 := l.flatMap putNum
theorem putAll_prefix : ∀ (a b : List Nat), (∀ n ∈ a, n < 256 ^ 8) → (∀ n ∈ b, n < 256 ^ 8) → ((putAll a).isPrefixOf (putAll b) = true ↔ a.isPrefixOf b = true) := by
  intro a
  induction a with
  | nil => intro b _ _; simp [putAll]
  | cons x a ih =>
    intro b ha hb
    cases b with
    | nil => simp [putAll, putNum]
    | cons y b =>
      have hx := ha x List.mem_cons_self
      have hy := hb y List.mem_cons_self
      have ih' := ih b (fun n hn => ha n (List.mem_cons_of_mem _ hn)) (fun n hn => hb n (List.mem_cons_of_mem _ hn))
      rw [List.isPrefixOf_iff_prefix] at ih' ⊢
      rw [List.isPrefixOf_iff_prefix] at ih' ⊢
      simp only [putAll, List.flatMap_cons]
      constructor
      · rintro ⟨z, hz⟩
        have e : x = y := by
          have h1 := numR_put x hx (a.flatMap putNum ++ z)
          have h2 := numR_put y hy (b.flatMap putNum)
          rw [← List.append_assoc, hz, h2] at h1
          simp only [Prod.mk.injEq] at h1
          exact h1.1.symm
        subst e
        rw [List.append_assoc] at hz
        have hz := List.append_cancel_left hz
        obtain ⟨z2, hz2⟩ := ih'.1 ⟨z, hz⟩
        exact ⟨z2, by rw [List.cons_append, hz2]⟩
      · rintro ⟨z, hz⟩
        rw [List.cons_append] at hz
        injection hz with e1 e2
        subst e1
        obtain ⟨z2, hz2⟩ := ih'.2 ⟨z, e2⟩
        exact ⟨z2, by rw [List.append_assoc]; exact congrArg (putNum x ++ ·) hz2⟩

/-- The bytes ahead of a frame's data are its own, or its sum does not fit. -/
theorem four_iff (b : List UInt8) (hb : 8 ≤ b.length) (d : List UInt8) (h : d.length = val (b.take 4)) :
    (frame d).take 8 = b.take 8 ↔ crc (b.take 4 ++ d) = val ((b.drop 4).take 4) := by
  have hl4 : (b.take 4).length = 4 := by rw [List.length_take]; omega
  have hl4' : ((b.drop 4).take 4).length = 4 := by rw [List.length_take, List.length_drop]; omega
  have e1 : be 4 d.length = b.take 4 := by rw [h]; have := val_be (b.take 4); rwa [hl4] at this
  have e2 : (frame d).take 8 = b.take 4 ++ be 4 (crc (b.take 4 ++ d)) := by
    unfold frame
    rw [e1]
    exact List.take_left' (by rw [List.length_append, be_length, hl4])
  have e3 : b.take 8 = b.take 4 ++ (b.drop 4).take 4 := by rw [← List.take_add]
  rw [e2, e3]
  constructor
  · intro hh
    have := List.append_cancel_left hh
    rw [← this, be_val 4 _ (by simpa using crc_lt _)]
  · intro hh
    rw [hh]
    have := val_be ((b.drop 4).take 4)
    rw [hl4'] at this
    rw [this]
theorem putNum_short (q : Nat) (h : q < 18446744073709551616) : (putNum q).length ≤ 9 := by
  have := nb_le (n := q) (k := 8) (by simpa using h)
  rw [putNum_length]; omega
theorem putBytes_length (l : List UInt8) (h : l.length ≤ 140737488355328) : (putBytes l).length ≤ l.length + 9 := by
  have h2 : nb l.length ≤ 8 := nb_le (by omega)
  unfold putBytes
  rw [List.length_append, putNum_length]; omega
def putLists (ls : List (List UInt8)) : List UInt8 := ls.flatMap putBytes
theorem putLists_take (ls : List (List UInt8)) (k : Nat) : (putLists (ls.take k)).length ≤ (putLists ls).length := by
  conv => rhs; rw [← List.take_append_drop k ls]
  unfold putLists
  rw [List.flatMap_append, List.length_append]
  omega
end Go.Proofs.YtdbaajgkcjpnoaaGreat.CoP

/-! What a call gives, as plain posts; and facts of numbers read. Nothing here speaks of one function. -/
namespace Go.Proofs.YtdbaajgkcjpnoaaGreat.Co
open Go.RowKit By CoP

/-- Gives a value, all memory as it was. -/
def Ret (v : Value) (w : World) (e : Ending) (w' : World) : Prop := e = .returned v ∧ w = w'
theorem Ret.int {k : IntKind} {a b : Int} (w : World) (h : a = b) : Ret (.int k a) w (.returned (.int k b)) w := ⟨by rw [h], rfl⟩
/-- Gives bytes of the call's own, from block base on. -/
def Gives (base : Nat) (l : List UInt8) (w : World) (e : Ending) (w' : World) : Prop := ∃ v, e = .returned v ∧ Own base w' v l ∧ Below base w w'

/-- Gives a number, a place and an error; old memory as it was. -/
def GivesN (n : Nat) (next er : Int) (w : World) (e : Ending) (w' : World) : Prop := e = .returned (.tuple #[.int .u64 (n : Int), .int .i64 next, .int .i64 er]) ∧ Below w.heap.size w w'
theorem GivesN.of {n : Nat} {next er N next' er' : Int} {w w' : World} (h1 : N = n) (h2 : next' = next) (h3 : er' = er) (hb : Below w.heap.size w w') : GivesN n next er w (.returned (.tuple #[.int .u64 N, .int .i64 next', .int .i64 er'])) w' := ⟨by rw [h1, h2, h3], hb⟩
/-- The place behind what was read, if there was no error. -/
def nextI (k used er : Nat) : Int := if er = 0 then ((k + used : Nat) : Int) else 0
theorem nextI_ok (k used : Nat) : nextI k used 0 = (k : Int) + (used : Int) := by unfold nextI; rw [if_pos rfl]; omega
theorem below_drewN {B : Nat} {a w : World} (h : Below B a w) (q : Nat) : Below B a (w.drewN q) := ⟨h.os, h.tape, h.output, h.size, h.block⟩

theorem numR_big {x : UInt8} {t : List UInt8} (h : 8 < x.toNat) : numR (x :: t) = (0, 0, 4) := by simp only [numR]; rw [if_pos (.inl h)]
theorem numR_zero {x : UInt8} {t : List UInt8} (h : 0 < x.toNat) (h0 : t[0]? = some 0) : numR (x :: t) = (0, 0, 4) := by simp only [numR]; rw [if_pos (.inr ⟨h, h0⟩)]
theorem numR_short {x : UInt8} {t : List UInt8} (h8 : ¬ 8 < x.toNat) (h0 : ¬ (0 < x.toNat ∧ t[0]? = some 0)) (h : t.length < x.toNat) : numR (x :: t) = (0, 0, 5) := by
  simp only [numR]; rw [if_neg (fun h => h.elim h8 h0), if_pos h]
theorem numR_ok {x : UInt8} {t : List UInt8} (h8 : ¬ 8 < x.toNat) (h0 : ¬ (0 < x.toNat ∧ t[0]? = some 0)) (h : ¬ t.length < x.toNat) : numR (x :: t) = (val (t.take x.toNat), 1 + x.toNat, 0) := by
  simp only [numR]; rw [if_neg (fun h => h.elim h8 h0), if_neg h]
theorem run_from' (w : World) (A : Option Addr) (n c k m d : Nat) (hm : n = k + m) (hd : c = k + d) : (Instr.slice 37 (.slice A n c) (some (.int .i64 (k : Int))) none none).run Tryz.prog w = .ok (.slice (cutA A c k) m d) w := by
  subst hm hd
  have := run_from w A (k + m) (k + d) k (by omega)
  rwa [show k + m - k = m by omega, show k + d - k = d by omega] at this
/-- Gives bytes of the call's own, a place and an error. -/
def Gives3 (base : Nat) (l : List UInt8) (next er : Int) (w : World) (e : Ending) (w' : World) : Prop := ∃ v, e = .returned (.tuple #[v, .int .i64 next, .int .i64 er]) ∧ Own base w' v l ∧ Below base w w'
theorem Gives3.of {base : Nat} {l : List UInt8} {v : Value} {next er next' er' : Int} {w w' : World} (h1 : next' = next) (h2 : er' = er) (h : Own base w' v l) (hb : Below base w w') : Gives3 base l next er w (.returned (.tuple #[v, .int .i64 next', .int .i64 er'])) w' := ⟨v, by rw [h1, h2], h, hb⟩

theorem numR_facts (b : List UInt8) : (numR b).2.2 = 0 → (numR b).2.1 ≤ b.length ∧ (numR b).1 < 18446744073709551616 := by
  cases b with
  | nil => intro h; simp [numR] at h
  | cons x t =>
    simp only [numR]
    split
    · intro h; simp at h
    · rename_i h1
      split
      · intro h; simp at h
      · rename_i h2
        intro _
        refine ⟨by simp only [List.length_cons]; omega, ?_⟩
        have h := val_lt (t.take x.toNat)
        have hl : (t.take x.toNat).length ≤ 8 := by rw [List.length_take]; omega
        have h8 : 256 ^ (t.take x.toNat).length ≤ 256 ^ 8 := Nat.pow_le_pow_right (by omega) hl
        have e8 : (256 : Nat) ^ 8 = 18446744073709551616 := by decide
        rw [e8] at h8
        exact Nat.lt_of_lt_of_le h h8
end Go.Proofs.YtdbaajgkcjpnoaaGreat.Co

/-! The reference's PutNum and PutBytes, as contracts of calls. -/
namespace Go.Proofs.YtdbaajgkcjpnoaaGreat.Co
open Go.RowKit By CoP

end Go.Proofs.YtdbaajgkcjpnoaaGreat.Co

/-! The reference's Num, as a contract of calls. -/
namespace Go.Proofs.YtdbaajgkcjpnoaaGreat.Co
open Go.RowKit By CoP

set_option maxHeartbeats 400000 in
theorem rnum_out (A : Option Addr) (n c : Nat) (k : Int) (w : World) (hk : k < 0 ∨ (n : Int) < k) :
    Calls Tryz.prog 120 #[.slice A n c, .int .i64 k] w (GivesN 0 0 1 w) := by
  rcases Int.lt_or_le k 0 with h0 | h0
  · clear hk
    go_enter Tryz.func120, Tryz.ntmps120
    go_wp2
    go_ret3
    exact GivesN.of rfl rfl rfl (Below.refl _ _)
  · have h1 : (n : Int) < k := by omega
    have h2 : ¬ (k < 0) := by omega
    clear hk
    go_enter Tryz.func120, Tryz.ntmps120
    go_wp2
    go_ret3
    exact GivesN.of rfl rfl rfl (Below.refl _ _)
set_option maxRecDepth 100000 in
set_option maxHeartbeats 800000 in
theorem rnum_in (A : Option Addr) (n c k B : Nat) (l : List UInt8) (hn : n = l.length) (hk : k ≤ n) (hm : n ≤ 140737488355328) (w : World) (hr : Lies w B A l) :
    Calls Tryz.prog 120 #[.slice A n c, .int .i64 (k : Int)] w (GivesN (numR (l.drop k)).1 (nextI k (numR (l.drop k)).2.1 (numR (l.drop k)).2.2) (numR (l.drop k)).2.2 w) := by
  have hk0 : ¬ ((k : Int) < 0) := by omega
  have hkn : ¬ ((n : Int) < (k : Int)) := by omega
  by_cases h0 : k = n
  · have hdrop : l.drop k = [] := List.drop_eq_nil_of_le (by omega)
    rw [hdrop]
    have hb : ((k : Int) == (n : Int)) = true := by rw [beq_iff_eq]; omega
    subst h0
    clear hn hdrop hr
    go_enter Tryz.func120, Tryz.ntmps120
    go_wp2
    go_ret3
    exact GivesN.of rfl rfl rfl (Below.refl _ _)
  · have hkl : k < l.length := by omega
    have hkn2 : k < n := by omega
    have hb : ((k : Int) == (n : Int)) = false := by rw [beq_eq_false_iff_ne]; omega
    have hdrop : l.drop k = l[k] :: l.drop (k + 1) := List.drop_eq_getElem_cons hkl
    obtain ⟨g, o, rfl, hg, hcell⟩ := hr.at_ hkl
    rw [hdrop]
    have hl1 : (l.drop (k + 1)).length = n - k - 1 := by rw [List.length_drop]; omega
    have hget : ∀ j, (hj : k + (j + 1) < n) → ∃ hj2 : j < (l.drop (k + 1)).length, w.cell? ⟨g, o + (k + (j + 1)), none⟩ = some (.int .u8 (((l.drop (k + 1))[j]).toNat : Int)) := by
      intro j hj
      refine ⟨by omega, ?_⟩
      obtain ⟨g', o', e, _, hc⟩ := hr.at_ (k := k + (j + 1)) (by omega)
      injection e with e
      injection e with e1 e2
      subst e1 e2
      rw [hc]
      congr 3
      rw [List.getElem_drop]
      congr 2
      omega
    have HG := Lib.hid hget
    generalize l[k] = x at hcell ⊢
    generalize l.drop (k + 1) = t at hl1 HG ⊢
    have HL1 := Lib.hid hl1
    have x0 := byte_lo x
    have x1 := byte_hi x
    obtain ⟨s, hs⟩ : ∃ s, x.toNat = s := ⟨_, rfl⟩
    have HS := Lib.hid hs
    rw [hs] at hcell x0 x1
    clear hs hn hdrop hr hkl h0 hl1 hget
    by_cases h8 : 8 < s
    · have HE := Lib.hid (numR_big (x := x) (t := t) (by have := HS.out; omega))
      go_enter Tryz.func120, Tryz.ntmps120
      go_wp2
      go_ret3
      rw [HE.out]
      exact GivesN.of rfl rfl rfl (Below.refl _ _)
    · by_cases hz : 0 < s ∧ t[0]? = some 0
      · obtain ⟨hs0, ht0⟩ := hz
        have htl : 0 < t.length := by
          rcases Nat.eq_zero_or_pos t.length with h | h
          · rw [List.getElem?_eq_none (by omega)] at ht0; cases ht0
          · exact h
        have hk1 : k + 1 < n := by have := HL1.out; omega
        obtain ⟨_, hc2⟩ := HG.out 0 (by omega)
        have hy : t[0] = 0 := by rw [List.getElem?_eq_getElem htl] at ht0; injection ht0
        rw [hy] at hc2
        have hc3 : w.cell? ⟨g, o + (k + 1), none⟩ = some (.int .u8 0) := hc2
        have HE := Lib.hid (numR_zero (x := x) (t := t) (by have := HS.out; omega) ht0)
        clear hc2 ht0 hy htl
        go_enter Tryz.func120, Tryz.ntmps120
        go_wp2
        go_ret3
        rw [HE.out]
        exact GivesN.of rfl rfl rfl (Below.refl _ _)
      · by_cases hsh : n - k - 1 < s
        · have HE := Lib.hid (numR_short (x := x) (t := t) (by have := HS.out; omega) (by rw [HS.out]; exact hz) (by have := HS.out; have := HL1.out; omega))
          have hsp : 0 < s := by omega
          have hsi : (n : Int) - (k : Int) - 1 < (s : Int) := by omega
          by_cases hk1 : k + 1 < n
          · obtain ⟨htl, hc2⟩ := HG.out 0 (by omega)
            have hy : t[0].toNat ≠ 0 := by
              intro h
              refine hz ⟨hsp, ?_⟩
              rw [List.getElem?_eq_getElem htl]
              congr 1
              exact UInt8.toNat_inj.1 h
            have y0 := byte_lo t[0]
            have y1 := byte_hi t[0]
            generalize t[0].toNat = y at hc2 hy y0 y1
            have hc3 : w.cell? ⟨g, o + (k + 1), none⟩ = some (.int .u8 (y : Int)) := hc2
            have hyb : ((y : Int) == 0) = false := by rw [beq_eq_false_iff_ne]; omega
            clear hc2 hy htl hz
            go_enter Tryz.func120, Tryz.ntmps120
            go_wp2
            go_ret3
            rw [HE.out]
            exact GivesN.of rfl rfl rfl (Below.refl _ _)
          · clear hz
            go_enter Tryz.func120, Tryz.ntmps120
            go_wp2
            go_ret3
            rw [HE.out]
            exact GivesN.of rfl rfl rfl (Below.refl _ _)
        · have HE := Lib.hid (numR_ok (x := x) (t := t) (by have := HS.out; omega) (by rw [HS.out]; exact hz) (by have := HS.out; have := HL1.out; omega))
          have hsi : ¬ ((n : Int) - (k : Int) - 1 < (s : Int)) := by omega
          by_cases hs0 : 0 < s
          · have hk1 : k + 1 < n := by omega
            obtain ⟨htl, hc2⟩ := HG.out 0 (by omega)
            have hy : t[0].toNat ≠ 0 := by
              intro h
              refine hz ⟨hs0, ?_⟩
              rw [List.getElem?_eq_getElem htl]
              congr 1
              exact UInt8.toNat_inj.1 h
            have y0 := byte_lo t[0]
            have y1 := byte_hi t[0]
            generalize t[0].toNat = y at hc2 hy y0 y1
            have hc3 : w.cell? ⟨g, o + (k + 1), none⟩ = some (.int .u8 (y : Int)) := hc2
            have hyb : ((y : Int) == 0) = false := by rw [beq_eq_false_iff_ne]; omega
            clear hc2 hy htl hz
            go_enter Tryz.func120, Tryz.ntmps120
            go_wp2
            go_loop [8, 9] (fun y i => ∃ (j : Nat), j ≤ s ∧ i = .int .i64 ((j : Int) + 1) ∧ y = .int .u64 (val (t.take j) : Nat)) (fun _ i => (s + 1) - (intOf i).toNat)
            case atStart => exact ⟨0, by omega, rfl, rfl⟩
            case round =>
              obtain ⟨j, hj, rfl, rfl⟩ := hrel
              by_cases hjs : j < s
              · obtain ⟨hj2, hc⟩ := HG.out j (by omega)
                have hv := val_lt (t.take j)
                have hlen : (t.take j).length = j := by rw [List.length_take]; omega
                have hs2 := val_take hj2
                have z255 : t[j].toNat < 256 := t[j].toNat_lt
                generalize t[j].toNat = z at hc hs2 z255
                obtain ⟨v, hv2⟩ : ∃ v, val (t.take j) = v := ⟨_, rfl⟩
                rw [hv2, hlen] at hv
                rw [hv2] at hs2 ⊢
                have hvb : v < 72057594037927936 := by
                  have h7 : 256 ^ j ≤ 256 ^ 7 := Nat.pow_le_pow_right (by omega) (by omega)
                  have h72 : (256 : Nat) ^ 7 = 72057594037927936 := by decide
                  omega
                have HV := Lib.hid (show (v : Int) * 256 + (z : Int) = ((val (t.take (j + 1)) : Nat) : Int) by rw [hs2]; omega)
                have z0 : (0 : Int) ≤ (z : Int) := by omega
                have z1 : (z : Int) ≤ 255 := by omega
                have v0 : (0 : Int) ≤ (v : Int) := by omega
                have v1 : (v : Int) ≤ 72057594037927935 := by omega
                clear hs2 hv hv2 hlen hvb z255 hj2
                go_wp2
                go_round
                case rel => exact ⟨j + 1, by omega, by go_num, by rw [HV.out]⟩
                case measure => simp [intOf]; omega
              · obtain rfl : j = s := by omega
                go_wp2
                go_ret3
                rw [HE.out, HS.out]
                exact GivesN.of rfl (by show _ = nextI k (1 + j) 0; rw [nextI_ok]; omega) rfl (Below.refl _ _)
          · clear hz
            go_enter Tryz.func120, Tryz.ntmps120
            go_wp2
            go_loop [8, 9] (fun y i => ∃ (j : Nat), j ≤ s ∧ i = .int .i64 ((j : Int) + 1) ∧ y = .int .u64 (val (t.take j) : Nat)) (fun _ i => (s + 1) - (intOf i).toNat)
            case atStart => exact ⟨0, by omega, rfl, rfl⟩
            case round =>
              obtain ⟨j, hj, rfl, rfl⟩ := hrel
              by_cases hjs : j < s
              · exact absurd hjs (by omega)
              · obtain rfl : j = s := by omega
                go_wp2
                go_ret3
                rw [HE.out, HS.out]
                exact GivesN.of rfl (by show _ = nextI k (1 + j) 0; rw [nextI_ok]; omega) rfl (Below.refl _ _)
end Go.Proofs.YtdbaajgkcjpnoaaGreat.Co

/-! The reference's Bytes, as a contract of calls. -/
namespace Go.Proofs.YtdbaajgkcjpnoaaGreat.Co
open Go.RowKit By CoP

end Go.Proofs.YtdbaajgkcjpnoaaGreat.Co
