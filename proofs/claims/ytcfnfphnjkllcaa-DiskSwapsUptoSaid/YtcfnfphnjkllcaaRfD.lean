/- Files as they are while the reference does a change; rows cut and stored into. No walk. -/
import Derived.Test.YtcfnfphnjkllcaaRfC
namespace Go.Proofs.Ytcfnfphnjkllcaa.Dk
open Go.RowKit Go.Maps By Mp

/-- 's[k:]' of files. -/
def cutRF (A : Option Addr) (c k : Nat) : Option Addr := if c = k then A else A.map (·.add (k * 2))
theorem run_fromF (w : World) (A : Option Addr) (n c k : Nat) (hk : k ≤ n) : (Instr.slice tRFs (.slice A n c) (some (.int .i64 (k : Int))) none none).run Try.prog w = .ok (.slice (cutRF A c k) (n - k) (c - k)) w := by
  have ht : Try.prog.underlying tRFs = some (.slice (Try.prog.elem tRFs)) := by simp [Program.elem, Try.underlying41]
  rw [run_slice_l w _ _ _ _ ht .i64 _ (by omega) (by omega)]
  have he : Try.prog.elem tRFs = tRF := by simp [Program.elem, Try.underlying41]
  rw [he, show (sizeOf tRF).run Try.prog w = .ok 2 w from by kernel_rfl]
  simp [Result.andThen, sliced, cutRF]
theorem run_toF (w : World) (A : Option Addr) (n c h : Nat) (hh : h ≤ c) : (Instr.slice tRFs (.slice A n c) none (some (.int .i64 (h : Int))) none).run Try.prog w = .ok (.slice A h c) w := by
  have ht : Try.prog.underlying tRFs = some (.slice (Try.prog.elem tRFs)) := by simp [Program.elem, Try.underlying41]
  rw [run_slice_h w _ _ _ _ ht .i64 _ (by omega) (by omega)]
  have he : Try.prog.elem tRFs = tRF := by simp [Program.elem, Try.underlying41]
  rw [he, show (sizeOf tRF).run Try.prog w = .ok 2 w from by kernel_rfl]
  cases A <;> simp [Result.andThen, sliced, Addr.add]
theorem ownsRow_cut {w : World} {base : Nat} {e : TypeId} {size n c k : Nat} {A : Option Addr} {xs : List Value} (h : w.ownsRow base e size (.slice A n c) n xs) (hk : k ≤ n) : w.ownsRow base e size (.slice A k c) k (xs.take (k * size)) := by
  have hle : k * size ≤ n * size := Nat.mul_le_mul_right _ hk
  refine ⟨by rw [List.length_take, h.1]; omega, ?_⟩
  rcases h.2 with ⟨e0, hn⟩ | ⟨g, cap, cur, e0, h1, h2, h3, h4, h5, h6⟩
  · injection e0 with e1 e2 e3
    subst e1 e3
    exact .inl ⟨by rw [show k = 0 by omega], by omega⟩
  · injection e0 with e1 e2 e3
    subst e1 e3
    refine .inr ⟨g, c, cur, rfl, h1, h2, by omega, h4, h5, ?_⟩
    rw [← h6, List.take_take, Nat.min_eq_left hle]
/-- What is behind place k of a row. -/
theorem ownsRow_from {w : World} {base : Nat} {n c k : Nat} {A : Option Addr} {xs : List Value} (h : w.ownsRow base tRF 2 (.slice A n c) n xs) (hk : k ≤ n) : 0 < n - k → ∃ a, cutRF A c k = some a ∧ ∀ j u, (xs.drop (k * 2))[j]? = some u → w.cell? (a.add j) = some u := by
  intro hp
  rcases h.2 with ⟨e0, hn⟩ | ⟨g, cap, cur, e0, h1, h2, h3, h4, h5, h6⟩
  · omega
  · injection e0 with e1 e2 e3
    subst e1 e3
    refine ⟨⟨g, k * 2, none⟩, ?_, fun j u hu => ?_⟩
    · unfold cutRF
      rw [if_neg (by omega)]
      show some (Addr.add _ _) = _
      rw [plainAdd, Nat.zero_add]
    · rw [plainAdd, cell_of_row w g _ _ _ _ h2]
      rw [List.getElem?_drop, ← h6, List.getElem?_take] at hu
      split at hu
      · simpa using hu
      · cases hu
theorem fget_idx {F : Fs} {nm b : Bs} (hup : Up F) (h : fget F nm = some b) : F = F.take (fidx F nm) ++ (nm, b) :: F.drop (fidx F nm + 1) := by
  have h1 := fput_idx (n := nm) b hup
  have h2 : fput nm b F = F := up_ext (hup.put nm b) hup (fun m => by
    rw [fget_put]
    split
    · rename_i e
      rw [e, h]
    · rfl)
  have h3 : fthere F nm = true := by unfold fthere; rw [h]; rfl
  rw [h2, h3, if_pos rfl] at h1
  exact h1
/-- Files with the file there. -/
def midF (F : Fs) (nm : Bs) : Fs := F.take (fidx F nm) ++ (nm, bytesOf F nm) :: F.drop (fidx F nm + (if fthere F nm then 1 else 0))
theorem midF_there {F : Fs} {nm : Bs} (hup : Up F) (h : fthere F nm = true) : midF F nm = F := by
  obtain ⟨b, hb⟩ := Option.isSome_iff_exists.1 h
  unfold midF bytesOf
  rw [h, if_pos rfl, hb]
  exact (fget_idx hup hb).symm
theorem take_idx (F : Fs) (nm : Bs) : (F.take (fidx F nm)).length = fidx F nm := by
  rw [List.length_take]
  have := fidx_le F nm
  omega
theorem midF_get (F : Fs) (nm : Bs) : (midF F nm)[fidx F nm]? = some (nm, bytesOf F nm) := by
  unfold midF
  rw [List.getElem?_append_right (by rw [take_idx]; exact Nat.le_refl _), take_idx, Nat.sub_self]
  rfl
theorem midF_set {F : Fs} {nm : Bs} (hup : Up F) (b : Bs) : (midF F nm).set (fidx F nm) (nm, b) = fput nm b F := by
  rw [fput_idx b hup]
  unfold midF
  rw [List.set_append_right _ _ (by rw [take_idx]; exact Nat.le_refl _), take_idx, Nat.sub_self]
  rfl
theorem midF_len (F : Fs) (nm : Bs) : (midF F nm).length ≤ F.length + 1 := by
  unfold midF
  rw [List.length_append, take_idx, List.length_cons, List.length_drop]
  have := fidx_le F nm
  split <;> omega
theorem mem_mid {F : Fs} {nm : Bs} {p : Bs × Bs} (h : p ∈ midF F nm) : p = (nm, bytesOf F nm) ∨ p ∈ F := by
  unfold midF at h
  rcases List.mem_append.1 h with h | h
  · exact .inr (List.mem_of_mem_take h)
  · rcases List.mem_cons.1 h with h | h
    · exact .inl h
    · exact .inr (List.mem_of_mem_drop h)
theorem fRow_set {A' : Option Addr} {c' : Nat} {b' : Bs} : ∀ {l : Fs} {ac : List AC} {k : Nat} {x : Bs × Bs}, l[k]? = some x → ac.length = l.length → (fRow l ac).set (k * 2 + 1) (.slice A' b'.length c') = fRow (l.set k (x.1, b')) (ac.set k (A', c'))
  | [], _, _, _, h, _ => by simp at h
  | _ :: _, [], _, _, _, h => by simp at h
  | y :: l, b :: ac, 0, x, hx, _ => by
    simp only [List.getElem?_cons_zero, Option.some.injEq] at hx
    subst hx
    rfl
  | y :: l, b :: ac, k + 1, x, hx, h => by
    show (fCells y b ++ fRow l ac).set ((k + 1) * 2 + 1) _ = fCells y b ++ fRow (l.set k (x.1, b')) (ac.set k (A', c'))
    rw [List.set_append_right _ _ (by simp [fCells]; omega), show (k + 1) * 2 + 1 - (fCells y b).length = k * 2 + 1 by simp [fCells]; omega]
    rw [fRow_set (by simpa using hx) (by simpa using h)]
/-- A file's bytes are stored into a row. -/
theorem rf_store {w : World} {base gr n cap i cb : Nat} {F1 : Fs} {ac : List AC} {x : Bs × Bs} {nb : Bs} {Ab : Option Addr} {S : Nat → Prop} (hn : n = F1.length) (how : w.ownsRow base tRF 2 (.slice (some ⟨gr, 0, none⟩) n cap) n (fRow F1 ac)) (hac : ac.length = F1.length) (hx : F1[i]? = some x)
    (hda : ∀ (j : Nat) (y : Bs × Bs) (a : AC), j ≠ i → F1[j]? = some y → ac[j]? = some a → y.2.length ≤ a.2 ∧ LiesS w S a.1 y.2) (hS : ∀ b, S b → b ≠ gr) (hnb : nb.length ≤ cb) (hl : LiesS w S Ab nb) :
    RfAt (w.setCell ⟨gr, i * 2 + 1, none⟩ (.slice Ab nb.length cb)) base S (.slice (some ⟨gr, 0, none⟩) n cap) (F1.set i (x.1, nb)) := by
  have hb : ∀ b, S b → (w.setCell ⟨gr, i * 2 + 1, none⟩ (.slice Ab nb.length cb)).heap[b]? = w.heap[b]? := fun b h => heap_setCell_other w ⟨gr, i * 2 + 1, none⟩ b _ (hS b h)
  refine ⟨ac.set i (Ab, cb), by simp [hac], ?_, fun j y a hy ha => ?_⟩
  · have h1 := (World.ownsRow.stored how (i * 2 + 1) (.slice Ab nb.length cb)).1
    rw [fRow_set hx hac] at h1
    rw [List.length_set, ← hn]
    exact h1
  · by_cases hj : j = i
    · subst hj
      rw [List.getElem?_set_self (by exact (List.getElem?_eq_some_iff.1 hx).1)] at hy
      rw [List.getElem?_set_self (by rw [hac]; exact (List.getElem?_eq_some_iff.1 hx).1)] at ha
      injection hy with hy
      injection ha with ha
      subst hy ha
      exact ⟨hnb, hl.keep hb (fun _ h => h)⟩
    · rw [List.getElem?_set_ne (fun e => hj e.symm)] at hy ha
      obtain ⟨h1, h2⟩ := hda j y a hj hy ha
      exact ⟨h1, h2.keep hb (fun _ h => h)⟩
/-- The bytes while they are written over: k of d's are in. -/
def midB (b : Bs) (off : Nat) (d : Bs) (k : Nat) : Bs := b.take off ++ d.take k ++ b.drop (off + k)
theorem midB_zero (b : Bs) (off : Nat) (d : Bs) : midB b off d 0 = b := by simp [midB]
theorem midB_len {b : Bs} {off : Nat} {d : Bs} {k : Nat} (hk : k ≤ d.length) (hb : off + d.length ≤ b.length) : (midB b off d k).length = b.length := by
  simp [midB]
  omega
theorem midB_set {b : Bs} {off : Nat} {d : Bs} {k : Nat} (hk : k < d.length) (hb : off + d.length ≤ b.length) : (midB b off d k).set (off + k) d[k] = midB b off d (k + 1) := by
  have h1 : (b.take off ++ d.take k).length = off + k := by simp; omega
  unfold midB
  rw [List.set_append_right _ _ (by rw [h1]; exact Nat.le_refl _), h1, Nat.sub_self, List.drop_eq_getElem_cons (by omega : off + k < b.length), List.set_cons_zero, List.take_succ_eq_append_getElem hk]
  simp only [List.append_assoc, List.cons_append, List.nil_append, Nat.add_assoc]
theorem midB_end (b : Bs) (off : Nat) (d : Bs) : midB (padTo b (off + d.length)) off d d.length = putB b off d := by
  have e1 : (padTo b (off + d.length)).take off = (padTo b off).take off := by
    apply bs_ext
    · simp [padTo]; omega
    · intro j hj
      have hj : j < off := by simp [padTo] at hj; omega
      have h1 := padTo_get b (off + d.length) j
      have h2 := padTo_get b off j
      simp only [List.getD_eq_getElem?_getD] at h1 h2 ⊢
      rw [List.getElem?_take_of_lt hj, List.getElem?_take_of_lt hj, h1, h2]
  have e2 : (padTo b (off + d.length)).drop (off + d.length) = b.drop (off + d.length) := by
    unfold padTo
    by_cases h : off + d.length ≤ b.length
    · rw [show off + d.length - b.length = 0 by omega]; simp
    · rw [List.drop_of_length_le (by simp; omega), List.drop_of_length_le (by omega)]
  unfold midB putB
  rw [e1, e2, List.take_length]
theorem pad_end {b : Bs} {t k : Nat} (hk : k ≤ t - b.length) (h : ¬ b.length + k < t) : b ++ List.replicate k 0 = padTo b t := by
  unfold padTo
  rw [show k = t - b.length by omega]
end Go.Proofs.Ytcfnfphnjkllcaa.Dk
