/- The reference's Do and Files, as contracts of calls. | The reference's disk in memory; its burns and Change, as contracts of calls. -/
import Derived.Test.YtcfnfphnjkllcaaRfF
/-! The reference's Do and Files, as contracts of calls. -/
namespace Go.Proofs.Ytcfnfphnjkllcaa.Dk
open Go.RowKit Go.Maps By Mp

theorem do_any (v0 : Value) (base : Nat) (S : Nat → Prop) (F : Fs) (k : Nat) (nm : Bs) (off : Nat) (d : Bs) (A : Option Addr) (c B : Nat) (w : World) (h : RfAt w base S v0 F) (hS : ∀ b, S b → b < w.heap.size) (hv0 : ∀ b, v0.ownBlock = some b → b < w.heap.size) (hl : F.length ≤ 68719476736) (hup : Up F) (hok : ∀ p ∈ F, p.2.length ≤ 1099511627776)
    (hk : 1 ≤ k ∧ k ≤ 3) (hoff : off ≤ 4194304) (hd : d.length ≤ 1099511627776) (hr : Lies w B A d) (hB : B ≤ w.heap.size) :
    Calls Try.prog 40 #[v0, wV k nm (off : Int) A d.length c] w (GivesF (doW F ⟨k, nm, off, d⟩) w) := by
  by_cases h3 : k = 3
  · exact do_del v0 base S F k nm off d A c w h hS hv0 hl hup hok h3
  · exact do_put v0 base S F k nm off d A c B w h hS hv0 hl hup hok ⟨hk.1, by omega⟩ hoff hd hr hB
theorem rf_own_lt {w : World} {base : Nat} {S : Nat → Prop} {v : Value} {l : Fs} (h : RfAt w base S v l) {b : Nat} (hb : v.ownBlock = some b) : base ≤ b ∧ b < w.heap.size := by
  obtain ⟨ac, _, h2, _⟩ := h
  exact ownsRow_lt h2 hb
abbrev rdC (v u : Value) (room fuse : Int) (down : Bool) : Array Value := #[v, u, .int .i64 room, .int .i64 fuse, .bool down]
/-- Files of the call's own, so far. -/
def GotR (w wr : World) (v : Value) (F : Fs) : Prop := RfAt wr w.heap.size (New8 w wr) v F ∧ Below w.heap.size w wr
theorem GotR.next {w wr w' : World} {v v' : Value} {F F' : Fs} (h : GotR w wr v F) (h1 : RfAt w' wr.heap.size (New8 wr w') v' F') (hb : Below wr.heap.size wr w') : GotR w w' v' F' := by
  refine ⟨?_, h.2.trans (hb.mono h.2.size)⟩
  exact (h1.base h.2.size).keep (fun _ _ => rfl) (fun _ _ => rfl) (fun b hb' => ⟨Nat.le_trans h.2.size hb'.1, hb'.2.1, hb'.2.2⟩)
set_option maxRecDepth 100000 in
set_option maxHeartbeats 2000000 in
theorem rfiles_any (r : Nat) (s : DS) (v u : Value) (S : Nat → Prop) (cs : Array Value) (w : World) (hr : w.heap[r]? = some (.cells cs tRD (0, 0))) (hc0 : cs[0]? = some v) (hc1 : cs[1]? = some u)
    (hv : RfAt w 0 S v s.sure) (hu : WsAt w 0 S u s.unsure) (hS : ∀ b, S b → b < w.heap.size) (hok : s.Ok) (hcnt : s.cnt ≤ 68719476736) :
    Calls Try.prog 18 #[.pointer (some ⟨r, 0, none⟩)] w (GivesF s.files w) := by
  obtain ⟨Av, cv, rfl, _, hmv, _⟩ := hv.form
  obtain ⟨A, c, rfl, hc, hm, hub⟩ := hu.form
  unfold maxLen at hm hmv
  have HOWN := Lib.hid (own_any _ 0 S s.sure w hv hS (by unfold DS.cnt at hcnt; omega) (fun p hp => Nat.le_trans (hok.fit p hp).1 (by decide)))
  have h0 : w.cell? ⟨r, 0, none⟩ = some (.slice Av s.sure.length cv) := by rw [cell_of_row w r 0 _ _ _ hr]; exact hc0
  have HR := Lib.hid (fun w' (hb : Below w.heap.size w w') => (show w'.cell? ⟨r, 1, none⟩ = some (.slice A s.unsure.length c) by rw [cell_of_row w' r 1 _ _ _ ((hb.block r (row_lt hr)).trans hr)]; exact hc1))
  have HU := Lib.hid hu
  have HS := Lib.hid hS
  have HOK := Lib.hid hok
  have HCNT := Lib.hid hcnt
  clear hr hc0 hc1 hv hu hS hok hcnt hub
  go_enter Try.func18, Try.ntmps18
  go_wp2_with fail
  refine HOWN.out.mono ?_
  rintro e w1 ⟨v1, rfl, ho1, hb1⟩
  have HG := Lib.hid (show GotR w w1 v1 s.sure from ⟨ho1.at_, hb1⟩)
  clear ho1 hb1 HOWN h0
  go_wp2
  go_loopw [3, 4] (fun v i wr => ∃ k : Nat, k ≤ s.unsure.length ∧ i = .int .i64 (k : Int) ∧ GotR w wr v ((s.unsure.take k).foldl doW s.sure)) (fun _ i _ => s.unsure.length - (intOf i).toNat)
  case atStart => exact ⟨0, Nat.zero_le _, rfl, HG.out⟩
  case round =>
    obtain ⟨k, hk, rfl, hg⟩ := hrel
    have HGR := Lib.hid hg
    have hr1 := HR.out _ hg.2
    clear hg HG
    by_cases hlt : k < s.unsure.length
    · obtain ⟨ub, cap, A1, c1, e0, _, hub, hd1, hd2, hx0, hx1, hx2, hx3⟩ := HU.out.at_ hlt
      obtain ⟨x, hx⟩ : ∃ x, x = s.unsure[k] := ⟨_, rfl⟩
      rw [← hx] at hd1 hd2 hx0 hx1 hx2 hx3
      have hox := HOK.out.un x (hx ▸ List.getElem_mem hlt)
      have HTK := Lib.hid (show (s.unsure.take (k + 1)).foldl doW s.sure = doW ((s.unsure.take k).foldl doW s.sure) x by rw [foldl_snoc hlt, hx])
      simp only [Value.slice.injEq, true_and] at e0
      obtain ⟨rfl, rfl⟩ := e0
      have hc0 : wr.cell? ⟨ub, k * 4, none⟩ = some (.int .i64 (x.kind : Nat)) := (HGR.out.2.cell hub).trans hx0
      have hc1 : wr.cell? ⟨ub, k * 4 + 1, none⟩ = some (.string (str x.name)) := (HGR.out.2.cell hub).trans hx1
      have hc2 : wr.cell? ⟨ub, k * 4 + 2, none⟩ = some (.int .i64 (x.off : Nat)) := (HGR.out.2.cell hub).trans hx2
      have hc3 : wr.cell? ⟨ub, k * 4 + 3, none⟩ = some (.slice A1 x.data.length c1) := (HGR.out.2.cell hub).trans hx3
      have hsub : ∀ y ∈ s.unsure.take k, y ∈ s.unsure := fun y hy => List.mem_of_mem_take hy
      have hlen : ((s.unsure.take k).foldl doW s.sure).length ≤ 68719476736 := by
        have h1 := len_all (l := s.unsure.take k) HOK.out.up
        have h2 := HCNT.out
        unfold DS.cnt at h2
        rw [List.length_take] at h1
        omega
      have hfit := fit_all (l := s.unsure.take k) HOK.out.fit (fun y hy => HOK.out.un y (hsub y hy))
      have hdo := do_any u3 w.heap.size (New8 w wr) ((s.unsure.take k).foldl doW s.sure) x.kind x.name x.off x.data A1 c1 wr.heap.size wr HGR.out.1 (fun b hb => hb.2.1) (fun b hb => (rf_own_lt HGR.out.1 hb).2) hlen (up_all HOK.out.up) (fun p hp => Nat.le_trans (hfit p hp).1 (by decide))
        ⟨hox.1, hox.2.1⟩ (by have := hox.2.2.1; omega) (by have := hox.2.2.1; omega) (((hd2.lies HS.out).below HGR.out.2).more HGR.out.2.size) (Nat.le_refl _)
      unfold wV at hdo
      have HDO := Lib.hid hdo
      clear hdo hfit hlen hsub hx0 hx1 hx2 hx3 hd1 hd2 hox hx
      go_wp2_with fail
      refine HDO.out.mono ?_
      rintro e w2 ⟨v2, rfl, ho2, hb2⟩
      have HG2 := Lib.hid (HGR.out.next ho2 hb2)
      obtain ⟨A2, c2, rfl, _⟩ := ho2.form
      clear ho2 hb2 HDO hc0 hc1 hc2 hc3
      go_wp2
      go_roundw
      case rel => exact ⟨k + 1, by omega, by go_num, by rw [HTK.out]; exact HG2.out⟩
      case measure => simp [intOf]; omega
    · have hke : k = s.unsure.length := by omega
      have HKE := Lib.hid hke
      clear hke
      go_wp2
      go_ret
      have h1 := HGR.out
      rw [HKE.out, List.take_length] at h1
      exact ⟨_, rfl, h1.1, h1.2⟩
end Go.Proofs.Ytcfnfphnjkllcaa.Dk

/-! The reference's disk in memory; its burns and Change, as contracts of calls. -/
namespace Go.Proofs.Ytcfnfphnjkllcaa.Dk
open Go.RowKit Go.Maps By Mp

/-- The reference's disk at block r is s; its parts; all that it reads lies in blocks of T, what it writes in blocks of M. -/
structure RDW (w : World) (r : Nat) (s : DS) (T M : Nat → Prop) (v u : Value) : Prop where
  row : w.heap[r]? = some (.cells (rdC v u s.room s.fuse s.down) tRD (0, 0))
  sure : RfAt w 0 (fun b => T b ∧ U8 w b) v s.sure
  un : WsAt w 0 (fun b => T b ∧ U8 w b) u s.unsure
  mr : M r
  tv : ∀ b, v.ownBlock = some b → T b
  mu : ∀ b, u.ownBlock = some b → M b
  mt : ∀ b, M b → T b
  lt : ∀ b, T b → b < w.heap.size
  ok : s.Ok
def RDAt (w : World) (r : Nat) (s : DS) (T M : Nat → Prop) : Prop := ∃ v u, RDW w r s T M v u
theorem RDW.keep {w w' : World} {r : Nat} {s : DS} {T M : Nat → Prop} {v u : Value} (h : RDW w r s T M v u) (hk : ∀ b, T b → w'.heap[b]? = w.heap[b]?) (hz : w.heap.size ≤ w'.heap.size) : RDW w' r s T M v u :=
  ⟨(hk r (h.mt r h.mr)).trans h.row, h.sure.keep (fun b hb => hk b (h.tv b hb)) (fun b hb => hk b hb.1) (fun b hb => ⟨hb.1, u8_keep hb.2 (hk b hb.1)⟩), h.un.keep (fun b hb => hk b (h.mt b (h.mu b hb))) (fun b hb => hk b hb.1) (fun b hb => ⟨hb.1, u8_keep hb.2 (hk b hb.1)⟩), h.mr, h.tv, h.mu, h.mt, fun b hb => Nat.lt_of_lt_of_le (h.lt b hb) hz, h.ok⟩
theorem RDAt.keep {w w' : World} {r : Nat} {s : DS} {T M : Nat → Prop} (h : RDAt w r s T M) (hk : ∀ b, T b → w'.heap[b]? = w.heap[b]?) (hz : w.heap.size ≤ w'.heap.size) : RDAt w' r s T M := by
  obtain ⟨v, u, h⟩ := h
  exact ⟨v, u, h.keep hk hz⟩
theorem RDAt.below {w w' : World} {r : Nat} {s : DS} {T M : Nat → Prop} (h : RDAt w r s T M) (hb : Below w.heap.size w w') : RDAt w' r s T M := by
  obtain ⟨v, u, h⟩ := h
  exact ⟨v, u, h.keep (fun b hB => hb.block b (h.lt b hB)) hb.size⟩
/-- A call that gives val and makes the reference's disk s'. -/
def RDStep (val : Value) (r : Nat) (s' : DS) (T M : Nat → Prop) (w : World) (e : Ending) (w' : World) : Prop := e = .returned val ∧ ∃ T' M', RDAt w' r s' T' M' ∧ (∀ b, T' b → T b ∨ w.heap.size ≤ b) ∧ (∀ b, M' b → M b ∨ w.heap.size ≤ b) ∧ Kept M w w'
theorem rdstep_same {r : Nat} {s : DS} {T M : Nat → Prop} {w w' : World} {val : Value} (h : RDAt w r s T M) (hb : Below w.heap.size w w') : RDStep val r s T M w (.returned val) w' := ⟨rfl, T, M, h.below hb, fun _ hb => .inl hb, fun _ hb => .inl hb, Kept.of_below hb⟩
theorem rd_done {w w6 : World} {r : Nat} {s s' : DS} {T M : Nat → Prop} {v u v6 u6 : Value} {val : Value} (h : RDW w r s T M v u) (hok : s'.Ok) (row : w6.heap[r]? = some (.cells (rdC v6 u6 s'.room s'.fuse s'.down) tRD (0, 0)))
    (hsu : RfAt w6 0 (fun b => (T b ∨ w.heap.size ≤ b) ∧ U8 w6 b) v6 s'.sure) (hv6 : ∀ b, v6.ownBlock = some b → T b ∨ w.heap.size ≤ b) (hun : WsAt w6 0 (fun b => (T b ∨ w.heap.size ≤ b) ∧ U8 w6 b) u6 s'.unsure) (hu6 : ∀ b, u6.ownBlock = some b → M b ∨ w.heap.size ≤ b) (hk : Kept M w w6) : RDStep val r s' T M w (.returned val) w6 := by
  have hlt : ∀ b, T b → b < w6.heap.size := fun b hb => Nat.lt_of_lt_of_le (h.lt b hb) hk.size
  have hul : ∀ b, U8 w6 b → b < w6.heap.size := by rintro b ⟨cs, fr, hb⟩; exact row_lt hb
  refine ⟨rfl, fun b => (T b ∨ w.heap.size ≤ b) ∧ b < w6.heap.size, fun b => (M b ∨ w.heap.size ≤ b) ∧ b < w6.heap.size, ⟨v6, u6, row, hsu.keep (fun _ _ => rfl) (fun _ _ => rfl) (fun b hb => ⟨⟨hb.1, hul b hb.2⟩, hb.2⟩), hun.keep (fun _ _ => rfl) (fun _ _ => rfl) (fun b hb => ⟨⟨hb.1, hul b hb.2⟩, hb.2⟩), ⟨.inl h.mr, hlt r (h.mt r h.mr)⟩, ?_, ?_, fun b hb => ⟨hb.1.imp (h.mt b) id, hb.2⟩, fun b hb => hb.2, hok⟩, fun b hb => hb.1, fun b hb => hb.1, hk⟩
  · intro b hb
    obtain ⟨ac, _, h2, _⟩ := hsu
    exact ⟨hv6 b hb, (ownsRow_lt h2 hb).2⟩
  · intro b hb
    obtain ⟨ac, _, h2, _⟩ := hun
    exact ⟨hu6 b hb, (ownsRow_lt h2 hb).2⟩
def RBurns (r : Nat) (v u : Value) (room fu : Int) (dn : Bool) (w : World) (e : Ending) (w' : World) : Prop := e = .returned (.bool (if fu = 1 then true else dn)) ∧ w'.heap[r]? = some (.cells (rdC v u room (if fu = 0 then 0 else fu - 1) (if fu = 1 then true else dn)) tRD (0, 0)) ∧ Kept (fun b => b = r) w w' ∧ w'.heap.size = w.heap.size
set_option maxHeartbeats 400000 in
theorem rburns_any (r : Nat) (v u : Value) (room fu : Int) (dn : Bool) (w : World) (h : w.heap[r]? = some (.cells (rdC v u room fu dn) tRD (0, 0))) (h0 : 0 ≤ fu) (h1 : fu ≤ 9223372036854775807) :
    Calls Try.prog 49 #[.pointer (some ⟨r, 0, none⟩)] w (RBurns r v u room fu dn w) := by
  have hc6 : w.cell? ⟨r, 3, none⟩ = some (.int .i64 fu) := by rw [cell_of_row w r 3 _ _ _ h]; rfl
  have hf6 : w.frozen? ⟨r, 3, none⟩ = false := frozen_of_row w r 3 _ _ h
  have hc7 : w.cell? ⟨r, 4, none⟩ = some (.bool dn) := by rw [cell_of_row w r 4 _ _ _ h]; rfl
  have hf7 : w.frozen? ⟨r, 4, none⟩ = false := frozen_of_row w r 4 _ _ h
  have H := Lib.hid h
  clear h
  rcases Int.lt_trichotomy fu 1 with hl | hl | hl
  · have he : fu = 0 := by omega
    subst he
    go_enter Try.func49, Try.ntmps49
    go_wp2
    go_ret
    exact ⟨rfl, H.out, Kept.refl _ _, rfl⟩
  · subst hl
    go_enter Try.func49, Try.ntmps49
    go_wp2
    go_ret
    have hr := heap_setCell_same _ r 4 _ _ (.bool true) (heap_setCell_same w r 3 _ _ (.int .i64 0) H.out)
    exact ⟨rfl, hr, ((Kept.refl (fun b => b = r) w).setCell (p := ⟨r, 3, none⟩) (fun _ => rfl) _).setCell (p := ⟨r, 4, none⟩) (fun _ => rfl) _, by simp only [size_setCell']⟩
  · have d0 : decide (fu > 0) = true := by simpa using (show 0 < fu by omega)
    have d1 : (fu - 1 == 0) = false := by simpa using (show ¬ (fu - 1 = 0) by omega)
    go_enter Try.func49, Try.ntmps49
    go_wp2
    go_ret
    have hr := heap_setCell_same w r 3 _ _ (.int .i64 (fu - 1)) H.out
    refine ⟨?_, ?_, (Kept.refl (fun b => b = r) w).setCell (p := ⟨r, 3, none⟩) (fun _ => rfl) _, by simp only [size_setCell']⟩
    · rw [if_neg (by omega)]; rfl
    · rw [if_neg (by omega), if_neg (by omega)]
      exact hr
theorem rburnt (s : DS) : (if s.fuse = 0 then 0 else s.fuse - 1) = (burnt s).fuse ∧ (if s.fuse = 1 then true else s.down) = (burnt s).down ∧ (burnt s).room = s.room := by
  unfold burnt
  by_cases h0 : s.fuse = 0
  · rw [if_pos h0, if_pos h0, if_neg (by omega)]
    exact ⟨h0.symm, rfl, rfl⟩
  · rw [if_neg h0, if_neg h0]
    by_cases h1 : s.fuse = 1
    · rw [if_pos h1, if_pos h1, h1]; exact ⟨rfl, rfl, rfl⟩
    · rw [if_neg h1, if_neg h1]; exact ⟨rfl, rfl, rfl⟩
end Go.Proofs.Ytcfnfphnjkllcaa.Dk
