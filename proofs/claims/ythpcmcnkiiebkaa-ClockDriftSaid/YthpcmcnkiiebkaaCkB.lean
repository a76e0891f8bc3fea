/- Package clock's small functions, as contracts of calls: bounds, later, drawn, Now, True, Steady. -/
import Derived.Test.YthpcmcnkiiebkaaCkA
import Derived.Test.YthpcmcnkiiebkaaSumV
namespace Go.Proofs.Ythpcmcnkiiebkaa.Ck
open Go.RowKit Go.Maps By Mp SumP SumW

theorem bounds_bad (t r : Int) (h : ¬ TameT t r) (w : World) : Calls Try.prog 24 #[.int .i64 t, .int .i64 r] w (Ret (.tuple #[.int .i64 0, .int .i64 0, .int .i64 1]) w) := by
  go_enter Try.func24, Try.ntmps24
  go_wp2_with (go_at_call 31; refine (least_bad _ _ h _).mono ?_; rintro e w1 ⟨rfl, rfl⟩)
  go_ret3
  exact ⟨rfl, rfl⟩
theorem bounds_good (t r : Int) (h : TameT t r) (w : World) : Calls Try.prog 24 #[.int .i64 t, .int .i64 r] w (Ret (.tuple #[.int .i64 (leastF t r), .int .i64 (mostF t r), .int .i64 0]) w) := by
  go_enter Try.func24, Try.ntmps24
  go_wp2_with (first
    | (go_at_call 31; refine (least_good _ _ h _).mono ?_; rintro e w1 ⟨rfl, rfl⟩)
    | (go_at_call 32; refine (most_good _ _ h _).mono ?_; rintro e w1 ⟨rfl, rfl⟩))
  go_ret3
  exact ⟨rfl, rfl⟩
theorem later_over (now n : Int) (h0 : 0 ≤ now) (h1 : now ≤ 1152921504606846976) (h : 1152921504606846976 < now + n) (w : World) : Calls Try.prog 25 #[.int .i64 now, .int .i64 n] w (Ret (.tuple #[.int .i64 0, .int .i64 3]) w) := by
  have h2 : 1152921504606846976 - now < n := by omega
  go_enter Try.func25, Try.ntmps25
  go_wp2
  go_ret2
  exact ⟨rfl, rfl⟩
theorem later_fits (now n : Int) (h0 : 0 ≤ now) (h1 : now ≤ 1152921504606846976) (hn : 0 ≤ n) (h : now + n ≤ 1152921504606846976) (w : World) : Calls Try.prog 25 #[.int .i64 now, .int .i64 n] w (Ret (.tuple #[.int .i64 (now + n), .int .i64 0]) w) := by
  have h2 : ¬ (1152921504606846976 - now < n) := by omega
  go_enter Try.func25, Try.ntmps25
  go_wp2
  go_ret2
  exact ⟨rfl, rfl⟩
theorem now_nil (e : Int) (w : World) : Calls Try.prog 14 #[.pointer none, .int .i64 e] w (Ret (.tuple #[.int .i64 0, .int .i64 1]) w) := by
  have q1 := ptrTest
  go_enter Try.func14, Try.ntmps14
  go_wp2
  go_ret2
  exact ⟨rfl, rfl⟩
theorem true_nil (w : World) : Calls Try.prog 13 #[.pointer none] w (Ret (.int .i64 0) w) := by
  have q1 := ptrTest
  go_enter Try.func13, Try.ntmps13
  go_wp2
  go_ret
  exact ⟨rfl, rfl⟩
theorem steady_nil (w : World) : Calls Try.prog 16 #[.pointer none] w (Ret (.bool false) w) := by
  have q1 := ptrTestN
  go_enter Try.func16, Try.ntmps16
  go_wp2
  go_ret
  exact ⟨rfl, rfl⟩
theorem pass_nil (n d : Int) (w : World) : Calls Try.prog 15 #[.pointer none, .int .i64 n, .int .u64 d] w (Ret (.int .i64 1) w) := by
  have q1 := ptrTest
  go_enter Try.func15, Try.ntmps15
  go_wp2
  go_ret
  exact ⟨rfl, rfl⟩
theorem copy_nil (w : World) : Calls Try.prog 10 #[.pointer none] w (Ret (.pointer none) w) := by
  have q1 := ptrTest
  go_enter Try.func10, Try.ntmps10
  go_wp2
  go_ret
  exact ⟨rfl, rfl⟩
theorem tick_nil (e n : Int) (w : World) : Calls Try.prog 19 #[.pointer none, .int .i64 e, .int .i64 n] w (Ret (.int .i64 1) w) := by
  go_enter Try.func19, Try.ntmps19
  go_wp2_with (go_at_call 14; refine (now_nil _ _).mono ?_; rintro e w1 ⟨rfl, rfl⟩)
  go_ret
  exact ⟨rfl, rfl⟩
theorem true_any {w : World} {g : Nat} {c : C9} {S : Nat → Prop} (h : ClkIs w g c S) : Calls Try.prog 13 #[.pointer (some ⟨g, 0, none⟩)] w (Ret (.int .i64 c.real) w) := by
  obtain ⟨b, h⟩ := h
  obtain ⟨c0, c1, c2, c3⟩ := h.cells
  have q1 := ptrTest
  clear h
  go_enter Try.func13, Try.ntmps13
  go_wp2
  go_ret
  exact ⟨rfl, rfl⟩
theorem steady_any {w : World} {g : Nat} {c : C9} {S : Nat → Prop} (h : ClkIs w g c S) : Calls Try.prog 16 #[.pointer (some ⟨g, 0, none⟩)] w (Ret (.bool (!c.moved)) w) := by
  obtain ⟨b, h⟩ := h
  obtain ⟨c0, c1, c2, c3⟩ := h.cells
  have q1 := ptrTestN
  clear h
  generalize c.moved = m at *
  go_enter Try.func16, Try.ntmps16
  go_wp2
  go_ret
  exact ⟨rfl, rfl⟩
/-- What Now answers. -/
def nowV (c : C9) (e : Int) : Value := if 0 ≤ atF c.nodes c.edges e then .tuple #[.int .i64 (c.time e), .int .i64 0] else .tuple #[.int .i64 0, .int .i64 1]
theorem zero64 (w : World) : (zeroValue tI64).run Try.prog w = .ok (.int .i64 0) w := by kernel_rfl
theorem getT_at {c : C9} (h : c.Ok) {e : Int} (he : 0 ≤ atF c.nodes c.edges e) : getT c.nodes c.edges c.t (ekey e) = some (.int .i64 (c.time e)) := by
  unfold getT
  simp only
  rw [if_pos he, (h.time he).1]; rfl
theorem getT_none {c : C9} {e : Int} (he : ¬ 0 ≤ atF c.nodes c.edges e) : getT c.nodes c.edges c.t (ekey e) = none := by
  unfold getT
  simp only
  rw [if_neg he]
theorem now_any {w : World} {g : Nat} {c : C9} {S : Nat → Prop} (h : ClkIs w g c S) (e : Int) (e0 : -9223372036854775808 ≤ e) (e1 : e ≤ 9223372036854775807) :
    Calls Try.prog 14 #[.pointer (some ⟨g, 0, none⟩), .int .i64 e] w (Ret (nowV c e) w) := by
  obtain ⟨b, h⟩ := h
  obtain ⟨c0, c1, c2, c3⟩ := h.cells
  have q1 := ptrTest
  obtain ⟨k, hm⟩ := h.map
  have hl := hm.look keyI Try.underlying50 (zero64 w) (key_fits e0 e1) true
  by_cases he : 0 ≤ atF c.nodes c.edges e
  · rw [getT_at h.ok he] at hl
    have hl : (Instr.lookup tMap (.map (some b)) (.int .i64 e) true).run Try.prog w = .ok (.tuple #[.int .i64 (c.time e), .bool true]) w := hl
    have HV := Lib.hid (show nowV c e = .tuple #[.int .i64 (c.time e), .int .i64 0] from if_pos he)
    clear hm h he c1 c2 c3 e0 e1
    go_enter Try.func14, Try.ntmps14
    go_wp2
    go_ret2
    exact ⟨(by rw [HV.out]; rfl), rfl⟩
  · rw [getT_none he] at hl
    have hl : (Instr.lookup tMap (.map (some b)) (.int .i64 e) true).run Try.prog w = .ok (.tuple #[.int .i64 0, .bool false]) w := hl
    have HV := Lib.hid (show nowV c e = .tuple #[.int .i64 0, .int .i64 1] from if_neg he)
    clear hm h he c1 c2 c3 e0 e1
    go_enter Try.func14, Try.ntmps14
    go_wp2
    go_ret2
    exact ⟨(by rw [HV.out]; rfl), rfl⟩
end Go.Proofs.Ythpcmcnkiiebkaa.Ck
