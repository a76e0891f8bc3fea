/- Fields and records of entries, configurations, snapshots, messages. Written by geni.py. -/
import Derived.Test.YthocmnfmialcaaaKgA
namespace Go.Proofs.Ythocmnfmialcaaa.Kd
open Go.RowKit By CoP Co Mo

theorem fK_Conf_ints : FieldClosures 74 75 76 := fun hLk hLo hk ho hof hkind =>
  ⟨hkind.ok, fieldS_any Try.func74 (by kernel_rfl) rfl rfl rfl kt_ints (by intro w; go_simp) (by intro w; go_simp) hLk hLo hk ho hkind.ok hof hkind.s, fieldP_any Try.func75 (by kernel_rfl) rfl rfl rfl kt_ints (by intro w; go_simp) (by intro w; go_simp) hLk hLo hk ho hkind.ok hof hkind.p, fieldG_any Try.func76 (by kernel_rfl) rfl rfl rfl kt_ints (by intro w; go_simp) (by intro w; go_simp) hLk hLo hk ho hof hkind.g⟩
theorem field_Conf_ints {L off : Nat} {k : Kd} {kv1 kv2 kv3 ov : Value} (w : World) (hL : L ≤ w.heap.size) (hk : KindAt L w kv1 kv2 kv3 0 k) (hof : OfAt ov off) : Calls Try.prog 54 #[.agg #[kv1, kv2, kv3], ov] w (Makes L k off w) :=
  fieldC_any Try.func54 rfl rfl rfl kt_ints kt_Conf fK_Conf_ints w hL hk hof
theorem of_conf1 : OfAt (.func (.func 55) #[] #[]) 0 := by
  refine ⟨_, rfl, enters_of Try.func55 (by kernel_rfl) rfl, ?_⟩
  intro w g o
  go_enter Try.func55, Try.ntmps55
  go_wp2
  go_ret
  exact ⟨rfl, rfl⟩
theorem of_conf2 : OfAt (.func (.func 56) #[] #[]) 1 := by
  refine ⟨_, rfl, enters_of Try.func56 (by kernel_rfl) rfl, ?_⟩
  intro w g o
  go_enter Try.func56, Try.ntmps56
  go_wp2
  go_ret
  exact ⟨rfl, rfl⟩
theorem st_Conf : SlT 91 63 := ⟨Try.runUnderlying91, Try.isAgg91⟩
theorem rK_Conf : RecClosures 69 70 71 := fun hLf hLa hLt hf ha ht hF hok hm hT =>
  ⟨recK_ok hok _, recS_any Try.func69 (by kernel_rfl) rfl rfl rfl kt_Conf st_Conf (by intro w; go_simp) hLf hLa hf ha hF hok hm hLt ht hT, recP_any Try.func70 (by kernel_rfl) rfl rfl rfl kt_Conf st_Conf (by intro w; go_simp) hLf hLa hf ha hF hok hm, recG_any Try.func71 (by kernel_rfl) rfl rfl rfl kt_Conf st_Conf (by intro w; go_simp) hLf hLa hf ha hF hok hm⟩
theorem rec_Conf {L ba cf m : Nat} {ks : List Kd} {t : List Data → Bool} {fs : List Value} {tv : Value} {t2 : TypeId} (w : World) (hL : L ≤ w.heap.size) (hLa : L ≤ ba) (hm : m = ks.length) (ha : w.heap[ba]? = some (.cells fs.toArray t2 (0, 0))) (hF : FieldsAt L w ks 0 fs) (hml : ks.length ≤ 1000) (hT : TiedAt L w tv ks t) :
    Calls Try.prog 52 #[tv, .slice (some ⟨ba, 0, none⟩) m cf] w (Makes L (recK ks t) 0 w) :=
  recC_any Try.func52 rfl rfl rfl kt_Conf rK_Conf w hL hLa hm ha hF hml hT
end Go.Proofs.Ythocmnfmialcaaa.Kd
