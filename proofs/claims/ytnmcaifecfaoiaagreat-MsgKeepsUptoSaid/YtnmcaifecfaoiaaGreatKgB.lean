/- Fields and records of hard states, commands, replies, what edges ask and are told. Written by geni.py. -/
import Derived.Test.YtnmcaifecfaoiaaGreatKgA
namespace Go.Proofs.YtnmcaifecfaoiaaGreat.Kd
open Go.RowKit By CoP Co Mo

theorem free_Hard {L : Nat} (W : World) (ks : List Kd) : TiedAt L W (.func (.func 108) #[] #[]) ks (fun _ => true) := by
  refine ⟨_, _, rfl, enters_of Tryz.func108 (by kernel_rfl) rfl, ?_⟩
  intro w hb g o vs ds _ _
  clear hb
  go_enter Tryz.func108, Tryz.ntmps108
  go_wp2
  go_ret
  exact ⟨rfl, Below.refl _ _⟩
theorem fK_Hard_u64 : FieldClosures 153 154 155 := fun hLk hLo hk ho hof hkind =>
  ⟨hkind.ok, fieldS_any Tryz.func153 (by kernel_rfl) rfl rfl rfl kt_u64 (by intro w; go_simp) (by intro w; go_simp) hLk hLo hk ho hkind.ok hof hkind.s, fieldP_any Tryz.func154 (by kernel_rfl) rfl rfl rfl kt_u64 (by intro w; go_simp) (by intro w; go_simp) hLk hLo hk ho hkind.ok hof hkind.p, fieldG_any Tryz.func155 (by kernel_rfl) rfl rfl rfl kt_u64 (by intro w; go_simp) (by intro w; go_simp) hLk hLo hk ho hof hkind.g⟩
theorem field_Hard_u64 {L off : Nat} {k : Kd} {kv1 kv2 kv3 ov : Value} (w : World) (hL : L ≤ w.heap.size) (hk : KindAt L w kv1 kv2 kv3 0 k) (hof : OfAt ov off) : Calls Tryz.prog 109 #[.agg #[kv1, kv2, kv3], ov] w (Makes L k off w) :=
  fieldC_any Tryz.func109 rfl rfl rfl kt_u64 kt_Hard fK_Hard_u64 w hL hk hof
theorem of_hard1 : OfAt (.func (.func 110) #[] #[]) 0 := by
  refine ⟨_, rfl, enters_of Tryz.func110 (by kernel_rfl) rfl, ?_⟩
  intro w g o
  go_enter Tryz.func110, Tryz.ntmps110
  go_wp2
  go_ret
  exact ⟨rfl, rfl⟩
theorem fK_Hard_int : FieldClosures 156 157 158 := fun hLk hLo hk ho hof hkind =>
  ⟨hkind.ok, fieldS_any Tryz.func156 (by kernel_rfl) rfl rfl rfl kt_int (by intro w; go_simp) (by intro w; go_simp) hLk hLo hk ho hkind.ok hof hkind.s, fieldP_any Tryz.func157 (by kernel_rfl) rfl rfl rfl kt_int (by intro w; go_simp) (by intro w; go_simp) hLk hLo hk ho hkind.ok hof hkind.p, fieldG_any Tryz.func158 (by kernel_rfl) rfl rfl rfl kt_int (by intro w; go_simp) (by intro w; go_simp) hLk hLo hk ho hof hkind.g⟩
theorem field_Hard_int {L off : Nat} {k : Kd} {kv1 kv2 kv3 ov : Value} (w : World) (hL : L ≤ w.heap.size) (hk : KindAt L w kv1 kv2 kv3 0 k) (hof : OfAt ov off) : Calls Tryz.prog 111 #[.agg #[kv1, kv2, kv3], ov] w (Makes L k off w) :=
  fieldC_any Tryz.func111 rfl rfl rfl kt_int kt_Hard fK_Hard_int w hL hk hof
theorem of_hard2 : OfAt (.func (.func 112) #[] #[]) 1 := by
  refine ⟨_, rfl, enters_of Tryz.func112 (by kernel_rfl) rfl, ?_⟩
  intro w g o
  go_enter Tryz.func112, Tryz.ntmps112
  go_wp2
  go_ret
  exact ⟨rfl, rfl⟩
theorem st_Hard : SlT 176 121 := ⟨Tryz.runUnderlying176, Tryz.isAgg176⟩
theorem rK_Hard : RecClosures 150 151 152 := fun hLf hLa hLt hf ha ht hF hok hm hT =>
  ⟨recK_ok hok _, recS_any Tryz.func150 (by kernel_rfl) rfl rfl rfl kt_Hard st_Hard (by intro w; go_simp) hLf hLa hf ha hF hok hm hLt ht hT, recP_any Tryz.func151 (by kernel_rfl) rfl rfl rfl kt_Hard st_Hard (by intro w; go_simp) hLf hLa hf ha hF hok hm, recG_any Tryz.func152 (by kernel_rfl) rfl rfl rfl kt_Hard st_Hard (by intro w; go_simp) hLf hLa hf ha hF hok hm⟩
theorem rec_Hard {L ba cf m : Nat} {ks : List Kd} {t : List Data → Bool} {fs : List Value} {tv : Value} {t2 : TypeId} (w : World) (hL : L ≤ w.heap.size) (hLa : L ≤ ba) (hm : m = ks.length) (ha : w.heap[ba]? = some (.cells fs.toArray t2 (0, 0))) (hF : FieldsAt L w ks 0 fs) (hml : ks.length ≤ 1000) (hT : TiedAt L w tv ks t) :
    Calls Tryz.prog 107 #[tv, .slice (some ⟨ba, 0, none⟩) m cf] w (Makes L (recK ks t) 0 w) :=
  recC_any Tryz.func107 rfl rfl rfl kt_Hard rK_Hard w hL hLa hm ha hF hml hT
end Go.Proofs.YtnmcaifecfaoiaaGreat.Kd
