/- Fields and records of entries, configurations, snapshots, messages. Written by geni.py. -/
import Derived.Test.YtdbaajgkcjpnoaaGreatKgA
namespace Go.Proofs.YtdbaajgkcjpnoaaGreat.Kd
open Go.RowKit By CoP Co Mo

theorem fK_Entry_u64 : FieldClosures 76 77 78 := fun hLk hLo hk ho hof hkind =>
  ⟨hkind.ok, fieldS_any Tryz.func76 (by kernel_rfl) rfl rfl rfl kt_u64 (by intro w; go_simp) (by intro w; go_simp) hLk hLo hk ho hkind.ok hof hkind.s, fieldP_any Tryz.func77 (by kernel_rfl) rfl rfl rfl kt_u64 (by intro w; go_simp) (by intro w; go_simp) hLk hLo hk ho hkind.ok hof hkind.p, fieldG_any Tryz.func78 (by kernel_rfl) rfl rfl rfl kt_u64 (by intro w; go_simp) (by intro w; go_simp) hLk hLo hk ho hof hkind.g⟩
theorem field_Entry_u64 {L off : Nat} {k : Kd} {kv1 kv2 kv3 ov : Value} (w : World) (hL : L ≤ w.heap.size) (hk : KindAt L w kv1 kv2 kv3 0 k) (hof : OfAt ov off) : Calls Tryz.prog 56 #[.agg #[kv1, kv2, kv3], ov] w (Makes L k off w) :=
  fieldC_any Tryz.func56 rfl rfl rfl kt_u64 kt_Entry fK_Entry_u64 w hL hk hof
theorem of_entry1 : OfAt (.func (.func 58) #[] #[]) 0 := by
  refine ⟨_, rfl, enters_of Tryz.func58 (by kernel_rfl) rfl, ?_⟩
  intro w g o
  go_enter Tryz.func58, Tryz.ntmps58
  go_wp2
  go_ret
  exact ⟨rfl, rfl⟩
theorem of_entry2 : OfAt (.func (.func 59) #[] #[]) 1 := by
  refine ⟨_, rfl, enters_of Tryz.func59 (by kernel_rfl) rfl, ?_⟩
  intro w g o
  go_enter Tryz.func59, Tryz.ntmps59
  go_wp2
  go_ret
  exact ⟨rfl, rfl⟩
theorem fK_Entry_int : FieldClosures 84 85 86 := fun hLk hLo hk ho hof hkind =>
  ⟨hkind.ok, fieldS_any Tryz.func84 (by kernel_rfl) rfl rfl rfl kt_int (by intro w; go_simp) (by intro w; go_simp) hLk hLo hk ho hkind.ok hof hkind.s, fieldP_any Tryz.func85 (by kernel_rfl) rfl rfl rfl kt_int (by intro w; go_simp) (by intro w; go_simp) hLk hLo hk ho hkind.ok hof hkind.p, fieldG_any Tryz.func86 (by kernel_rfl) rfl rfl rfl kt_int (by intro w; go_simp) (by intro w; go_simp) hLk hLo hk ho hof hkind.g⟩
theorem field_Entry_int {L off : Nat} {k : Kd} {kv1 kv2 kv3 ov : Value} (w : World) (hL : L ≤ w.heap.size) (hk : KindAt L w kv1 kv2 kv3 0 k) (hof : OfAt ov off) : Calls Tryz.prog 60 #[.agg #[kv1, kv2, kv3], ov] w (Makes L k off w) :=
  fieldC_any Tryz.func60 rfl rfl rfl kt_int kt_Entry fK_Entry_int w hL hk hof
theorem of_entry3 : OfAt (.func (.func 62) #[] #[]) 2 := by
  refine ⟨_, rfl, enters_of Tryz.func62 (by kernel_rfl) rfl, ?_⟩
  intro w g o
  go_enter Tryz.func62, Tryz.ntmps62
  go_wp2
  go_ret
  exact ⟨rfl, rfl⟩
theorem fK_Entry_i64 : FieldClosures 90 91 92 := fun hLk hLo hk ho hof hkind =>
  ⟨hkind.ok, fieldS_any Tryz.func90 (by kernel_rfl) rfl rfl rfl kt_i64 (by intro w; go_simp) (by intro w; go_simp) hLk hLo hk ho hkind.ok hof hkind.s, fieldP_any Tryz.func91 (by kernel_rfl) rfl rfl rfl kt_i64 (by intro w; go_simp) (by intro w; go_simp) hLk hLo hk ho hkind.ok hof hkind.p, fieldG_any Tryz.func92 (by kernel_rfl) rfl rfl rfl kt_i64 (by intro w; go_simp) (by intro w; go_simp) hLk hLo hk ho hof hkind.g⟩
theorem field_Entry_i64 {L off : Nat} {k : Kd} {kv1 kv2 kv3 ov : Value} (w : World) (hL : L ≤ w.heap.size) (hk : KindAt L w kv1 kv2 kv3 0 k) (hof : OfAt ov off) : Calls Tryz.prog 63 #[.agg #[kv1, kv2, kv3], ov] w (Makes L k off w) :=
  fieldC_any Tryz.func63 rfl rfl rfl kt_i64 kt_Entry fK_Entry_i64 w hL hk hof
theorem of_entry4 : OfAt (.func (.func 65) #[] #[]) 3 := by
  refine ⟨_, rfl, enters_of Tryz.func65 (by kernel_rfl) rfl, ?_⟩
  intro w g o
  go_enter Tryz.func65, Tryz.ntmps65
  go_wp2
  go_ret
  exact ⟨rfl, rfl⟩
theorem fK_Entry_bytes : FieldClosures 96 97 98 := fun hLk hLo hk ho hof hkind =>
  ⟨hkind.ok, fieldS_any Tryz.func96 (by kernel_rfl) rfl rfl rfl kt_bytes (by intro w; go_simp) (by intro w; go_simp) hLk hLo hk ho hkind.ok hof hkind.s, fieldP_any Tryz.func97 (by kernel_rfl) rfl rfl rfl kt_bytes (by intro w; go_simp) (by intro w; go_simp) hLk hLo hk ho hkind.ok hof hkind.p, fieldG_any Tryz.func98 (by kernel_rfl) rfl rfl rfl kt_bytes (by intro w; go_simp) (by intro w; go_simp) hLk hLo hk ho hof hkind.g⟩
theorem field_Entry_bytes {L off : Nat} {k : Kd} {kv1 kv2 kv3 ov : Value} (w : World) (hL : L ≤ w.heap.size) (hk : KindAt L w kv1 kv2 kv3 0 k) (hof : OfAt ov off) : Calls Tryz.prog 66 #[.agg #[kv1, kv2, kv3], ov] w (Makes L k off w) :=
  fieldC_any Tryz.func66 rfl rfl rfl kt_bytes kt_Entry fK_Entry_bytes w hL hk hof
theorem of_entry5 : OfAt (.func (.func 68) #[] #[]) 4 := by
  refine ⟨_, rfl, enters_of Tryz.func68 (by kernel_rfl) rfl, ?_⟩
  intro w g o
  go_enter Tryz.func68, Tryz.ntmps68
  go_wp2
  go_ret
  exact ⟨rfl, rfl⟩
theorem st_Entry : SlT 142 94 := ⟨Tryz.runUnderlying142, Tryz.isAgg142⟩
theorem rK_Entry : RecClosures 72 73 74 := fun hLf hLa hLt hf ha ht hF hok hm hT =>
  ⟨recK_ok hok _, recS_any Tryz.func72 (by kernel_rfl) rfl rfl rfl kt_Entry st_Entry (by intro w; go_simp) hLf hLa hf ha hF hok hm hLt ht hT, recP_any Tryz.func73 (by kernel_rfl) rfl rfl rfl kt_Entry st_Entry (by intro w; go_simp) hLf hLa hf ha hF hok hm, recG_any Tryz.func74 (by kernel_rfl) rfl rfl rfl kt_Entry st_Entry (by intro w; go_simp) hLf hLa hf ha hF hok hm⟩
theorem rec_Entry {L ba cf m : Nat} {ks : List Kd} {t : List Data → Bool} {fs : List Value} {tv : Value} {t2 : TypeId} (w : World) (hL : L ≤ w.heap.size) (hLa : L ≤ ba) (hm : m = ks.length) (ha : w.heap[ba]? = some (.cells fs.toArray t2 (0, 0))) (hF : FieldsAt L w ks 0 fs) (hml : ks.length ≤ 1000) (hT : TiedAt L w tv ks t) :
    Calls Tryz.prog 54 #[tv, .slice (some ⟨ba, 0, none⟩) m cf] w (Makes L (recK ks t) 0 w) :=
  recC_any Tryz.func54 rfl rfl rfl kt_Entry rK_Entry w hL hLa hm ha hF hml hT
theorem fK_Conf_ints : FieldClosures 129 130 131 := fun hLk hLo hk ho hof hkind =>
  ⟨hkind.ok, fieldS_any Tryz.func129 (by kernel_rfl) rfl rfl rfl kt_ints (by intro w; go_simp) (by intro w; go_simp) hLk hLo hk ho hkind.ok hof hkind.s, fieldP_any Tryz.func130 (by kernel_rfl) rfl rfl rfl kt_ints (by intro w; go_simp) (by intro w; go_simp) hLk hLo hk ho hkind.ok hof hkind.p, fieldG_any Tryz.func131 (by kernel_rfl) rfl rfl rfl kt_ints (by intro w; go_simp) (by intro w; go_simp) hLk hLo hk ho hof hkind.g⟩
theorem field_Conf_ints {L off : Nat} {k : Kd} {kv1 kv2 kv3 ov : Value} (w : World) (hL : L ≤ w.heap.size) (hk : KindAt L w kv1 kv2 kv3 0 k) (hof : OfAt ov off) : Calls Tryz.prog 115 #[.agg #[kv1, kv2, kv3], ov] w (Makes L k off w) :=
  fieldC_any Tryz.func115 rfl rfl rfl kt_ints kt_Conf fK_Conf_ints w hL hk hof
theorem of_conf1 : OfAt (.func (.func 116) #[] #[]) 0 := by
  refine ⟨_, rfl, enters_of Tryz.func116 (by kernel_rfl) rfl, ?_⟩
  intro w g o
  go_enter Tryz.func116, Tryz.ntmps116
  go_wp2
  go_ret
  exact ⟨rfl, rfl⟩
theorem of_conf2 : OfAt (.func (.func 117) #[] #[]) 1 := by
  refine ⟨_, rfl, enters_of Tryz.func117 (by kernel_rfl) rfl, ?_⟩
  intro w g o
  go_enter Tryz.func117, Tryz.ntmps117
  go_wp2
  go_ret
  exact ⟨rfl, rfl⟩
theorem st_Conf : SlT 176 157 := ⟨Tryz.runUnderlying176, Tryz.isAgg176⟩
theorem rK_Conf : RecClosures 124 125 126 := fun hLf hLa hLt hf ha ht hF hok hm hT =>
  ⟨recK_ok hok _, recS_any Tryz.func124 (by kernel_rfl) rfl rfl rfl kt_Conf st_Conf (by intro w; go_simp) hLf hLa hf ha hF hok hm hLt ht hT, recP_any Tryz.func125 (by kernel_rfl) rfl rfl rfl kt_Conf st_Conf (by intro w; go_simp) hLf hLa hf ha hF hok hm, recG_any Tryz.func126 (by kernel_rfl) rfl rfl rfl kt_Conf st_Conf (by intro w; go_simp) hLf hLa hf ha hF hok hm⟩
theorem rec_Conf {L ba cf m : Nat} {ks : List Kd} {t : List Data → Bool} {fs : List Value} {tv : Value} {t2 : TypeId} (w : World) (hL : L ≤ w.heap.size) (hLa : L ≤ ba) (hm : m = ks.length) (ha : w.heap[ba]? = some (.cells fs.toArray t2 (0, 0))) (hF : FieldsAt L w ks 0 fs) (hml : ks.length ≤ 1000) (hT : TiedAt L w tv ks t) :
    Calls Tryz.prog 113 #[tv, .slice (some ⟨ba, 0, none⟩) m cf] w (Makes L (recK ks t) 0 w) :=
  recC_any Tryz.func113 rfl rfl rfl kt_Conf rK_Conf w hL hLa hm ha hF hml hT
end Go.Proofs.YtdbaajgkcjpnoaaGreat.Kd
