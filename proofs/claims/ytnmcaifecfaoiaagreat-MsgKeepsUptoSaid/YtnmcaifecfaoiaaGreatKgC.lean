/- Fields and records of entries, configurations, snapshots, messages. Written by geni.py. -/
import Derived.Test.YtnmcaifecfaoiaaGreatKgA
namespace Go.Proofs.YtnmcaifecfaoiaaGreat.Kd
open Go.RowKit By CoP Co Mo

theorem fK_Entry_u64 : FieldClosures 124 125 126 := fun hLk hLo hk ho hof hkind =>
  ⟨hkind.ok, fieldS_any Tryz.func124 (by kernel_rfl) rfl rfl rfl kt_u64 (by intro w; go_simp) (by intro w; go_simp) hLk hLo hk ho hkind.ok hof hkind.s, fieldP_any Tryz.func125 (by kernel_rfl) rfl rfl rfl kt_u64 (by intro w; go_simp) (by intro w; go_simp) hLk hLo hk ho hkind.ok hof hkind.p, fieldG_any Tryz.func126 (by kernel_rfl) rfl rfl rfl kt_u64 (by intro w; go_simp) (by intro w; go_simp) hLk hLo hk ho hof hkind.g⟩
theorem field_Entry_u64 {L off : Nat} {k : Kd} {kv1 kv2 kv3 ov : Value} (w : World) (hL : L ≤ w.heap.size) (hk : KindAt L w kv1 kv2 kv3 0 k) (hof : OfAt ov off) : Calls Tryz.prog 79 #[.agg #[kv1, kv2, kv3], ov] w (Makes L k off w) :=
  fieldC_any Tryz.func79 rfl rfl rfl kt_u64 kt_Entry fK_Entry_u64 w hL hk hof
theorem of_entry1 : OfAt (.func (.func 80) #[] #[]) 0 := by
  refine ⟨_, rfl, enters_of Tryz.func80 (by kernel_rfl) rfl, ?_⟩
  intro w g o
  go_enter Tryz.func80, Tryz.ntmps80
  go_wp2
  go_ret
  exact ⟨rfl, rfl⟩
theorem of_entry2 : OfAt (.func (.func 81) #[] #[]) 1 := by
  refine ⟨_, rfl, enters_of Tryz.func81 (by kernel_rfl) rfl, ?_⟩
  intro w g o
  go_enter Tryz.func81, Tryz.ntmps81
  go_wp2
  go_ret
  exact ⟨rfl, rfl⟩
theorem fK_Entry_int : FieldClosures 127 128 129 := fun hLk hLo hk ho hof hkind =>
  ⟨hkind.ok, fieldS_any Tryz.func127 (by kernel_rfl) rfl rfl rfl kt_int (by intro w; go_simp) (by intro w; go_simp) hLk hLo hk ho hkind.ok hof hkind.s, fieldP_any Tryz.func128 (by kernel_rfl) rfl rfl rfl kt_int (by intro w; go_simp) (by intro w; go_simp) hLk hLo hk ho hkind.ok hof hkind.p, fieldG_any Tryz.func129 (by kernel_rfl) rfl rfl rfl kt_int (by intro w; go_simp) (by intro w; go_simp) hLk hLo hk ho hof hkind.g⟩
theorem field_Entry_int {L off : Nat} {k : Kd} {kv1 kv2 kv3 ov : Value} (w : World) (hL : L ≤ w.heap.size) (hk : KindAt L w kv1 kv2 kv3 0 k) (hof : OfAt ov off) : Calls Tryz.prog 82 #[.agg #[kv1, kv2, kv3], ov] w (Makes L k off w) :=
  fieldC_any Tryz.func82 rfl rfl rfl kt_int kt_Entry fK_Entry_int w hL hk hof
theorem of_entry3 : OfAt (.func (.func 83) #[] #[]) 2 := by
  refine ⟨_, rfl, enters_of Tryz.func83 (by kernel_rfl) rfl, ?_⟩
  intro w g o
  go_enter Tryz.func83, Tryz.ntmps83
  go_wp2
  go_ret
  exact ⟨rfl, rfl⟩
theorem fK_Entry_i64 : FieldClosures 130 131 132 := fun hLk hLo hk ho hof hkind =>
  ⟨hkind.ok, fieldS_any Tryz.func130 (by kernel_rfl) rfl rfl rfl kt_i64 (by intro w; go_simp) (by intro w; go_simp) hLk hLo hk ho hkind.ok hof hkind.s, fieldP_any Tryz.func131 (by kernel_rfl) rfl rfl rfl kt_i64 (by intro w; go_simp) (by intro w; go_simp) hLk hLo hk ho hkind.ok hof hkind.p, fieldG_any Tryz.func132 (by kernel_rfl) rfl rfl rfl kt_i64 (by intro w; go_simp) (by intro w; go_simp) hLk hLo hk ho hof hkind.g⟩
theorem field_Entry_i64 {L off : Nat} {k : Kd} {kv1 kv2 kv3 ov : Value} (w : World) (hL : L ≤ w.heap.size) (hk : KindAt L w kv1 kv2 kv3 0 k) (hof : OfAt ov off) : Calls Tryz.prog 84 #[.agg #[kv1, kv2, kv3], ov] w (Makes L k off w) :=
  fieldC_any Tryz.func84 rfl rfl rfl kt_i64 kt_Entry fK_Entry_i64 w hL hk hof
theorem of_entry4 : OfAt (.func (.func 86) #[] #[]) 3 := by
  refine ⟨_, rfl, enters_of Tryz.func86 (by kernel_rfl) rfl, ?_⟩
  intro w g o
  go_enter Tryz.func86, Tryz.ntmps86
  go_wp2
  go_ret
  exact ⟨rfl, rfl⟩
theorem fK_Entry_bytes : FieldClosures 136 137 138 := fun hLk hLo hk ho hof hkind =>
  ⟨hkind.ok, fieldS_any Tryz.func136 (by kernel_rfl) rfl rfl rfl kt_bytes (by intro w; go_simp) (by intro w; go_simp) hLk hLo hk ho hkind.ok hof hkind.s, fieldP_any Tryz.func137 (by kernel_rfl) rfl rfl rfl kt_bytes (by intro w; go_simp) (by intro w; go_simp) hLk hLo hk ho hkind.ok hof hkind.p, fieldG_any Tryz.func138 (by kernel_rfl) rfl rfl rfl kt_bytes (by intro w; go_simp) (by intro w; go_simp) hLk hLo hk ho hof hkind.g⟩
theorem field_Entry_bytes {L off : Nat} {k : Kd} {kv1 kv2 kv3 ov : Value} (w : World) (hL : L ≤ w.heap.size) (hk : KindAt L w kv1 kv2 kv3 0 k) (hof : OfAt ov off) : Calls Tryz.prog 87 #[.agg #[kv1, kv2, kv3], ov] w (Makes L k off w) :=
  fieldC_any Tryz.func87 rfl rfl rfl kt_bytes kt_Entry fK_Entry_bytes w hL hk hof
theorem of_entry5 : OfAt (.func (.func 88) #[] #[]) 4 := by
  refine ⟨_, rfl, enters_of Tryz.func88 (by kernel_rfl) rfl, ?_⟩
  intro w g o
  go_enter Tryz.func88, Tryz.ntmps88
  go_wp2
  go_ret
  exact ⟨rfl, rfl⟩
theorem st_Entry : SlT 170 94 := ⟨Tryz.runUnderlying170, Tryz.isAgg170⟩
theorem rK_Entry : RecClosures 120 121 122 := fun hLf hLa hLt hf ha ht hF hok hm hT =>
  ⟨recK_ok hok _, recS_any Tryz.func120 (by kernel_rfl) rfl rfl rfl kt_Entry st_Entry (by intro w; go_simp) hLf hLa hf ha hF hok hm hLt ht hT, recP_any Tryz.func121 (by kernel_rfl) rfl rfl rfl kt_Entry st_Entry (by intro w; go_simp) hLf hLa hf ha hF hok hm, recG_any Tryz.func122 (by kernel_rfl) rfl rfl rfl kt_Entry st_Entry (by intro w; go_simp) hLf hLa hf ha hF hok hm⟩
theorem rec_Entry {L ba cf m : Nat} {ks : List Kd} {t : List Data → Bool} {fs : List Value} {tv : Value} {t2 : TypeId} (w : World) (hL : L ≤ w.heap.size) (hLa : L ≤ ba) (hm : m = ks.length) (ha : w.heap[ba]? = some (.cells fs.toArray t2 (0, 0))) (hF : FieldsAt L w ks 0 fs) (hml : ks.length ≤ 1000) (hT : TiedAt L w tv ks t) :
    Calls Tryz.prog 77 #[tv, .slice (some ⟨ba, 0, none⟩) m cf] w (Makes L (recK ks t) 0 w) :=
  recC_any Tryz.func77 rfl rfl rfl kt_Entry rK_Entry w hL hLa hm ha hF hml hT
theorem fK_Conf_ints : FieldClosures 147 148 149 := fun hLk hLo hk ho hof hkind =>
  ⟨hkind.ok, fieldS_any Tryz.func147 (by kernel_rfl) rfl rfl rfl kt_ints (by intro w; go_simp) (by intro w; go_simp) hLk hLo hk ho hkind.ok hof hkind.s, fieldP_any Tryz.func148 (by kernel_rfl) rfl rfl rfl kt_ints (by intro w; go_simp) (by intro w; go_simp) hLk hLo hk ho hkind.ok hof hkind.p, fieldG_any Tryz.func149 (by kernel_rfl) rfl rfl rfl kt_ints (by intro w; go_simp) (by intro w; go_simp) hLk hLo hk ho hof hkind.g⟩
theorem field_Conf_ints {L off : Nat} {k : Kd} {kv1 kv2 kv3 ov : Value} (w : World) (hL : L ≤ w.heap.size) (hk : KindAt L w kv1 kv2 kv3 0 k) (hof : OfAt ov off) : Calls Tryz.prog 96 #[.agg #[kv1, kv2, kv3], ov] w (Makes L k off w) :=
  fieldC_any Tryz.func96 rfl rfl rfl kt_ints kt_Conf fK_Conf_ints w hL hk hof
theorem of_conf1 : OfAt (.func (.func 97) #[] #[]) 0 := by
  refine ⟨_, rfl, enters_of Tryz.func97 (by kernel_rfl) rfl, ?_⟩
  intro w g o
  go_enter Tryz.func97, Tryz.ntmps97
  go_wp2
  go_ret
  exact ⟨rfl, rfl⟩
theorem of_conf2 : OfAt (.func (.func 98) #[] #[]) 1 := by
  refine ⟨_, rfl, enters_of Tryz.func98 (by kernel_rfl) rfl, ?_⟩
  intro w g o
  go_enter Tryz.func98, Tryz.ntmps98
  go_wp2
  go_ret
  exact ⟨rfl, rfl⟩
theorem st_Conf : SlT 173 103 := ⟨Tryz.runUnderlying173, Tryz.isAgg173⟩
theorem rK_Conf : RecClosures 142 143 144 := fun hLf hLa hLt hf ha ht hF hok hm hT =>
  ⟨recK_ok hok _, recS_any Tryz.func142 (by kernel_rfl) rfl rfl rfl kt_Conf st_Conf (by intro w; go_simp) hLf hLa hf ha hF hok hm hLt ht hT, recP_any Tryz.func143 (by kernel_rfl) rfl rfl rfl kt_Conf st_Conf (by intro w; go_simp) hLf hLa hf ha hF hok hm, recG_any Tryz.func144 (by kernel_rfl) rfl rfl rfl kt_Conf st_Conf (by intro w; go_simp) hLf hLa hf ha hF hok hm⟩
theorem rec_Conf {L ba cf m : Nat} {ks : List Kd} {t : List Data → Bool} {fs : List Value} {tv : Value} {t2 : TypeId} (w : World) (hL : L ≤ w.heap.size) (hLa : L ≤ ba) (hm : m = ks.length) (ha : w.heap[ba]? = some (.cells fs.toArray t2 (0, 0))) (hF : FieldsAt L w ks 0 fs) (hml : ks.length ≤ 1000) (hT : TiedAt L w tv ks t) :
    Calls Tryz.prog 94 #[tv, .slice (some ⟨ba, 0, none⟩) m cf] w (Makes L (recK ks t) 0 w) :=
  recC_any Tryz.func94 rfl rfl rfl kt_Conf rK_Conf w hL hLa hm ha hF hml hT
theorem fK_Msg_int : FieldClosures 53 54 55 := fun hLk hLo hk ho hof hkind =>
  ⟨hkind.ok, fieldS_any Tryz.func53 (by kernel_rfl) rfl rfl rfl kt_int (by intro w; go_simp) (by intro w; go_simp) hLk hLo hk ho hkind.ok hof hkind.s, fieldP_any Tryz.func54 (by kernel_rfl) rfl rfl rfl kt_int (by intro w; go_simp) (by intro w; go_simp) hLk hLo hk ho hkind.ok hof hkind.p, fieldG_any Tryz.func55 (by kernel_rfl) rfl rfl rfl kt_int (by intro w; go_simp) (by intro w; go_simp) hLk hLo hk ho hof hkind.g⟩
theorem field_Msg_int {L off : Nat} {k : Kd} {kv1 kv2 kv3 ov : Value} (w : World) (hL : L ≤ w.heap.size) (hk : KindAt L w kv1 kv2 kv3 0 k) (hof : OfAt ov off) : Calls Tryz.prog 19 #[.agg #[kv1, kv2, kv3], ov] w (Makes L k off w) :=
  fieldC_any Tryz.func19 rfl rfl rfl kt_int kt_Msg fK_Msg_int w hL hk hof
theorem of_msg1 : OfAt (.func (.func 21) #[] #[]) 0 := by
  refine ⟨_, rfl, enters_of Tryz.func21 (by kernel_rfl) rfl, ?_⟩
  intro w g o
  go_enter Tryz.func21, Tryz.ntmps21
  go_wp2
  go_ret
  exact ⟨rfl, rfl⟩
theorem of_msg2 : OfAt (.func (.func 22) #[] #[]) 1 := by
  refine ⟨_, rfl, enters_of Tryz.func22 (by kernel_rfl) rfl, ?_⟩
  intro w g o
  go_enter Tryz.func22, Tryz.ntmps22
  go_wp2
  go_ret
  exact ⟨rfl, rfl⟩
theorem of_msg3 : OfAt (.func (.func 23) #[] #[]) 2 := by
  refine ⟨_, rfl, enters_of Tryz.func23 (by kernel_rfl) rfl, ?_⟩
  intro w g o
  go_enter Tryz.func23, Tryz.ntmps23
  go_wp2
  go_ret
  exact ⟨rfl, rfl⟩
theorem fK_Msg_u64 : FieldClosures 61 62 63 := fun hLk hLo hk ho hof hkind =>
  ⟨hkind.ok, fieldS_any Tryz.func61 (by kernel_rfl) rfl rfl rfl kt_u64 (by intro w; go_simp) (by intro w; go_simp) hLk hLo hk ho hkind.ok hof hkind.s, fieldP_any Tryz.func62 (by kernel_rfl) rfl rfl rfl kt_u64 (by intro w; go_simp) (by intro w; go_simp) hLk hLo hk ho hkind.ok hof hkind.p, fieldG_any Tryz.func63 (by kernel_rfl) rfl rfl rfl kt_u64 (by intro w; go_simp) (by intro w; go_simp) hLk hLo hk ho hof hkind.g⟩
theorem field_Msg_u64 {L off : Nat} {k : Kd} {kv1 kv2 kv3 ov : Value} (w : World) (hL : L ≤ w.heap.size) (hk : KindAt L w kv1 kv2 kv3 0 k) (hof : OfAt ov off) : Calls Tryz.prog 24 #[.agg #[kv1, kv2, kv3], ov] w (Makes L k off w) :=
  fieldC_any Tryz.func24 rfl rfl rfl kt_u64 kt_Msg fK_Msg_u64 w hL hk hof
theorem of_msg4 : OfAt (.func (.func 26) #[] #[]) 3 := by
  refine ⟨_, rfl, enters_of Tryz.func26 (by kernel_rfl) rfl, ?_⟩
  intro w g o
  go_enter Tryz.func26, Tryz.ntmps26
  go_wp2
  go_ret
  exact ⟨rfl, rfl⟩
theorem of_msg5 : OfAt (.func (.func 27) #[] #[]) 4 := by
  refine ⟨_, rfl, enters_of Tryz.func27 (by kernel_rfl) rfl, ?_⟩
  intro w g o
  go_enter Tryz.func27, Tryz.ntmps27
  go_wp2
  go_ret
  exact ⟨rfl, rfl⟩
theorem of_msg6 : OfAt (.func (.func 28) #[] #[]) 5 := by
  refine ⟨_, rfl, enters_of Tryz.func28 (by kernel_rfl) rfl, ?_⟩
  intro w g o
  go_enter Tryz.func28, Tryz.ntmps28
  go_wp2
  go_ret
  exact ⟨rfl, rfl⟩
theorem of_msg7 : OfAt (.func (.func 29) #[] #[]) 6 := by
  refine ⟨_, rfl, enters_of Tryz.func29 (by kernel_rfl) rfl, ?_⟩
  intro w g o
  go_enter Tryz.func29, Tryz.ntmps29
  go_wp2
  go_ret
  exact ⟨rfl, rfl⟩
theorem of_msg8 : OfAt (.func (.func 30) #[] #[]) 7 := by
  refine ⟨_, rfl, enters_of Tryz.func30 (by kernel_rfl) rfl, ?_⟩
  intro w g o
  go_enter Tryz.func30, Tryz.ntmps30
  go_wp2
  go_ret
  exact ⟨rfl, rfl⟩
theorem fK_Msg_bool : FieldClosures 65 66 67 := fun hLk hLo hk ho hof hkind =>
  ⟨hkind.ok, fieldS_any Tryz.func65 (by kernel_rfl) rfl rfl rfl kt_bool (by intro w; go_simp) (by intro w; go_simp) hLk hLo hk ho hkind.ok hof hkind.s, fieldP_any Tryz.func66 (by kernel_rfl) rfl rfl rfl kt_bool (by intro w; go_simp) (by intro w; go_simp) hLk hLo hk ho hkind.ok hof hkind.p, fieldG_any Tryz.func67 (by kernel_rfl) rfl rfl rfl kt_bool (by intro w; go_simp) (by intro w; go_simp) hLk hLo hk ho hof hkind.g⟩
theorem field_Msg_bool {L off : Nat} {k : Kd} {kv1 kv2 kv3 ov : Value} (w : World) (hL : L ≤ w.heap.size) (hk : KindAt L w kv1 kv2 kv3 0 k) (hof : OfAt ov off) : Calls Tryz.prog 31 #[.agg #[kv1, kv2, kv3], ov] w (Makes L k off w) :=
  fieldC_any Tryz.func31 rfl rfl rfl kt_bool kt_Msg fK_Msg_bool w hL hk hof
theorem of_msg9 : OfAt (.func (.func 33) #[] #[]) 8 := by
  refine ⟨_, rfl, enters_of Tryz.func33 (by kernel_rfl) rfl, ?_⟩
  intro w g o
  go_enter Tryz.func33, Tryz.ntmps33
  go_wp2
  go_ret
  exact ⟨rfl, rfl⟩
theorem fK_Msg_entries : FieldClosures 71 72 73 := fun hLk hLo hk ho hof hkind =>
  ⟨hkind.ok, fieldS_any Tryz.func71 (by kernel_rfl) rfl rfl rfl kt_entries (by intro w; go_simp) (by intro w; go_simp) hLk hLo hk ho hkind.ok hof hkind.s, fieldP_any Tryz.func72 (by kernel_rfl) rfl rfl rfl kt_entries (by intro w; go_simp) (by intro w; go_simp) hLk hLo hk ho hkind.ok hof hkind.p, fieldG_any Tryz.func73 (by kernel_rfl) rfl rfl rfl kt_entries (by intro w; go_simp) (by intro w; go_simp) hLk hLo hk ho hof hkind.g⟩
theorem field_Msg_entries {L off : Nat} {k : Kd} {kv1 kv2 kv3 ov : Value} (w : World) (hL : L ≤ w.heap.size) (hk : KindAt L w kv1 kv2 kv3 0 k) (hof : OfAt ov off) : Calls Tryz.prog 34 #[.agg #[kv1, kv2, kv3], ov] w (Makes L k off w) :=
  fieldC_any Tryz.func34 rfl rfl rfl kt_entries kt_Msg fK_Msg_entries w hL hk hof
theorem of_msg10 : OfAt (.func (.func 37) #[] #[]) 9 := by
  refine ⟨_, rfl, enters_of Tryz.func37 (by kernel_rfl) rfl, ?_⟩
  intro w g o
  go_enter Tryz.func37, Tryz.ntmps37
  go_wp2
  go_ret
  exact ⟨rfl, rfl⟩
theorem fK_Msg_Conf : FieldClosures 89 90 91 := fun hLk hLo hk ho hof hkind =>
  ⟨hkind.ok, fieldS_any Tryz.func89 (by kernel_rfl) rfl rfl rfl kt_Conf (by intro w; go_simp) (by intro w; go_simp) hLk hLo hk ho hkind.ok hof hkind.s, fieldP_any Tryz.func90 (by kernel_rfl) rfl rfl rfl kt_Conf (by intro w; go_simp) (by intro w; go_simp) hLk hLo hk ho hkind.ok hof hkind.p, fieldG_any Tryz.func91 (by kernel_rfl) rfl rfl rfl kt_Conf (by intro w; go_simp) (by intro w; go_simp) hLk hLo hk ho hof hkind.g⟩
theorem field_Msg_Conf {L off : Nat} {k : Kd} {kv1 kv2 kv3 ov : Value} (w : World) (hL : L ≤ w.heap.size) (hk : KindAt L w kv1 kv2 kv3 0 k) (hof : OfAt ov off) : Calls Tryz.prog 38 #[.agg #[kv1, kv2, kv3], ov] w (Makes L k off w) :=
  fieldC_any Tryz.func38 rfl rfl rfl kt_Conf kt_Msg fK_Msg_Conf w hL hk hof
theorem of_msg11 : OfAt (.func (.func 41) #[] #[]) 10 := by
  refine ⟨_, rfl, enters_of Tryz.func41 (by kernel_rfl) rfl, ?_⟩
  intro w g o
  go_enter Tryz.func41, Tryz.ntmps41
  go_wp2
  go_ret
  exact ⟨rfl, rfl⟩
theorem of_msg12 : OfAt (.func (.func 42) #[] #[]) 12 := by
  refine ⟨_, rfl, enters_of Tryz.func42 (by kernel_rfl) rfl, ?_⟩
  intro w g o
  go_enter Tryz.func42, Tryz.ntmps42
  go_wp2
  go_ret
  exact ⟨rfl, rfl⟩
theorem fK_Msg_bytes : FieldClosures 99 100 101 := fun hLk hLo hk ho hof hkind =>
  ⟨hkind.ok, fieldS_any Tryz.func99 (by kernel_rfl) rfl rfl rfl kt_bytes (by intro w; go_simp) (by intro w; go_simp) hLk hLo hk ho hkind.ok hof hkind.s, fieldP_any Tryz.func100 (by kernel_rfl) rfl rfl rfl kt_bytes (by intro w; go_simp) (by intro w; go_simp) hLk hLo hk ho hkind.ok hof hkind.p, fieldG_any Tryz.func101 (by kernel_rfl) rfl rfl rfl kt_bytes (by intro w; go_simp) (by intro w; go_simp) hLk hLo hk ho hof hkind.g⟩
theorem field_Msg_bytes {L off : Nat} {k : Kd} {kv1 kv2 kv3 ov : Value} (w : World) (hL : L ≤ w.heap.size) (hk : KindAt L w kv1 kv2 kv3 0 k) (hof : OfAt ov off) : Calls Tryz.prog 43 #[.agg #[kv1, kv2, kv3], ov] w (Makes L k off w) :=
  fieldC_any Tryz.func43 rfl rfl rfl kt_bytes kt_Msg fK_Msg_bytes w hL hk hof
theorem of_msg13 : OfAt (.func (.func 45) #[] #[]) 13 := by
  refine ⟨_, rfl, enters_of Tryz.func45 (by kernel_rfl) rfl, ?_⟩
  intro w g o
  go_enter Tryz.func45, Tryz.ntmps45
  go_wp2
  go_ret
  exact ⟨rfl, rfl⟩
theorem st_Msg : SlT 126 47 := ⟨Tryz.runUnderlying126, Tryz.isAgg126⟩
theorem rK_Msg : RecClosures 50 51 52 := fun hLf hLa hLt hf ha ht hF hok hm hT =>
  ⟨recK_ok hok _, recS_any Tryz.func50 (by kernel_rfl) rfl rfl rfl kt_Msg st_Msg (by intro w; go_simp) hLf hLa hf ha hF hok hm hLt ht hT, recP_any Tryz.func51 (by kernel_rfl) rfl rfl rfl kt_Msg st_Msg (by intro w; go_simp) hLf hLa hf ha hF hok hm, recG_any Tryz.func52 (by kernel_rfl) rfl rfl rfl kt_Msg st_Msg (by intro w; go_simp) hLf hLa hf ha hF hok hm⟩
theorem rec_Msg {L ba cf m : Nat} {ks : List Kd} {t : List Data → Bool} {fs : List Value} {tv : Value} {t2 : TypeId} (w : World) (hL : L ≤ w.heap.size) (hLa : L ≤ ba) (hm : m = ks.length) (ha : w.heap[ba]? = some (.cells fs.toArray t2 (0, 0))) (hF : FieldsAt L w ks 0 fs) (hml : ks.length ≤ 1000) (hT : TiedAt L w tv ks t) :
    Calls Tryz.prog 17 #[tv, .slice (some ⟨ba, 0, none⟩) m cf] w (Makes L (recK ks t) 0 w) :=
  recC_any Tryz.func17 rfl rfl rfl kt_Msg rK_Msg w hL hLa hm ha hF hml hT
end Go.Proofs.YtnmcaifecfaoiaaGreat.Kd
