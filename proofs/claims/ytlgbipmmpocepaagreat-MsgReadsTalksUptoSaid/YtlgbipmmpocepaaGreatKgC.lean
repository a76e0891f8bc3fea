/- Fields and records of entries, configurations, snapshots, messages. Written by geni.py. -/
import Derived.Test.YtlgbipmmpocepaaGreatKgA
namespace Go.Proofs.YtlgbipmmpocepaaGreat.Kd
open Go.RowKit By CoP Co Mo

theorem fK_Entry_u64 : FieldClosures 282 283 284 := fun hLk hLo hk ho hof hkind =>
  ⟨hkind.ok, fieldS_any Tryz.func282 (by kernel_rfl) rfl rfl rfl kt_u64 (by intro w; go_simp) (by intro w; go_simp) hLk hLo hk ho hkind.ok hof hkind.s, fieldP_any Tryz.func283 (by kernel_rfl) rfl rfl rfl kt_u64 (by intro w; go_simp) (by intro w; go_simp) hLk hLo hk ho hkind.ok hof hkind.p, fieldG_any Tryz.func284 (by kernel_rfl) rfl rfl rfl kt_u64 (by intro w; go_simp) (by intro w; go_simp) hLk hLo hk ho hof hkind.g⟩
theorem field_Entry_u64 {L off : Nat} {k : Kd} {kv1 kv2 kv3 ov : Value} (w : World) (hL : L ≤ w.heap.size) (hk : KindAt L w kv1 kv2 kv3 0 k) (hof : OfAt ov off) : Calls Tryz.prog 168 #[.agg #[kv1, kv2, kv3], ov] w (Makes L k off w) :=
  fieldC_any Tryz.func168 rfl rfl rfl kt_u64 kt_Entry fK_Entry_u64 w hL hk hof
theorem of_entry1 : OfAt (.func (.func 169) #[] #[]) 0 := by
  refine ⟨_, rfl, enters_of Tryz.func169 (by kernel_rfl) rfl, ?_⟩
  intro w g o
  go_enter Tryz.func169, Tryz.ntmps169
  go_wp2
  go_ret
  exact ⟨rfl, rfl⟩
theorem of_entry2 : OfAt (.func (.func 170) #[] #[]) 1 := by
  refine ⟨_, rfl, enters_of Tryz.func170 (by kernel_rfl) rfl, ?_⟩
  intro w g o
  go_enter Tryz.func170, Tryz.ntmps170
  go_wp2
  go_ret
  exact ⟨rfl, rfl⟩
theorem fK_Entry_int : FieldClosures 285 286 287 := fun hLk hLo hk ho hof hkind =>
  ⟨hkind.ok, fieldS_any Tryz.func285 (by kernel_rfl) rfl rfl rfl kt_int (by intro w; go_simp) (by intro w; go_simp) hLk hLo hk ho hkind.ok hof hkind.s, fieldP_any Tryz.func286 (by kernel_rfl) rfl rfl rfl kt_int (by intro w; go_simp) (by intro w; go_simp) hLk hLo hk ho hkind.ok hof hkind.p, fieldG_any Tryz.func287 (by kernel_rfl) rfl rfl rfl kt_int (by intro w; go_simp) (by intro w; go_simp) hLk hLo hk ho hof hkind.g⟩
theorem field_Entry_int {L off : Nat} {k : Kd} {kv1 kv2 kv3 ov : Value} (w : World) (hL : L ≤ w.heap.size) (hk : KindAt L w kv1 kv2 kv3 0 k) (hof : OfAt ov off) : Calls Tryz.prog 171 #[.agg #[kv1, kv2, kv3], ov] w (Makes L k off w) :=
  fieldC_any Tryz.func171 rfl rfl rfl kt_int kt_Entry fK_Entry_int w hL hk hof
theorem of_entry3 : OfAt (.func (.func 172) #[] #[]) 2 := by
  refine ⟨_, rfl, enters_of Tryz.func172 (by kernel_rfl) rfl, ?_⟩
  intro w g o
  go_enter Tryz.func172, Tryz.ntmps172
  go_wp2
  go_ret
  exact ⟨rfl, rfl⟩
theorem fK_Entry_i64 : FieldClosures 288 289 290 := fun hLk hLo hk ho hof hkind =>
  ⟨hkind.ok, fieldS_any Tryz.func288 (by kernel_rfl) rfl rfl rfl kt_i64 (by intro w; go_simp) (by intro w; go_simp) hLk hLo hk ho hkind.ok hof hkind.s, fieldP_any Tryz.func289 (by kernel_rfl) rfl rfl rfl kt_i64 (by intro w; go_simp) (by intro w; go_simp) hLk hLo hk ho hkind.ok hof hkind.p, fieldG_any Tryz.func290 (by kernel_rfl) rfl rfl rfl kt_i64 (by intro w; go_simp) (by intro w; go_simp) hLk hLo hk ho hof hkind.g⟩
theorem field_Entry_i64 {L off : Nat} {k : Kd} {kv1 kv2 kv3 ov : Value} (w : World) (hL : L ≤ w.heap.size) (hk : KindAt L w kv1 kv2 kv3 0 k) (hof : OfAt ov off) : Calls Tryz.prog 173 #[.agg #[kv1, kv2, kv3], ov] w (Makes L k off w) :=
  fieldC_any Tryz.func173 rfl rfl rfl kt_i64 kt_Entry fK_Entry_i64 w hL hk hof
theorem of_entry4 : OfAt (.func (.func 175) #[] #[]) 3 := by
  refine ⟨_, rfl, enters_of Tryz.func175 (by kernel_rfl) rfl, ?_⟩
  intro w g o
  go_enter Tryz.func175, Tryz.ntmps175
  go_wp2
  go_ret
  exact ⟨rfl, rfl⟩
theorem fK_Entry_bytes : FieldClosures 294 295 296 := fun hLk hLo hk ho hof hkind =>
  ⟨hkind.ok, fieldS_any Tryz.func294 (by kernel_rfl) rfl rfl rfl kt_bytes (by intro w; go_simp) (by intro w; go_simp) hLk hLo hk ho hkind.ok hof hkind.s, fieldP_any Tryz.func295 (by kernel_rfl) rfl rfl rfl kt_bytes (by intro w; go_simp) (by intro w; go_simp) hLk hLo hk ho hkind.ok hof hkind.p, fieldG_any Tryz.func296 (by kernel_rfl) rfl rfl rfl kt_bytes (by intro w; go_simp) (by intro w; go_simp) hLk hLo hk ho hof hkind.g⟩
theorem field_Entry_bytes {L off : Nat} {k : Kd} {kv1 kv2 kv3 ov : Value} (w : World) (hL : L ≤ w.heap.size) (hk : KindAt L w kv1 kv2 kv3 0 k) (hof : OfAt ov off) : Calls Tryz.prog 176 #[.agg #[kv1, kv2, kv3], ov] w (Makes L k off w) :=
  fieldC_any Tryz.func176 rfl rfl rfl kt_bytes kt_Entry fK_Entry_bytes w hL hk hof
theorem of_entry5 : OfAt (.func (.func 177) #[] #[]) 4 := by
  refine ⟨_, rfl, enters_of Tryz.func177 (by kernel_rfl) rfl, ?_⟩
  intro w g o
  go_enter Tryz.func177, Tryz.ntmps177
  go_wp2
  go_ret
  exact ⟨rfl, rfl⟩
theorem st_Entry : SlT 303 160 := ⟨Tryz.runUnderlying303, Tryz.isAgg303⟩
theorem rK_Entry : RecClosures 278 279 280 := fun hLf hLa hLt hf ha ht hF hok hm hT =>
  ⟨recK_ok hok _, recS_any Tryz.func278 (by kernel_rfl) rfl rfl rfl kt_Entry st_Entry (by intro w; go_simp) hLf hLa hf ha hF hok hm hLt ht hT, recP_any Tryz.func279 (by kernel_rfl) rfl rfl rfl kt_Entry st_Entry (by intro w; go_simp) hLf hLa hf ha hF hok hm, recG_any Tryz.func280 (by kernel_rfl) rfl rfl rfl kt_Entry st_Entry (by intro w; go_simp) hLf hLa hf ha hF hok hm⟩
theorem rec_Entry {L ba cf m : Nat} {ks : List Kd} {t : List Data → Bool} {fs : List Value} {tv : Value} {t2 : TypeId} (w : World) (hL : L ≤ w.heap.size) (hLa : L ≤ ba) (hm : m = ks.length) (ha : w.heap[ba]? = some (.cells fs.toArray t2 (0, 0))) (hF : FieldsAt L w ks 0 fs) (hml : ks.length ≤ 1000) (hT : TiedAt L w tv ks t) :
    Calls Tryz.prog 166 #[tv, .slice (some ⟨ba, 0, none⟩) m cf] w (Makes L (recK ks t) 0 w) :=
  recC_any Tryz.func166 rfl rfl rfl kt_Entry rK_Entry w hL hLa hm ha hF hml hT
theorem fK_Conf_ints : FieldClosures 305 306 307 := fun hLk hLo hk ho hof hkind =>
  ⟨hkind.ok, fieldS_any Tryz.func305 (by kernel_rfl) rfl rfl rfl kt_ints (by intro w; go_simp) (by intro w; go_simp) hLk hLo hk ho hkind.ok hof hkind.s, fieldP_any Tryz.func306 (by kernel_rfl) rfl rfl rfl kt_ints (by intro w; go_simp) (by intro w; go_simp) hLk hLo hk ho hkind.ok hof hkind.p, fieldG_any Tryz.func307 (by kernel_rfl) rfl rfl rfl kt_ints (by intro w; go_simp) (by intro w; go_simp) hLk hLo hk ho hof hkind.g⟩
theorem field_Conf_ints {L off : Nat} {k : Kd} {kv1 kv2 kv3 ov : Value} (w : World) (hL : L ≤ w.heap.size) (hk : KindAt L w kv1 kv2 kv3 0 k) (hof : OfAt ov off) : Calls Tryz.prog 185 #[.agg #[kv1, kv2, kv3], ov] w (Makes L k off w) :=
  fieldC_any Tryz.func185 rfl rfl rfl kt_ints kt_Conf fK_Conf_ints w hL hk hof
theorem of_conf1 : OfAt (.func (.func 186) #[] #[]) 0 := by
  refine ⟨_, rfl, enters_of Tryz.func186 (by kernel_rfl) rfl, ?_⟩
  intro w g o
  go_enter Tryz.func186, Tryz.ntmps186
  go_wp2
  go_ret
  exact ⟨rfl, rfl⟩
theorem of_conf2 : OfAt (.func (.func 187) #[] #[]) 1 := by
  refine ⟨_, rfl, enters_of Tryz.func187 (by kernel_rfl) rfl, ?_⟩
  intro w g o
  go_enter Tryz.func187, Tryz.ntmps187
  go_wp2
  go_ret
  exact ⟨rfl, rfl⟩
theorem st_Conf : SlT 306 169 := ⟨Tryz.runUnderlying306, Tryz.isAgg306⟩
theorem rK_Conf : RecClosures 300 301 302 := fun hLf hLa hLt hf ha ht hF hok hm hT =>
  ⟨recK_ok hok _, recS_any Tryz.func300 (by kernel_rfl) rfl rfl rfl kt_Conf st_Conf (by intro w; go_simp) hLf hLa hf ha hF hok hm hLt ht hT, recP_any Tryz.func301 (by kernel_rfl) rfl rfl rfl kt_Conf st_Conf (by intro w; go_simp) hLf hLa hf ha hF hok hm, recG_any Tryz.func302 (by kernel_rfl) rfl rfl rfl kt_Conf st_Conf (by intro w; go_simp) hLf hLa hf ha hF hok hm⟩
theorem rec_Conf {L ba cf m : Nat} {ks : List Kd} {t : List Data → Bool} {fs : List Value} {tv : Value} {t2 : TypeId} (w : World) (hL : L ≤ w.heap.size) (hLa : L ≤ ba) (hm : m = ks.length) (ha : w.heap[ba]? = some (.cells fs.toArray t2 (0, 0))) (hF : FieldsAt L w ks 0 fs) (hml : ks.length ≤ 1000) (hT : TiedAt L w tv ks t) :
    Calls Tryz.prog 183 #[tv, .slice (some ⟨ba, 0, none⟩) m cf] w (Makes L (recK ks t) 0 w) :=
  recC_any Tryz.func183 rfl rfl rfl kt_Conf rK_Conf w hL hLa hm ha hF hml hT
theorem fK_Msg_int : FieldClosures 142 143 144 := fun hLk hLo hk ho hof hkind =>
  ⟨hkind.ok, fieldS_any Tryz.func142 (by kernel_rfl) rfl rfl rfl kt_int (by intro w; go_simp) (by intro w; go_simp) hLk hLo hk ho hkind.ok hof hkind.s, fieldP_any Tryz.func143 (by kernel_rfl) rfl rfl rfl kt_int (by intro w; go_simp) (by intro w; go_simp) hLk hLo hk ho hkind.ok hof hkind.p, fieldG_any Tryz.func144 (by kernel_rfl) rfl rfl rfl kt_int (by intro w; go_simp) (by intro w; go_simp) hLk hLo hk ho hof hkind.g⟩
theorem field_Msg_int {L off : Nat} {k : Kd} {kv1 kv2 kv3 ov : Value} (w : World) (hL : L ≤ w.heap.size) (hk : KindAt L w kv1 kv2 kv3 0 k) (hof : OfAt ov off) : Calls Tryz.prog 51 #[.agg #[kv1, kv2, kv3], ov] w (Makes L k off w) :=
  fieldC_any Tryz.func51 rfl rfl rfl kt_int kt_Msg fK_Msg_int w hL hk hof
theorem of_msg1 : OfAt (.func (.func 53) #[] #[]) 0 := by
  refine ⟨_, rfl, enters_of Tryz.func53 (by kernel_rfl) rfl, ?_⟩
  intro w g o
  go_enter Tryz.func53, Tryz.ntmps53
  go_wp2
  go_ret
  exact ⟨rfl, rfl⟩
theorem of_msg2 : OfAt (.func (.func 54) #[] #[]) 1 := by
  refine ⟨_, rfl, enters_of Tryz.func54 (by kernel_rfl) rfl, ?_⟩
  intro w g o
  go_enter Tryz.func54, Tryz.ntmps54
  go_wp2
  go_ret
  exact ⟨rfl, rfl⟩
theorem of_msg3 : OfAt (.func (.func 55) #[] #[]) 2 := by
  refine ⟨_, rfl, enters_of Tryz.func55 (by kernel_rfl) rfl, ?_⟩
  intro w g o
  go_enter Tryz.func55, Tryz.ntmps55
  go_wp2
  go_ret
  exact ⟨rfl, rfl⟩
theorem fK_Msg_u64 : FieldClosures 150 151 152 := fun hLk hLo hk ho hof hkind =>
  ⟨hkind.ok, fieldS_any Tryz.func150 (by kernel_rfl) rfl rfl rfl kt_u64 (by intro w; go_simp) (by intro w; go_simp) hLk hLo hk ho hkind.ok hof hkind.s, fieldP_any Tryz.func151 (by kernel_rfl) rfl rfl rfl kt_u64 (by intro w; go_simp) (by intro w; go_simp) hLk hLo hk ho hkind.ok hof hkind.p, fieldG_any Tryz.func152 (by kernel_rfl) rfl rfl rfl kt_u64 (by intro w; go_simp) (by intro w; go_simp) hLk hLo hk ho hof hkind.g⟩
theorem field_Msg_u64 {L off : Nat} {k : Kd} {kv1 kv2 kv3 ov : Value} (w : World) (hL : L ≤ w.heap.size) (hk : KindAt L w kv1 kv2 kv3 0 k) (hof : OfAt ov off) : Calls Tryz.prog 56 #[.agg #[kv1, kv2, kv3], ov] w (Makes L k off w) :=
  fieldC_any Tryz.func56 rfl rfl rfl kt_u64 kt_Msg fK_Msg_u64 w hL hk hof
theorem of_msg4 : OfAt (.func (.func 58) #[] #[]) 3 := by
  refine ⟨_, rfl, enters_of Tryz.func58 (by kernel_rfl) rfl, ?_⟩
  intro w g o
  go_enter Tryz.func58, Tryz.ntmps58
  go_wp2
  go_ret
  exact ⟨rfl, rfl⟩
theorem of_msg5 : OfAt (.func (.func 59) #[] #[]) 4 := by
  refine ⟨_, rfl, enters_of Tryz.func59 (by kernel_rfl) rfl, ?_⟩
  intro w g o
  go_enter Tryz.func59, Tryz.ntmps59
  go_wp2
  go_ret
  exact ⟨rfl, rfl⟩
theorem of_msg6 : OfAt (.func (.func 60) #[] #[]) 5 := by
  refine ⟨_, rfl, enters_of Tryz.func60 (by kernel_rfl) rfl, ?_⟩
  intro w g o
  go_enter Tryz.func60, Tryz.ntmps60
  go_wp2
  go_ret
  exact ⟨rfl, rfl⟩
theorem of_msg7 : OfAt (.func (.func 61) #[] #[]) 6 := by
  refine ⟨_, rfl, enters_of Tryz.func61 (by kernel_rfl) rfl, ?_⟩
  intro w g o
  go_enter Tryz.func61, Tryz.ntmps61
  go_wp2
  go_ret
  exact ⟨rfl, rfl⟩
theorem of_msg8 : OfAt (.func (.func 62) #[] #[]) 7 := by
  refine ⟨_, rfl, enters_of Tryz.func62 (by kernel_rfl) rfl, ?_⟩
  intro w g o
  go_enter Tryz.func62, Tryz.ntmps62
  go_wp2
  go_ret
  exact ⟨rfl, rfl⟩
theorem fK_Msg_bool : FieldClosures 154 155 156 := fun hLk hLo hk ho hof hkind =>
  ⟨hkind.ok, fieldS_any Tryz.func154 (by kernel_rfl) rfl rfl rfl kt_bool (by intro w; go_simp) (by intro w; go_simp) hLk hLo hk ho hkind.ok hof hkind.s, fieldP_any Tryz.func155 (by kernel_rfl) rfl rfl rfl kt_bool (by intro w; go_simp) (by intro w; go_simp) hLk hLo hk ho hkind.ok hof hkind.p, fieldG_any Tryz.func156 (by kernel_rfl) rfl rfl rfl kt_bool (by intro w; go_simp) (by intro w; go_simp) hLk hLo hk ho hof hkind.g⟩
theorem field_Msg_bool {L off : Nat} {k : Kd} {kv1 kv2 kv3 ov : Value} (w : World) (hL : L ≤ w.heap.size) (hk : KindAt L w kv1 kv2 kv3 0 k) (hof : OfAt ov off) : Calls Tryz.prog 63 #[.agg #[kv1, kv2, kv3], ov] w (Makes L k off w) :=
  fieldC_any Tryz.func63 rfl rfl rfl kt_bool kt_Msg fK_Msg_bool w hL hk hof
theorem of_msg9 : OfAt (.func (.func 65) #[] #[]) 8 := by
  refine ⟨_, rfl, enters_of Tryz.func65 (by kernel_rfl) rfl, ?_⟩
  intro w g o
  go_enter Tryz.func65, Tryz.ntmps65
  go_wp2
  go_ret
  exact ⟨rfl, rfl⟩
theorem fK_Msg_entries : FieldClosures 160 161 162 := fun hLk hLo hk ho hof hkind =>
  ⟨hkind.ok, fieldS_any Tryz.func160 (by kernel_rfl) rfl rfl rfl kt_entries (by intro w; go_simp) (by intro w; go_simp) hLk hLo hk ho hkind.ok hof hkind.s, fieldP_any Tryz.func161 (by kernel_rfl) rfl rfl rfl kt_entries (by intro w; go_simp) (by intro w; go_simp) hLk hLo hk ho hkind.ok hof hkind.p, fieldG_any Tryz.func162 (by kernel_rfl) rfl rfl rfl kt_entries (by intro w; go_simp) (by intro w; go_simp) hLk hLo hk ho hof hkind.g⟩
theorem field_Msg_entries {L off : Nat} {k : Kd} {kv1 kv2 kv3 ov : Value} (w : World) (hL : L ≤ w.heap.size) (hk : KindAt L w kv1 kv2 kv3 0 k) (hof : OfAt ov off) : Calls Tryz.prog 66 #[.agg #[kv1, kv2, kv3], ov] w (Makes L k off w) :=
  fieldC_any Tryz.func66 rfl rfl rfl kt_entries kt_Msg fK_Msg_entries w hL hk hof
theorem of_msg10 : OfAt (.func (.func 69) #[] #[]) 9 := by
  refine ⟨_, rfl, enters_of Tryz.func69 (by kernel_rfl) rfl, ?_⟩
  intro w g o
  go_enter Tryz.func69, Tryz.ntmps69
  go_wp2
  go_ret
  exact ⟨rfl, rfl⟩
theorem fK_Msg_Conf : FieldClosures 178 179 180 := fun hLk hLo hk ho hof hkind =>
  ⟨hkind.ok, fieldS_any Tryz.func178 (by kernel_rfl) rfl rfl rfl kt_Conf (by intro w; go_simp) (by intro w; go_simp) hLk hLo hk ho hkind.ok hof hkind.s, fieldP_any Tryz.func179 (by kernel_rfl) rfl rfl rfl kt_Conf (by intro w; go_simp) (by intro w; go_simp) hLk hLo hk ho hkind.ok hof hkind.p, fieldG_any Tryz.func180 (by kernel_rfl) rfl rfl rfl kt_Conf (by intro w; go_simp) (by intro w; go_simp) hLk hLo hk ho hof hkind.g⟩
theorem field_Msg_Conf {L off : Nat} {k : Kd} {kv1 kv2 kv3 ov : Value} (w : World) (hL : L ≤ w.heap.size) (hk : KindAt L w kv1 kv2 kv3 0 k) (hof : OfAt ov off) : Calls Tryz.prog 70 #[.agg #[kv1, kv2, kv3], ov] w (Makes L k off w) :=
  fieldC_any Tryz.func70 rfl rfl rfl kt_Conf kt_Msg fK_Msg_Conf w hL hk hof
theorem of_msg11 : OfAt (.func (.func 73) #[] #[]) 10 := by
  refine ⟨_, rfl, enters_of Tryz.func73 (by kernel_rfl) rfl, ?_⟩
  intro w g o
  go_enter Tryz.func73, Tryz.ntmps73
  go_wp2
  go_ret
  exact ⟨rfl, rfl⟩
theorem of_msg12 : OfAt (.func (.func 74) #[] #[]) 12 := by
  refine ⟨_, rfl, enters_of Tryz.func74 (by kernel_rfl) rfl, ?_⟩
  intro w g o
  go_enter Tryz.func74, Tryz.ntmps74
  go_wp2
  go_ret
  exact ⟨rfl, rfl⟩
theorem fK_Msg_bytes : FieldClosures 188 189 190 := fun hLk hLo hk ho hof hkind =>
  ⟨hkind.ok, fieldS_any Tryz.func188 (by kernel_rfl) rfl rfl rfl kt_bytes (by intro w; go_simp) (by intro w; go_simp) hLk hLo hk ho hkind.ok hof hkind.s, fieldP_any Tryz.func189 (by kernel_rfl) rfl rfl rfl kt_bytes (by intro w; go_simp) (by intro w; go_simp) hLk hLo hk ho hkind.ok hof hkind.p, fieldG_any Tryz.func190 (by kernel_rfl) rfl rfl rfl kt_bytes (by intro w; go_simp) (by intro w; go_simp) hLk hLo hk ho hof hkind.g⟩
theorem field_Msg_bytes {L off : Nat} {k : Kd} {kv1 kv2 kv3 ov : Value} (w : World) (hL : L ≤ w.heap.size) (hk : KindAt L w kv1 kv2 kv3 0 k) (hof : OfAt ov off) : Calls Tryz.prog 75 #[.agg #[kv1, kv2, kv3], ov] w (Makes L k off w) :=
  fieldC_any Tryz.func75 rfl rfl rfl kt_bytes kt_Msg fK_Msg_bytes w hL hk hof
theorem of_msg13 : OfAt (.func (.func 77) #[] #[]) 13 := by
  refine ⟨_, rfl, enters_of Tryz.func77 (by kernel_rfl) rfl, ?_⟩
  intro w g o
  go_enter Tryz.func77, Tryz.ntmps77
  go_wp2
  go_ret
  exact ⟨rfl, rfl⟩
theorem st_Msg : SlT 261 73 := ⟨Tryz.runUnderlying261, Tryz.isAgg261⟩
theorem rK_Msg : RecClosures 139 140 141 := fun hLf hLa hLt hf ha ht hF hok hm hT =>
  ⟨recK_ok hok _, recS_any Tryz.func139 (by kernel_rfl) rfl rfl rfl kt_Msg st_Msg (by intro w; go_simp) hLf hLa hf ha hF hok hm hLt ht hT, recP_any Tryz.func140 (by kernel_rfl) rfl rfl rfl kt_Msg st_Msg (by intro w; go_simp) hLf hLa hf ha hF hok hm, recG_any Tryz.func141 (by kernel_rfl) rfl rfl rfl kt_Msg st_Msg (by intro w; go_simp) hLf hLa hf ha hF hok hm⟩
theorem rec_Msg {L ba cf m : Nat} {ks : List Kd} {t : List Data → Bool} {fs : List Value} {tv : Value} {t2 : TypeId} (w : World) (hL : L ≤ w.heap.size) (hLa : L ≤ ba) (hm : m = ks.length) (ha : w.heap[ba]? = some (.cells fs.toArray t2 (0, 0))) (hF : FieldsAt L w ks 0 fs) (hml : ks.length ≤ 1000) (hT : TiedAt L w tv ks t) :
    Calls Tryz.prog 49 #[tv, .slice (some ⟨ba, 0, none⟩) m cf] w (Makes L (recK ks t) 0 w) :=
  recC_any Tryz.func49 rfl rfl rfl kt_Msg rK_Msg w hL hLa hm ha hF hml hT
end Go.Proofs.YtlgbipmmpocepaaGreat.Kd
