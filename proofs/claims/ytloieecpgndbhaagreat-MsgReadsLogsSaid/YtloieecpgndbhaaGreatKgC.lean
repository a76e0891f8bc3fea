/- Fields and records of entries, configurations, snapshots, messages. Written by geni.py. -/
import Derived.Test.YtloieecpgndbhaaGreatKgA
namespace Go.Proofs.YtloieecpgndbhaaGreat.Kd
open Go.RowKit By CoP Co Mo

theorem fK_Entry_u64 : FieldClosures 235 236 237 := fun hLk hLo hk ho hof hkind =>
  ⟨hkind.ok, fieldS_any Tryz.func235 (by kernel_rfl) rfl rfl rfl kt_u64 (by intro w; go_simp) (by intro w; go_simp) hLk hLo hk ho hkind.ok hof hkind.s, fieldP_any Tryz.func236 (by kernel_rfl) rfl rfl rfl kt_u64 (by intro w; go_simp) (by intro w; go_simp) hLk hLo hk ho hkind.ok hof hkind.p, fieldG_any Tryz.func237 (by kernel_rfl) rfl rfl rfl kt_u64 (by intro w; go_simp) (by intro w; go_simp) hLk hLo hk ho hof hkind.g⟩
theorem field_Entry_u64 {L off : Nat} {k : Kd} {kv1 kv2 kv3 ov : Value} (w : World) (hL : L ≤ w.heap.size) (hk : KindAt L w kv1 kv2 kv3 0 k) (hof : OfAt ov off) : Calls Tryz.prog 115 #[.agg #[kv1, kv2, kv3], ov] w (Makes L k off w) :=
  fieldC_any Tryz.func115 rfl rfl rfl kt_u64 kt_Entry fK_Entry_u64 w hL hk hof
theorem of_entry1 : OfAt (.func (.func 117) #[] #[]) 0 := by
  refine ⟨_, rfl, enters_of Tryz.func117 (by kernel_rfl) rfl, ?_⟩
  intro w g o
  go_enter Tryz.func117, Tryz.ntmps117
  go_wp2
  go_ret
  exact ⟨rfl, rfl⟩
theorem of_entry2 : OfAt (.func (.func 118) #[] #[]) 1 := by
  refine ⟨_, rfl, enters_of Tryz.func118 (by kernel_rfl) rfl, ?_⟩
  intro w g o
  go_enter Tryz.func118, Tryz.ntmps118
  go_wp2
  go_ret
  exact ⟨rfl, rfl⟩
theorem fK_Entry_int : FieldClosures 243 244 245 := fun hLk hLo hk ho hof hkind =>
  ⟨hkind.ok, fieldS_any Tryz.func243 (by kernel_rfl) rfl rfl rfl kt_int (by intro w; go_simp) (by intro w; go_simp) hLk hLo hk ho hkind.ok hof hkind.s, fieldP_any Tryz.func244 (by kernel_rfl) rfl rfl rfl kt_int (by intro w; go_simp) (by intro w; go_simp) hLk hLo hk ho hkind.ok hof hkind.p, fieldG_any Tryz.func245 (by kernel_rfl) rfl rfl rfl kt_int (by intro w; go_simp) (by intro w; go_simp) hLk hLo hk ho hof hkind.g⟩
theorem field_Entry_int {L off : Nat} {k : Kd} {kv1 kv2 kv3 ov : Value} (w : World) (hL : L ≤ w.heap.size) (hk : KindAt L w kv1 kv2 kv3 0 k) (hof : OfAt ov off) : Calls Tryz.prog 119 #[.agg #[kv1, kv2, kv3], ov] w (Makes L k off w) :=
  fieldC_any Tryz.func119 rfl rfl rfl kt_int kt_Entry fK_Entry_int w hL hk hof
theorem of_entry3 : OfAt (.func (.func 121) #[] #[]) 2 := by
  refine ⟨_, rfl, enters_of Tryz.func121 (by kernel_rfl) rfl, ?_⟩
  intro w g o
  go_enter Tryz.func121, Tryz.ntmps121
  go_wp2
  go_ret
  exact ⟨rfl, rfl⟩
theorem fK_Entry_i64 : FieldClosures 249 250 251 := fun hLk hLo hk ho hof hkind =>
  ⟨hkind.ok, fieldS_any Tryz.func249 (by kernel_rfl) rfl rfl rfl kt_i64 (by intro w; go_simp) (by intro w; go_simp) hLk hLo hk ho hkind.ok hof hkind.s, fieldP_any Tryz.func250 (by kernel_rfl) rfl rfl rfl kt_i64 (by intro w; go_simp) (by intro w; go_simp) hLk hLo hk ho hkind.ok hof hkind.p, fieldG_any Tryz.func251 (by kernel_rfl) rfl rfl rfl kt_i64 (by intro w; go_simp) (by intro w; go_simp) hLk hLo hk ho hof hkind.g⟩
theorem field_Entry_i64 {L off : Nat} {k : Kd} {kv1 kv2 kv3 ov : Value} (w : World) (hL : L ≤ w.heap.size) (hk : KindAt L w kv1 kv2 kv3 0 k) (hof : OfAt ov off) : Calls Tryz.prog 122 #[.agg #[kv1, kv2, kv3], ov] w (Makes L k off w) :=
  fieldC_any Tryz.func122 rfl rfl rfl kt_i64 kt_Entry fK_Entry_i64 w hL hk hof
theorem of_entry4 : OfAt (.func (.func 124) #[] #[]) 3 := by
  refine ⟨_, rfl, enters_of Tryz.func124 (by kernel_rfl) rfl, ?_⟩
  intro w g o
  go_enter Tryz.func124, Tryz.ntmps124
  go_wp2
  go_ret
  exact ⟨rfl, rfl⟩
theorem fK_Entry_bytes : FieldClosures 255 256 257 := fun hLk hLo hk ho hof hkind =>
  ⟨hkind.ok, fieldS_any Tryz.func255 (by kernel_rfl) rfl rfl rfl kt_bytes (by intro w; go_simp) (by intro w; go_simp) hLk hLo hk ho hkind.ok hof hkind.s, fieldP_any Tryz.func256 (by kernel_rfl) rfl rfl rfl kt_bytes (by intro w; go_simp) (by intro w; go_simp) hLk hLo hk ho hkind.ok hof hkind.p, fieldG_any Tryz.func257 (by kernel_rfl) rfl rfl rfl kt_bytes (by intro w; go_simp) (by intro w; go_simp) hLk hLo hk ho hof hkind.g⟩
theorem field_Entry_bytes {L off : Nat} {k : Kd} {kv1 kv2 kv3 ov : Value} (w : World) (hL : L ≤ w.heap.size) (hk : KindAt L w kv1 kv2 kv3 0 k) (hof : OfAt ov off) : Calls Tryz.prog 125 #[.agg #[kv1, kv2, kv3], ov] w (Makes L k off w) :=
  fieldC_any Tryz.func125 rfl rfl rfl kt_bytes kt_Entry fK_Entry_bytes w hL hk hof
theorem of_entry5 : OfAt (.func (.func 127) #[] #[]) 4 := by
  refine ⟨_, rfl, enters_of Tryz.func127 (by kernel_rfl) rfl, ?_⟩
  intro w g o
  go_enter Tryz.func127, Tryz.ntmps127
  go_wp2
  go_ret
  exact ⟨rfl, rfl⟩
theorem st_Entry : SlT 362 130 := ⟨Tryz.runUnderlying362, Tryz.isAgg362⟩
theorem rK_Entry : RecClosures 232 233 234 := fun hLf hLa hLt hf ha ht hF hok hm hT =>
  ⟨recK_ok hok _, recS_any Tryz.func232 (by kernel_rfl) rfl rfl rfl kt_Entry st_Entry (by intro w; go_simp) hLf hLa hf ha hF hok hm hLt ht hT, recP_any Tryz.func233 (by kernel_rfl) rfl rfl rfl kt_Entry st_Entry (by intro w; go_simp) hLf hLa hf ha hF hok hm, recG_any Tryz.func234 (by kernel_rfl) rfl rfl rfl kt_Entry st_Entry (by intro w; go_simp) hLf hLa hf ha hF hok hm⟩
theorem rec_Entry {L ba cf m : Nat} {ks : List Kd} {t : List Data → Bool} {fs : List Value} {tv : Value} {t2 : TypeId} (w : World) (hL : L ≤ w.heap.size) (hLa : L ≤ ba) (hm : m = ks.length) (ha : w.heap[ba]? = some (.cells fs.toArray t2 (0, 0))) (hF : FieldsAt L w ks 0 fs) (hml : ks.length ≤ 1000) (hT : TiedAt L w tv ks t) :
    Calls Tryz.prog 113 #[tv, .slice (some ⟨ba, 0, none⟩) m cf] w (Makes L (recK ks t) 0 w) :=
  recC_any Tryz.func113 rfl rfl rfl kt_Entry rK_Entry w hL hLa hm ha hF hml hT
theorem fK_Conf_ints : FieldClosures 271 272 273 := fun hLk hLo hk ho hof hkind =>
  ⟨hkind.ok, fieldS_any Tryz.func271 (by kernel_rfl) rfl rfl rfl kt_ints (by intro w; go_simp) (by intro w; go_simp) hLk hLo hk ho hkind.ok hof hkind.s, fieldP_any Tryz.func272 (by kernel_rfl) rfl rfl rfl kt_ints (by intro w; go_simp) (by intro w; go_simp) hLk hLo hk ho hkind.ok hof hkind.p, fieldG_any Tryz.func273 (by kernel_rfl) rfl rfl rfl kt_ints (by intro w; go_simp) (by intro w; go_simp) hLk hLo hk ho hof hkind.g⟩
theorem field_Conf_ints {L off : Nat} {k : Kd} {kv1 kv2 kv3 ov : Value} (w : World) (hL : L ≤ w.heap.size) (hk : KindAt L w kv1 kv2 kv3 0 k) (hof : OfAt ov off) : Calls Tryz.prog 131 #[.agg #[kv1, kv2, kv3], ov] w (Makes L k off w) :=
  fieldC_any Tryz.func131 rfl rfl rfl kt_ints kt_Conf fK_Conf_ints w hL hk hof
theorem of_conf1 : OfAt (.func (.func 132) #[] #[]) 0 := by
  refine ⟨_, rfl, enters_of Tryz.func132 (by kernel_rfl) rfl, ?_⟩
  intro w g o
  go_enter Tryz.func132, Tryz.ntmps132
  go_wp2
  go_ret
  exact ⟨rfl, rfl⟩
theorem of_conf2 : OfAt (.func (.func 133) #[] #[]) 1 := by
  refine ⟨_, rfl, enters_of Tryz.func133 (by kernel_rfl) rfl, ?_⟩
  intro w g o
  go_enter Tryz.func133, Tryz.ntmps133
  go_wp2
  go_ret
  exact ⟨rfl, rfl⟩
theorem st_Conf : SlT 365 136 := ⟨Tryz.runUnderlying365, Tryz.isAgg365⟩
theorem rK_Conf : RecClosures 266 267 268 := fun hLf hLa hLt hf ha ht hF hok hm hT =>
  ⟨recK_ok hok _, recS_any Tryz.func266 (by kernel_rfl) rfl rfl rfl kt_Conf st_Conf (by intro w; go_simp) hLf hLa hf ha hF hok hm hLt ht hT, recP_any Tryz.func267 (by kernel_rfl) rfl rfl rfl kt_Conf st_Conf (by intro w; go_simp) hLf hLa hf ha hF hok hm, recG_any Tryz.func268 (by kernel_rfl) rfl rfl rfl kt_Conf st_Conf (by intro w; go_simp) hLf hLa hf ha hF hok hm⟩
theorem rec_Conf {L ba cf m : Nat} {ks : List Kd} {t : List Data → Bool} {fs : List Value} {tv : Value} {t2 : TypeId} (w : World) (hL : L ≤ w.heap.size) (hLa : L ≤ ba) (hm : m = ks.length) (ha : w.heap[ba]? = some (.cells fs.toArray t2 (0, 0))) (hF : FieldsAt L w ks 0 fs) (hml : ks.length ≤ 1000) (hT : TiedAt L w tv ks t) :
    Calls Tryz.prog 129 #[tv, .slice (some ⟨ba, 0, none⟩) m cf] w (Makes L (recK ks t) 0 w) :=
  recC_any Tryz.func129 rfl rfl rfl kt_Conf rK_Conf w hL hLa hm ha hF hml hT
theorem fK_Shot_u64 : FieldClosures 277 278 279 := fun hLk hLo hk ho hof hkind =>
  ⟨hkind.ok, fieldS_any Tryz.func277 (by kernel_rfl) rfl rfl rfl kt_u64 (by intro w; go_simp) (by intro w; go_simp) hLk hLo hk ho hkind.ok hof hkind.s, fieldP_any Tryz.func278 (by kernel_rfl) rfl rfl rfl kt_u64 (by intro w; go_simp) (by intro w; go_simp) hLk hLo hk ho hkind.ok hof hkind.p, fieldG_any Tryz.func279 (by kernel_rfl) rfl rfl rfl kt_u64 (by intro w; go_simp) (by intro w; go_simp) hLk hLo hk ho hof hkind.g⟩
theorem field_Shot_u64 {L off : Nat} {k : Kd} {kv1 kv2 kv3 ov : Value} (w : World) (hL : L ≤ w.heap.size) (hk : KindAt L w kv1 kv2 kv3 0 k) (hof : OfAt ov off) : Calls Tryz.prog 136 #[.agg #[kv1, kv2, kv3], ov] w (Makes L k off w) :=
  fieldC_any Tryz.func136 rfl rfl rfl kt_u64 kt_Shot fK_Shot_u64 w hL hk hof
theorem of_shot1 : OfAt (.func (.func 137) #[] #[]) 0 := by
  refine ⟨_, rfl, enters_of Tryz.func137 (by kernel_rfl) rfl, ?_⟩
  intro w g o
  go_enter Tryz.func137, Tryz.ntmps137
  go_wp2
  go_ret
  exact ⟨rfl, rfl⟩
theorem of_shot2 : OfAt (.func (.func 138) #[] #[]) 1 := by
  refine ⟨_, rfl, enters_of Tryz.func138 (by kernel_rfl) rfl, ?_⟩
  intro w g o
  go_enter Tryz.func138, Tryz.ntmps138
  go_wp2
  go_ret
  exact ⟨rfl, rfl⟩
theorem fK_Shot_Conf : FieldClosures 280 281 282 := fun hLk hLo hk ho hof hkind =>
  ⟨hkind.ok, fieldS_any Tryz.func280 (by kernel_rfl) rfl rfl rfl kt_Conf (by intro w; go_simp) (by intro w; go_simp) hLk hLo hk ho hkind.ok hof hkind.s, fieldP_any Tryz.func281 (by kernel_rfl) rfl rfl rfl kt_Conf (by intro w; go_simp) (by intro w; go_simp) hLk hLo hk ho hkind.ok hof hkind.p, fieldG_any Tryz.func282 (by kernel_rfl) rfl rfl rfl kt_Conf (by intro w; go_simp) (by intro w; go_simp) hLk hLo hk ho hof hkind.g⟩
theorem field_Shot_Conf {L off : Nat} {k : Kd} {kv1 kv2 kv3 ov : Value} (w : World) (hL : L ≤ w.heap.size) (hk : KindAt L w kv1 kv2 kv3 0 k) (hof : OfAt ov off) : Calls Tryz.prog 139 #[.agg #[kv1, kv2, kv3], ov] w (Makes L k off w) :=
  fieldC_any Tryz.func139 rfl rfl rfl kt_Conf kt_Shot fK_Shot_Conf w hL hk hof
theorem of_shot3 : OfAt (.func (.func 140) #[] #[]) 2 := by
  refine ⟨_, rfl, enters_of Tryz.func140 (by kernel_rfl) rfl, ?_⟩
  intro w g o
  go_enter Tryz.func140, Tryz.ntmps140
  go_wp2
  go_ret
  exact ⟨rfl, rfl⟩
theorem fK_Shot_bytes : FieldClosures 283 284 285 := fun hLk hLo hk ho hof hkind =>
  ⟨hkind.ok, fieldS_any Tryz.func283 (by kernel_rfl) rfl rfl rfl kt_bytes (by intro w; go_simp) (by intro w; go_simp) hLk hLo hk ho hkind.ok hof hkind.s, fieldP_any Tryz.func284 (by kernel_rfl) rfl rfl rfl kt_bytes (by intro w; go_simp) (by intro w; go_simp) hLk hLo hk ho hkind.ok hof hkind.p, fieldG_any Tryz.func285 (by kernel_rfl) rfl rfl rfl kt_bytes (by intro w; go_simp) (by intro w; go_simp) hLk hLo hk ho hof hkind.g⟩
theorem field_Shot_bytes {L off : Nat} {k : Kd} {kv1 kv2 kv3 ov : Value} (w : World) (hL : L ≤ w.heap.size) (hk : KindAt L w kv1 kv2 kv3 0 k) (hof : OfAt ov off) : Calls Tryz.prog 141 #[.agg #[kv1, kv2, kv3], ov] w (Makes L k off w) :=
  fieldC_any Tryz.func141 rfl rfl rfl kt_bytes kt_Shot fK_Shot_bytes w hL hk hof
theorem of_shot4 : OfAt (.func (.func 142) #[] #[]) 4 := by
  refine ⟨_, rfl, enters_of Tryz.func142 (by kernel_rfl) rfl, ?_⟩
  intro w g o
  go_enter Tryz.func142, Tryz.ntmps142
  go_wp2
  go_ret
  exact ⟨rfl, rfl⟩
theorem st_Shot : SlT 366 142 := ⟨Tryz.runUnderlying366, Tryz.isAgg366⟩
theorem rK_Shot : RecClosures 274 275 276 := fun hLf hLa hLt hf ha ht hF hok hm hT =>
  ⟨recK_ok hok _, recS_any Tryz.func274 (by kernel_rfl) rfl rfl rfl kt_Shot st_Shot (by intro w; go_simp) hLf hLa hf ha hF hok hm hLt ht hT, recP_any Tryz.func275 (by kernel_rfl) rfl rfl rfl kt_Shot st_Shot (by intro w; go_simp) hLf hLa hf ha hF hok hm, recG_any Tryz.func276 (by kernel_rfl) rfl rfl rfl kt_Shot st_Shot (by intro w; go_simp) hLf hLa hf ha hF hok hm⟩
theorem rec_Shot {L ba cf m : Nat} {ks : List Kd} {t : List Data → Bool} {fs : List Value} {tv : Value} {t2 : TypeId} (w : World) (hL : L ≤ w.heap.size) (hLa : L ≤ ba) (hm : m = ks.length) (ha : w.heap[ba]? = some (.cells fs.toArray t2 (0, 0))) (hF : FieldsAt L w ks 0 fs) (hml : ks.length ≤ 1000) (hT : TiedAt L w tv ks t) :
    Calls Tryz.prog 134 #[tv, .slice (some ⟨ba, 0, none⟩) m cf] w (Makes L (recK ks t) 0 w) :=
  recC_any Tryz.func134 rfl rfl rfl kt_Shot rK_Shot w hL hLa hm ha hF hml hT
theorem fK_Msg_int : FieldClosures 298 299 300 := fun hLk hLo hk ho hof hkind =>
  ⟨hkind.ok, fieldS_any Tryz.func298 (by kernel_rfl) rfl rfl rfl kt_int (by intro w; go_simp) (by intro w; go_simp) hLk hLo hk ho hkind.ok hof hkind.s, fieldP_any Tryz.func299 (by kernel_rfl) rfl rfl rfl kt_int (by intro w; go_simp) (by intro w; go_simp) hLk hLo hk ho hkind.ok hof hkind.p, fieldG_any Tryz.func300 (by kernel_rfl) rfl rfl rfl kt_int (by intro w; go_simp) (by intro w; go_simp) hLk hLo hk ho hof hkind.g⟩
theorem field_Msg_int {L off : Nat} {k : Kd} {kv1 kv2 kv3 ov : Value} (w : World) (hL : L ≤ w.heap.size) (hk : KindAt L w kv1 kv2 kv3 0 k) (hof : OfAt ov off) : Calls Tryz.prog 155 #[.agg #[kv1, kv2, kv3], ov] w (Makes L k off w) :=
  fieldC_any Tryz.func155 rfl rfl rfl kt_int kt_Msg fK_Msg_int w hL hk hof
theorem of_msg1 : OfAt (.func (.func 156) #[] #[]) 0 := by
  refine ⟨_, rfl, enters_of Tryz.func156 (by kernel_rfl) rfl, ?_⟩
  intro w g o
  go_enter Tryz.func156, Tryz.ntmps156
  go_wp2
  go_ret
  exact ⟨rfl, rfl⟩
theorem of_msg2 : OfAt (.func (.func 157) #[] #[]) 1 := by
  refine ⟨_, rfl, enters_of Tryz.func157 (by kernel_rfl) rfl, ?_⟩
  intro w g o
  go_enter Tryz.func157, Tryz.ntmps157
  go_wp2
  go_ret
  exact ⟨rfl, rfl⟩
theorem of_msg3 : OfAt (.func (.func 158) #[] #[]) 2 := by
  refine ⟨_, rfl, enters_of Tryz.func158 (by kernel_rfl) rfl, ?_⟩
  intro w g o
  go_enter Tryz.func158, Tryz.ntmps158
  go_wp2
  go_ret
  exact ⟨rfl, rfl⟩
theorem fK_Msg_u64 : FieldClosures 301 302 303 := fun hLk hLo hk ho hof hkind =>
  ⟨hkind.ok, fieldS_any Tryz.func301 (by kernel_rfl) rfl rfl rfl kt_u64 (by intro w; go_simp) (by intro w; go_simp) hLk hLo hk ho hkind.ok hof hkind.s, fieldP_any Tryz.func302 (by kernel_rfl) rfl rfl rfl kt_u64 (by intro w; go_simp) (by intro w; go_simp) hLk hLo hk ho hkind.ok hof hkind.p, fieldG_any Tryz.func303 (by kernel_rfl) rfl rfl rfl kt_u64 (by intro w; go_simp) (by intro w; go_simp) hLk hLo hk ho hof hkind.g⟩
theorem field_Msg_u64 {L off : Nat} {k : Kd} {kv1 kv2 kv3 ov : Value} (w : World) (hL : L ≤ w.heap.size) (hk : KindAt L w kv1 kv2 kv3 0 k) (hof : OfAt ov off) : Calls Tryz.prog 159 #[.agg #[kv1, kv2, kv3], ov] w (Makes L k off w) :=
  fieldC_any Tryz.func159 rfl rfl rfl kt_u64 kt_Msg fK_Msg_u64 w hL hk hof
theorem of_msg4 : OfAt (.func (.func 160) #[] #[]) 3 := by
  refine ⟨_, rfl, enters_of Tryz.func160 (by kernel_rfl) rfl, ?_⟩
  intro w g o
  go_enter Tryz.func160, Tryz.ntmps160
  go_wp2
  go_ret
  exact ⟨rfl, rfl⟩
theorem of_msg5 : OfAt (.func (.func 161) #[] #[]) 4 := by
  refine ⟨_, rfl, enters_of Tryz.func161 (by kernel_rfl) rfl, ?_⟩
  intro w g o
  go_enter Tryz.func161, Tryz.ntmps161
  go_wp2
  go_ret
  exact ⟨rfl, rfl⟩
theorem of_msg6 : OfAt (.func (.func 162) #[] #[]) 5 := by
  refine ⟨_, rfl, enters_of Tryz.func162 (by kernel_rfl) rfl, ?_⟩
  intro w g o
  go_enter Tryz.func162, Tryz.ntmps162
  go_wp2
  go_ret
  exact ⟨rfl, rfl⟩
theorem of_msg7 : OfAt (.func (.func 163) #[] #[]) 6 := by
  refine ⟨_, rfl, enters_of Tryz.func163 (by kernel_rfl) rfl, ?_⟩
  intro w g o
  go_enter Tryz.func163, Tryz.ntmps163
  go_wp2
  go_ret
  exact ⟨rfl, rfl⟩
theorem of_msg8 : OfAt (.func (.func 164) #[] #[]) 7 := by
  refine ⟨_, rfl, enters_of Tryz.func164 (by kernel_rfl) rfl, ?_⟩
  intro w g o
  go_enter Tryz.func164, Tryz.ntmps164
  go_wp2
  go_ret
  exact ⟨rfl, rfl⟩
theorem fK_Msg_bool : FieldClosures 304 305 306 := fun hLk hLo hk ho hof hkind =>
  ⟨hkind.ok, fieldS_any Tryz.func304 (by kernel_rfl) rfl rfl rfl kt_bool (by intro w; go_simp) (by intro w; go_simp) hLk hLo hk ho hkind.ok hof hkind.s, fieldP_any Tryz.func305 (by kernel_rfl) rfl rfl rfl kt_bool (by intro w; go_simp) (by intro w; go_simp) hLk hLo hk ho hkind.ok hof hkind.p, fieldG_any Tryz.func306 (by kernel_rfl) rfl rfl rfl kt_bool (by intro w; go_simp) (by intro w; go_simp) hLk hLo hk ho hof hkind.g⟩
theorem field_Msg_bool {L off : Nat} {k : Kd} {kv1 kv2 kv3 ov : Value} (w : World) (hL : L ≤ w.heap.size) (hk : KindAt L w kv1 kv2 kv3 0 k) (hof : OfAt ov off) : Calls Tryz.prog 165 #[.agg #[kv1, kv2, kv3], ov] w (Makes L k off w) :=
  fieldC_any Tryz.func165 rfl rfl rfl kt_bool kt_Msg fK_Msg_bool w hL hk hof
theorem of_msg9 : OfAt (.func (.func 167) #[] #[]) 8 := by
  refine ⟨_, rfl, enters_of Tryz.func167 (by kernel_rfl) rfl, ?_⟩
  intro w g o
  go_enter Tryz.func167, Tryz.ntmps167
  go_wp2
  go_ret
  exact ⟨rfl, rfl⟩
theorem fK_Msg_entries : FieldClosures 310 311 312 := fun hLk hLo hk ho hof hkind =>
  ⟨hkind.ok, fieldS_any Tryz.func310 (by kernel_rfl) rfl rfl rfl kt_entries (by intro w; go_simp) (by intro w; go_simp) hLk hLo hk ho hkind.ok hof hkind.s, fieldP_any Tryz.func311 (by kernel_rfl) rfl rfl rfl kt_entries (by intro w; go_simp) (by intro w; go_simp) hLk hLo hk ho hkind.ok hof hkind.p, fieldG_any Tryz.func312 (by kernel_rfl) rfl rfl rfl kt_entries (by intro w; go_simp) (by intro w; go_simp) hLk hLo hk ho hof hkind.g⟩
theorem field_Msg_entries {L off : Nat} {k : Kd} {kv1 kv2 kv3 ov : Value} (w : World) (hL : L ≤ w.heap.size) (hk : KindAt L w kv1 kv2 kv3 0 k) (hof : OfAt ov off) : Calls Tryz.prog 168 #[.agg #[kv1, kv2, kv3], ov] w (Makes L k off w) :=
  fieldC_any Tryz.func168 rfl rfl rfl kt_entries kt_Msg fK_Msg_entries w hL hk hof
theorem of_msg10 : OfAt (.func (.func 170) #[] #[]) 9 := by
  refine ⟨_, rfl, enters_of Tryz.func170 (by kernel_rfl) rfl, ?_⟩
  intro w g o
  go_enter Tryz.func170, Tryz.ntmps170
  go_wp2
  go_ret
  exact ⟨rfl, rfl⟩
theorem fK_Msg_Conf : FieldClosures 316 317 318 := fun hLk hLo hk ho hof hkind =>
  ⟨hkind.ok, fieldS_any Tryz.func316 (by kernel_rfl) rfl rfl rfl kt_Conf (by intro w; go_simp) (by intro w; go_simp) hLk hLo hk ho hkind.ok hof hkind.s, fieldP_any Tryz.func317 (by kernel_rfl) rfl rfl rfl kt_Conf (by intro w; go_simp) (by intro w; go_simp) hLk hLo hk ho hkind.ok hof hkind.p, fieldG_any Tryz.func318 (by kernel_rfl) rfl rfl rfl kt_Conf (by intro w; go_simp) (by intro w; go_simp) hLk hLo hk ho hof hkind.g⟩
theorem field_Msg_Conf {L off : Nat} {k : Kd} {kv1 kv2 kv3 ov : Value} (w : World) (hL : L ≤ w.heap.size) (hk : KindAt L w kv1 kv2 kv3 0 k) (hof : OfAt ov off) : Calls Tryz.prog 171 #[.agg #[kv1, kv2, kv3], ov] w (Makes L k off w) :=
  fieldC_any Tryz.func171 rfl rfl rfl kt_Conf kt_Msg fK_Msg_Conf w hL hk hof
theorem of_msg11 : OfAt (.func (.func 173) #[] #[]) 10 := by
  refine ⟨_, rfl, enters_of Tryz.func173 (by kernel_rfl) rfl, ?_⟩
  intro w g o
  go_enter Tryz.func173, Tryz.ntmps173
  go_wp2
  go_ret
  exact ⟨rfl, rfl⟩
theorem of_msg12 : OfAt (.func (.func 174) #[] #[]) 12 := by
  refine ⟨_, rfl, enters_of Tryz.func174 (by kernel_rfl) rfl, ?_⟩
  intro w g o
  go_enter Tryz.func174, Tryz.ntmps174
  go_wp2
  go_ret
  exact ⟨rfl, rfl⟩
theorem fK_Msg_bytes : FieldClosures 320 321 322 := fun hLk hLo hk ho hof hkind =>
  ⟨hkind.ok, fieldS_any Tryz.func320 (by kernel_rfl) rfl rfl rfl kt_bytes (by intro w; go_simp) (by intro w; go_simp) hLk hLo hk ho hkind.ok hof hkind.s, fieldP_any Tryz.func321 (by kernel_rfl) rfl rfl rfl kt_bytes (by intro w; go_simp) (by intro w; go_simp) hLk hLo hk ho hkind.ok hof hkind.p, fieldG_any Tryz.func322 (by kernel_rfl) rfl rfl rfl kt_bytes (by intro w; go_simp) (by intro w; go_simp) hLk hLo hk ho hof hkind.g⟩
theorem field_Msg_bytes {L off : Nat} {k : Kd} {kv1 kv2 kv3 ov : Value} (w : World) (hL : L ≤ w.heap.size) (hk : KindAt L w kv1 kv2 kv3 0 k) (hof : OfAt ov off) : Calls Tryz.prog 175 #[.agg #[kv1, kv2, kv3], ov] w (Makes L k off w) :=
  fieldC_any Tryz.func175 rfl rfl rfl kt_bytes kt_Msg fK_Msg_bytes w hL hk hof
theorem of_msg13 : OfAt (.func (.func 176) #[] #[]) 13 := by
  refine ⟨_, rfl, enters_of Tryz.func176 (by kernel_rfl) rfl, ?_⟩
  intro w g o
  go_enter Tryz.func176, Tryz.ntmps176
  go_wp2
  go_ret
  exact ⟨rfl, rfl⟩
theorem st_Msg : SlT 368 163 := ⟨Tryz.runUnderlying368, Tryz.isAgg368⟩
theorem rK_Msg : RecClosures 295 296 297 := fun hLf hLa hLt hf ha ht hF hok hm hT =>
  ⟨recK_ok hok _, recS_any Tryz.func295 (by kernel_rfl) rfl rfl rfl kt_Msg st_Msg (by intro w; go_simp) hLf hLa hf ha hF hok hm hLt ht hT, recP_any Tryz.func296 (by kernel_rfl) rfl rfl rfl kt_Msg st_Msg (by intro w; go_simp) hLf hLa hf ha hF hok hm, recG_any Tryz.func297 (by kernel_rfl) rfl rfl rfl kt_Msg st_Msg (by intro w; go_simp) hLf hLa hf ha hF hok hm⟩
theorem rec_Msg {L ba cf m : Nat} {ks : List Kd} {t : List Data → Bool} {fs : List Value} {tv : Value} {t2 : TypeId} (w : World) (hL : L ≤ w.heap.size) (hLa : L ≤ ba) (hm : m = ks.length) (ha : w.heap[ba]? = some (.cells fs.toArray t2 (0, 0))) (hF : FieldsAt L w ks 0 fs) (hml : ks.length ≤ 1000) (hT : TiedAt L w tv ks t) :
    Calls Tryz.prog 153 #[tv, .slice (some ⟨ba, 0, none⟩) m cf] w (Makes L (recK ks t) 0 w) :=
  recC_any Tryz.func153 rfl rfl rfl kt_Msg rK_Msg w hL hLa hm ha hF hml hT
end Go.Proofs.YtloieecpgndbhaaGreat.Kd
