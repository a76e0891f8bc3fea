/- Fields and records of hard states, commands, replies, what edges ask and are told. Written by geni.py. -/
import Derived.Test.YtlgbipmmpocepaaGreatKgA
namespace Go.Proofs.YtlgbipmmpocepaaGreat.Kd
open Go.RowKit By CoP Co Mo

theorem free_Hard {L : Nat} (W : World) (ks : List Kd) : TiedAt L W (.func (.func 266) #[] #[]) ks (fun _ => true) := by
  refine ⟨_, _, rfl, enters_of Tryz.func266 (by kernel_rfl) rfl, ?_⟩
  intro w hb g o vs ds _ _
  clear hb
  go_enter Tryz.func266, Tryz.ntmps266
  go_wp2
  go_ret
  exact ⟨rfl, Below.refl _ _⟩
theorem free_Command {L : Nat} (W : World) (ks : List Kd) : TiedAt L W (.func (.func 84) #[] #[]) ks (fun _ => true) := by
  refine ⟨_, _, rfl, enters_of Tryz.func84 (by kernel_rfl) rfl, ?_⟩
  intro w hb g o vs ds _ _
  clear hb
  go_enter Tryz.func84, Tryz.ntmps84
  go_wp2
  go_ret
  exact ⟨rfl, Below.refl _ _⟩
theorem free_Reply {L : Nat} (W : World) (ks : List Kd) : TiedAt L W (.func (.func 99) #[] #[]) ks (fun _ => true) := by
  refine ⟨_, _, rfl, enters_of Tryz.func99 (by kernel_rfl) rfl, ?_⟩
  intro w hb g o vs ds _ _
  clear hb
  go_enter Tryz.func99, Tryz.ntmps99
  go_wp2
  go_ret
  exact ⟨rfl, Below.refl _ _⟩
theorem free_Told {L : Nat} (W : World) (ks : List Kd) : TiedAt L W (.func (.func 123) #[] #[]) ks (fun _ => true) := by
  refine ⟨_, _, rfl, enters_of Tryz.func123 (by kernel_rfl) rfl, ?_⟩
  intro w hb g o vs ds _ _
  clear hb
  go_enter Tryz.func123, Tryz.ntmps123
  go_wp2
  go_ret
  exact ⟨rfl, Below.refl _ _⟩
theorem fK_Hard_u64 : FieldClosures 311 312 313 := fun hLk hLo hk ho hof hkind =>
  ⟨hkind.ok, fieldS_any Tryz.func311 (by kernel_rfl) rfl rfl rfl kt_u64 (by intro w; go_simp) (by intro w; go_simp) hLk hLo hk ho hkind.ok hof hkind.s, fieldP_any Tryz.func312 (by kernel_rfl) rfl rfl rfl kt_u64 (by intro w; go_simp) (by intro w; go_simp) hLk hLo hk ho hkind.ok hof hkind.p, fieldG_any Tryz.func313 (by kernel_rfl) rfl rfl rfl kt_u64 (by intro w; go_simp) (by intro w; go_simp) hLk hLo hk ho hof hkind.g⟩
theorem field_Hard_u64 {L off : Nat} {k : Kd} {kv1 kv2 kv3 ov : Value} (w : World) (hL : L ≤ w.heap.size) (hk : KindAt L w kv1 kv2 kv3 0 k) (hof : OfAt ov off) : Calls Tryz.prog 267 #[.agg #[kv1, kv2, kv3], ov] w (Makes L k off w) :=
  fieldC_any Tryz.func267 rfl rfl rfl kt_u64 kt_Hard fK_Hard_u64 w hL hk hof
theorem of_hard1 : OfAt (.func (.func 268) #[] #[]) 0 := by
  refine ⟨_, rfl, enters_of Tryz.func268 (by kernel_rfl) rfl, ?_⟩
  intro w g o
  go_enter Tryz.func268, Tryz.ntmps268
  go_wp2
  go_ret
  exact ⟨rfl, rfl⟩
theorem fK_Hard_int : FieldClosures 314 315 316 := fun hLk hLo hk ho hof hkind =>
  ⟨hkind.ok, fieldS_any Tryz.func314 (by kernel_rfl) rfl rfl rfl kt_int (by intro w; go_simp) (by intro w; go_simp) hLk hLo hk ho hkind.ok hof hkind.s, fieldP_any Tryz.func315 (by kernel_rfl) rfl rfl rfl kt_int (by intro w; go_simp) (by intro w; go_simp) hLk hLo hk ho hkind.ok hof hkind.p, fieldG_any Tryz.func316 (by kernel_rfl) rfl rfl rfl kt_int (by intro w; go_simp) (by intro w; go_simp) hLk hLo hk ho hof hkind.g⟩
theorem field_Hard_int {L off : Nat} {k : Kd} {kv1 kv2 kv3 ov : Value} (w : World) (hL : L ≤ w.heap.size) (hk : KindAt L w kv1 kv2 kv3 0 k) (hof : OfAt ov off) : Calls Tryz.prog 269 #[.agg #[kv1, kv2, kv3], ov] w (Makes L k off w) :=
  fieldC_any Tryz.func269 rfl rfl rfl kt_int kt_Hard fK_Hard_int w hL hk hof
theorem of_hard2 : OfAt (.func (.func 270) #[] #[]) 1 := by
  refine ⟨_, rfl, enters_of Tryz.func270 (by kernel_rfl) rfl, ?_⟩
  intro w g o
  go_enter Tryz.func270, Tryz.ntmps270
  go_wp2
  go_ret
  exact ⟨rfl, rfl⟩
theorem st_Hard : SlT 308 257 := ⟨Tryz.runUnderlying308, Tryz.isAgg308⟩
theorem rK_Hard : RecClosures 308 309 310 := fun hLf hLa hLt hf ha ht hF hok hm hT =>
  ⟨recK_ok hok _, recS_any Tryz.func308 (by kernel_rfl) rfl rfl rfl kt_Hard st_Hard (by intro w; go_simp) hLf hLa hf ha hF hok hm hLt ht hT, recP_any Tryz.func309 (by kernel_rfl) rfl rfl rfl kt_Hard st_Hard (by intro w; go_simp) hLf hLa hf ha hF hok hm, recG_any Tryz.func310 (by kernel_rfl) rfl rfl rfl kt_Hard st_Hard (by intro w; go_simp) hLf hLa hf ha hF hok hm⟩
theorem rec_Hard {L ba cf m : Nat} {ks : List Kd} {t : List Data → Bool} {fs : List Value} {tv : Value} {t2 : TypeId} (w : World) (hL : L ≤ w.heap.size) (hLa : L ≤ ba) (hm : m = ks.length) (ha : w.heap[ba]? = some (.cells fs.toArray t2 (0, 0))) (hF : FieldsAt L w ks 0 fs) (hml : ks.length ≤ 1000) (hT : TiedAt L w tv ks t) :
    Calls Tryz.prog 265 #[tv, .slice (some ⟨ba, 0, none⟩) m cf] w (Makes L (recK ks t) 0 w) :=
  recC_any Tryz.func265 rfl rfl rfl kt_Hard rK_Hard w hL hLa hm ha hF hml hT
theorem fK_Command_u64 : FieldClosures 202 203 204 := fun hLk hLo hk ho hof hkind =>
  ⟨hkind.ok, fieldS_any Tryz.func202 (by kernel_rfl) rfl rfl rfl kt_u64 (by intro w; go_simp) (by intro w; go_simp) hLk hLo hk ho hkind.ok hof hkind.s, fieldP_any Tryz.func203 (by kernel_rfl) rfl rfl rfl kt_u64 (by intro w; go_simp) (by intro w; go_simp) hLk hLo hk ho hkind.ok hof hkind.p, fieldG_any Tryz.func204 (by kernel_rfl) rfl rfl rfl kt_u64 (by intro w; go_simp) (by intro w; go_simp) hLk hLo hk ho hof hkind.g⟩
theorem field_Command_u64 {L off : Nat} {k : Kd} {kv1 kv2 kv3 ov : Value} (w : World) (hL : L ≤ w.heap.size) (hk : KindAt L w kv1 kv2 kv3 0 k) (hof : OfAt ov off) : Calls Tryz.prog 85 #[.agg #[kv1, kv2, kv3], ov] w (Makes L k off w) :=
  fieldC_any Tryz.func85 rfl rfl rfl kt_u64 kt_Command fK_Command_u64 w hL hk hof
theorem of_command1 : OfAt (.func (.func 86) #[] #[]) 0 := by
  refine ⟨_, rfl, enters_of Tryz.func86 (by kernel_rfl) rfl, ?_⟩
  intro w g o
  go_enter Tryz.func86, Tryz.ntmps86
  go_wp2
  go_ret
  exact ⟨rfl, rfl⟩
theorem of_command2 : OfAt (.func (.func 87) #[] #[]) 1 := by
  refine ⟨_, rfl, enters_of Tryz.func87 (by kernel_rfl) rfl, ?_⟩
  intro w g o
  go_enter Tryz.func87, Tryz.ntmps87
  go_wp2
  go_ret
  exact ⟨rfl, rfl⟩
theorem fK_Command_int : FieldClosures 205 206 207 := fun hLk hLo hk ho hof hkind =>
  ⟨hkind.ok, fieldS_any Tryz.func205 (by kernel_rfl) rfl rfl rfl kt_int (by intro w; go_simp) (by intro w; go_simp) hLk hLo hk ho hkind.ok hof hkind.s, fieldP_any Tryz.func206 (by kernel_rfl) rfl rfl rfl kt_int (by intro w; go_simp) (by intro w; go_simp) hLk hLo hk ho hkind.ok hof hkind.p, fieldG_any Tryz.func207 (by kernel_rfl) rfl rfl rfl kt_int (by intro w; go_simp) (by intro w; go_simp) hLk hLo hk ho hof hkind.g⟩
theorem field_Command_int {L off : Nat} {k : Kd} {kv1 kv2 kv3 ov : Value} (w : World) (hL : L ≤ w.heap.size) (hk : KindAt L w kv1 kv2 kv3 0 k) (hof : OfAt ov off) : Calls Tryz.prog 88 #[.agg #[kv1, kv2, kv3], ov] w (Makes L k off w) :=
  fieldC_any Tryz.func88 rfl rfl rfl kt_int kt_Command fK_Command_int w hL hk hof
theorem of_command3 : OfAt (.func (.func 89) #[] #[]) 2 := by
  refine ⟨_, rfl, enters_of Tryz.func89 (by kernel_rfl) rfl, ?_⟩
  intro w g o
  go_enter Tryz.func89, Tryz.ntmps89
  go_wp2
  go_ret
  exact ⟨rfl, rfl⟩
theorem fK_Command_text : FieldClosures 208 209 210 := fun hLk hLo hk ho hof hkind =>
  ⟨hkind.ok, fieldS_any Tryz.func208 (by kernel_rfl) rfl rfl rfl kt_text (by intro w; go_simp) (by intro w; go_simp) hLk hLo hk ho hkind.ok hof hkind.s, fieldP_any Tryz.func209 (by kernel_rfl) rfl rfl rfl kt_text (by intro w; go_simp) (by intro w; go_simp) hLk hLo hk ho hkind.ok hof hkind.p, fieldG_any Tryz.func210 (by kernel_rfl) rfl rfl rfl kt_text (by intro w; go_simp) (by intro w; go_simp) hLk hLo hk ho hof hkind.g⟩
theorem field_Command_text {L off : Nat} {k : Kd} {kv1 kv2 kv3 ov : Value} (w : World) (hL : L ≤ w.heap.size) (hk : KindAt L w kv1 kv2 kv3 0 k) (hof : OfAt ov off) : Calls Tryz.prog 90 #[.agg #[kv1, kv2, kv3], ov] w (Makes L k off w) :=
  fieldC_any Tryz.func90 rfl rfl rfl kt_text kt_Command fK_Command_text w hL hk hof
theorem of_command4 : OfAt (.func (.func 92) #[] #[]) 3 := by
  refine ⟨_, rfl, enters_of Tryz.func92 (by kernel_rfl) rfl, ?_⟩
  intro w g o
  go_enter Tryz.func92, Tryz.ntmps92
  go_wp2
  go_ret
  exact ⟨rfl, rfl⟩
theorem fK_Command_i64 : FieldClosures 214 215 216 := fun hLk hLo hk ho hof hkind =>
  ⟨hkind.ok, fieldS_any Tryz.func214 (by kernel_rfl) rfl rfl rfl kt_i64 (by intro w; go_simp) (by intro w; go_simp) hLk hLo hk ho hkind.ok hof hkind.s, fieldP_any Tryz.func215 (by kernel_rfl) rfl rfl rfl kt_i64 (by intro w; go_simp) (by intro w; go_simp) hLk hLo hk ho hkind.ok hof hkind.p, fieldG_any Tryz.func216 (by kernel_rfl) rfl rfl rfl kt_i64 (by intro w; go_simp) (by intro w; go_simp) hLk hLo hk ho hof hkind.g⟩
theorem field_Command_i64 {L off : Nat} {k : Kd} {kv1 kv2 kv3 ov : Value} (w : World) (hL : L ≤ w.heap.size) (hk : KindAt L w kv1 kv2 kv3 0 k) (hof : OfAt ov off) : Calls Tryz.prog 93 #[.agg #[kv1, kv2, kv3], ov] w (Makes L k off w) :=
  fieldC_any Tryz.func93 rfl rfl rfl kt_i64 kt_Command fK_Command_i64 w hL hk hof
theorem of_command5 : OfAt (.func (.func 95) #[] #[]) 4 := by
  refine ⟨_, rfl, enters_of Tryz.func95 (by kernel_rfl) rfl, ?_⟩
  intro w g o
  go_enter Tryz.func95, Tryz.ntmps95
  go_wp2
  go_ret
  exact ⟨rfl, rfl⟩
theorem of_command6 : OfAt (.func (.func 96) #[] #[]) 5 := by
  refine ⟨_, rfl, enters_of Tryz.func96 (by kernel_rfl) rfl, ?_⟩
  intro w g o
  go_enter Tryz.func96, Tryz.ntmps96
  go_wp2
  go_ret
  exact ⟨rfl, rfl⟩
theorem of_command7 : OfAt (.func (.func 97) #[] #[]) 6 := by
  refine ⟨_, rfl, enters_of Tryz.func97 (by kernel_rfl) rfl, ?_⟩
  intro w g o
  go_enter Tryz.func97, Tryz.ntmps97
  go_wp2
  go_ret
  exact ⟨rfl, rfl⟩
theorem st_Command : SlT 290 87 := ⟨Tryz.runUnderlying290, Tryz.isAgg290⟩
theorem rK_Command : RecClosures 199 200 201 := fun hLf hLa hLt hf ha ht hF hok hm hT =>
  ⟨recK_ok hok _, recS_any Tryz.func199 (by kernel_rfl) rfl rfl rfl kt_Command st_Command (by intro w; go_simp) hLf hLa hf ha hF hok hm hLt ht hT, recP_any Tryz.func200 (by kernel_rfl) rfl rfl rfl kt_Command st_Command (by intro w; go_simp) hLf hLa hf ha hF hok hm, recG_any Tryz.func201 (by kernel_rfl) rfl rfl rfl kt_Command st_Command (by intro w; go_simp) hLf hLa hf ha hF hok hm⟩
theorem rec_Command {L ba cf m : Nat} {ks : List Kd} {t : List Data → Bool} {fs : List Value} {tv : Value} {t2 : TypeId} (w : World) (hL : L ≤ w.heap.size) (hLa : L ≤ ba) (hm : m = ks.length) (ha : w.heap[ba]? = some (.cells fs.toArray t2 (0, 0))) (hF : FieldsAt L w ks 0 fs) (hml : ks.length ≤ 1000) (hT : TiedAt L w tv ks t) :
    Calls Tryz.prog 83 #[tv, .slice (some ⟨ba, 0, none⟩) m cf] w (Makes L (recK ks t) 0 w) :=
  recC_any Tryz.func83 rfl rfl rfl kt_Command rK_Command w hL hLa hm ha hF hml hT
theorem fK_Reply_u64 : FieldClosures 220 221 222 := fun hLk hLo hk ho hof hkind =>
  ⟨hkind.ok, fieldS_any Tryz.func220 (by kernel_rfl) rfl rfl rfl kt_u64 (by intro w; go_simp) (by intro w; go_simp) hLk hLo hk ho hkind.ok hof hkind.s, fieldP_any Tryz.func221 (by kernel_rfl) rfl rfl rfl kt_u64 (by intro w; go_simp) (by intro w; go_simp) hLk hLo hk ho hkind.ok hof hkind.p, fieldG_any Tryz.func222 (by kernel_rfl) rfl rfl rfl kt_u64 (by intro w; go_simp) (by intro w; go_simp) hLk hLo hk ho hof hkind.g⟩
theorem field_Reply_u64 {L off : Nat} {k : Kd} {kv1 kv2 kv3 ov : Value} (w : World) (hL : L ≤ w.heap.size) (hk : KindAt L w kv1 kv2 kv3 0 k) (hof : OfAt ov off) : Calls Tryz.prog 100 #[.agg #[kv1, kv2, kv3], ov] w (Makes L k off w) :=
  fieldC_any Tryz.func100 rfl rfl rfl kt_u64 kt_Reply fK_Reply_u64 w hL hk hof
theorem of_reply1 : OfAt (.func (.func 101) #[] #[]) 0 := by
  refine ⟨_, rfl, enters_of Tryz.func101 (by kernel_rfl) rfl, ?_⟩
  intro w g o
  go_enter Tryz.func101, Tryz.ntmps101
  go_wp2
  go_ret
  exact ⟨rfl, rfl⟩
theorem of_reply2 : OfAt (.func (.func 102) #[] #[]) 1 := by
  refine ⟨_, rfl, enters_of Tryz.func102 (by kernel_rfl) rfl, ?_⟩
  intro w g o
  go_enter Tryz.func102, Tryz.ntmps102
  go_wp2
  go_ret
  exact ⟨rfl, rfl⟩
theorem fK_Reply_err : FieldClosures 223 224 225 := fun hLk hLo hk ho hof hkind =>
  ⟨hkind.ok, fieldS_any Tryz.func223 (by kernel_rfl) rfl rfl rfl kt_err (by intro w; go_simp) (by intro w; go_simp) hLk hLo hk ho hkind.ok hof hkind.s, fieldP_any Tryz.func224 (by kernel_rfl) rfl rfl rfl kt_err (by intro w; go_simp) (by intro w; go_simp) hLk hLo hk ho hkind.ok hof hkind.p, fieldG_any Tryz.func225 (by kernel_rfl) rfl rfl rfl kt_err (by intro w; go_simp) (by intro w; go_simp) hLk hLo hk ho hof hkind.g⟩
theorem field_Reply_err {L off : Nat} {k : Kd} {kv1 kv2 kv3 ov : Value} (w : World) (hL : L ≤ w.heap.size) (hk : KindAt L w kv1 kv2 kv3 0 k) (hof : OfAt ov off) : Calls Tryz.prog 103 #[.agg #[kv1, kv2, kv3], ov] w (Makes L k off w) :=
  fieldC_any Tryz.func103 rfl rfl rfl kt_err kt_Reply fK_Reply_err w hL hk hof
theorem of_reply3 : OfAt (.func (.func 105) #[] #[]) 2 := by
  refine ⟨_, rfl, enters_of Tryz.func105 (by kernel_rfl) rfl, ?_⟩
  intro w g o
  go_enter Tryz.func105, Tryz.ntmps105
  go_wp2
  go_ret
  exact ⟨rfl, rfl⟩
theorem of_reply4 : OfAt (.func (.func 106) #[] #[]) 3 := by
  refine ⟨_, rfl, enters_of Tryz.func106 (by kernel_rfl) rfl, ?_⟩
  intro w g o
  go_enter Tryz.func106, Tryz.ntmps106
  go_wp2
  go_ret
  exact ⟨rfl, rfl⟩
theorem fK_Reply_i64 : FieldClosures 229 230 231 := fun hLk hLo hk ho hof hkind =>
  ⟨hkind.ok, fieldS_any Tryz.func229 (by kernel_rfl) rfl rfl rfl kt_i64 (by intro w; go_simp) (by intro w; go_simp) hLk hLo hk ho hkind.ok hof hkind.s, fieldP_any Tryz.func230 (by kernel_rfl) rfl rfl rfl kt_i64 (by intro w; go_simp) (by intro w; go_simp) hLk hLo hk ho hkind.ok hof hkind.p, fieldG_any Tryz.func231 (by kernel_rfl) rfl rfl rfl kt_i64 (by intro w; go_simp) (by intro w; go_simp) hLk hLo hk ho hof hkind.g⟩
theorem field_Reply_i64 {L off : Nat} {k : Kd} {kv1 kv2 kv3 ov : Value} (w : World) (hL : L ≤ w.heap.size) (hk : KindAt L w kv1 kv2 kv3 0 k) (hof : OfAt ov off) : Calls Tryz.prog 107 #[.agg #[kv1, kv2, kv3], ov] w (Makes L k off w) :=
  fieldC_any Tryz.func107 rfl rfl rfl kt_i64 kt_Reply fK_Reply_i64 w hL hk hof
theorem of_reply5 : OfAt (.func (.func 108) #[] #[]) 4 := by
  refine ⟨_, rfl, enters_of Tryz.func108 (by kernel_rfl) rfl, ?_⟩
  intro w g o
  go_enter Tryz.func108, Tryz.ntmps108
  go_wp2
  go_ret
  exact ⟨rfl, rfl⟩
theorem of_reply6 : OfAt (.func (.func 109) #[] #[]) 5 := by
  refine ⟨_, rfl, enters_of Tryz.func109 (by kernel_rfl) rfl, ?_⟩
  intro w g o
  go_enter Tryz.func109, Tryz.ntmps109
  go_wp2
  go_ret
  exact ⟨rfl, rfl⟩
theorem st_Reply : SlT 291 95 := ⟨Tryz.runUnderlying291, Tryz.isAgg291⟩
theorem rK_Reply : RecClosures 217 218 219 := fun hLf hLa hLt hf ha ht hF hok hm hT =>
  ⟨recK_ok hok _, recS_any Tryz.func217 (by kernel_rfl) rfl rfl rfl kt_Reply st_Reply (by intro w; go_simp) hLf hLa hf ha hF hok hm hLt ht hT, recP_any Tryz.func218 (by kernel_rfl) rfl rfl rfl kt_Reply st_Reply (by intro w; go_simp) hLf hLa hf ha hF hok hm, recG_any Tryz.func219 (by kernel_rfl) rfl rfl rfl kt_Reply st_Reply (by intro w; go_simp) hLf hLa hf ha hF hok hm⟩
theorem rec_Reply {L ba cf m : Nat} {ks : List Kd} {t : List Data → Bool} {fs : List Value} {tv : Value} {t2 : TypeId} (w : World) (hL : L ≤ w.heap.size) (hLa : L ≤ ba) (hm : m = ks.length) (ha : w.heap[ba]? = some (.cells fs.toArray t2 (0, 0))) (hF : FieldsAt L w ks 0 fs) (hml : ks.length ≤ 1000) (hT : TiedAt L w tv ks t) :
    Calls Tryz.prog 98 #[tv, .slice (some ⟨ba, 0, none⟩) m cf] w (Makes L (recK ks t) 0 w) :=
  recC_any Tryz.func98 rfl rfl rfl kt_Reply rK_Reply w hL hLa hm ha hF hml hT
theorem fK_Ask_bool : FieldClosures 235 236 237 := fun hLk hLo hk ho hof hkind =>
  ⟨hkind.ok, fieldS_any Tryz.func235 (by kernel_rfl) rfl rfl rfl kt_bool (by intro w; go_simp) (by intro w; go_simp) hLk hLo hk ho hkind.ok hof hkind.s, fieldP_any Tryz.func236 (by kernel_rfl) rfl rfl rfl kt_bool (by intro w; go_simp) (by intro w; go_simp) hLk hLo hk ho hkind.ok hof hkind.p, fieldG_any Tryz.func237 (by kernel_rfl) rfl rfl rfl kt_bool (by intro w; go_simp) (by intro w; go_simp) hLk hLo hk ho hof hkind.g⟩
theorem field_Ask_bool {L off : Nat} {k : Kd} {kv1 kv2 kv3 ov : Value} (w : World) (hL : L ≤ w.heap.size) (hk : KindAt L w kv1 kv2 kv3 0 k) (hof : OfAt ov off) : Calls Tryz.prog 112 #[.agg #[kv1, kv2, kv3], ov] w (Makes L k off w) :=
  fieldC_any Tryz.func112 rfl rfl rfl kt_bool kt_Ask fK_Ask_bool w hL hk hof
theorem of_ask1 : OfAt (.func (.func 113) #[] #[]) 0 := by
  refine ⟨_, rfl, enters_of Tryz.func113 (by kernel_rfl) rfl, ?_⟩
  intro w g o
  go_enter Tryz.func113, Tryz.ntmps113
  go_wp2
  go_ret
  exact ⟨rfl, rfl⟩
theorem of_ask2 : OfAt (.func (.func 114) #[] #[]) 1 := by
  refine ⟨_, rfl, enters_of Tryz.func114 (by kernel_rfl) rfl, ?_⟩
  intro w g o
  go_enter Tryz.func114, Tryz.ntmps114
  go_wp2
  go_ret
  exact ⟨rfl, rfl⟩
theorem fK_Ask_u64 : FieldClosures 238 239 240 := fun hLk hLo hk ho hof hkind =>
  ⟨hkind.ok, fieldS_any Tryz.func238 (by kernel_rfl) rfl rfl rfl kt_u64 (by intro w; go_simp) (by intro w; go_simp) hLk hLo hk ho hkind.ok hof hkind.s, fieldP_any Tryz.func239 (by kernel_rfl) rfl rfl rfl kt_u64 (by intro w; go_simp) (by intro w; go_simp) hLk hLo hk ho hkind.ok hof hkind.p, fieldG_any Tryz.func240 (by kernel_rfl) rfl rfl rfl kt_u64 (by intro w; go_simp) (by intro w; go_simp) hLk hLo hk ho hof hkind.g⟩
theorem field_Ask_u64 {L off : Nat} {k : Kd} {kv1 kv2 kv3 ov : Value} (w : World) (hL : L ≤ w.heap.size) (hk : KindAt L w kv1 kv2 kv3 0 k) (hof : OfAt ov off) : Calls Tryz.prog 115 #[.agg #[kv1, kv2, kv3], ov] w (Makes L k off w) :=
  fieldC_any Tryz.func115 rfl rfl rfl kt_u64 kt_Ask fK_Ask_u64 w hL hk hof
theorem of_ask3 : OfAt (.func (.func 116) #[] #[]) 2 := by
  refine ⟨_, rfl, enters_of Tryz.func116 (by kernel_rfl) rfl, ?_⟩
  intro w g o
  go_enter Tryz.func116, Tryz.ntmps116
  go_wp2
  go_ret
  exact ⟨rfl, rfl⟩
theorem fK_Ask_Command : FieldClosures 241 242 243 := fun hLk hLo hk ho hof hkind =>
  ⟨hkind.ok, fieldS_any Tryz.func241 (by kernel_rfl) rfl rfl rfl kt_Command (by intro w; go_simp) (by intro w; go_simp) hLk hLo hk ho hkind.ok hof hkind.s, fieldP_any Tryz.func242 (by kernel_rfl) rfl rfl rfl kt_Command (by intro w; go_simp) (by intro w; go_simp) hLk hLo hk ho hkind.ok hof hkind.p, fieldG_any Tryz.func243 (by kernel_rfl) rfl rfl rfl kt_Command (by intro w; go_simp) (by intro w; go_simp) hLk hLo hk ho hof hkind.g⟩
theorem field_Ask_Command {L off : Nat} {k : Kd} {kv1 kv2 kv3 ov : Value} (w : World) (hL : L ≤ w.heap.size) (hk : KindAt L w kv1 kv2 kv3 0 k) (hof : OfAt ov off) : Calls Tryz.prog 117 #[.agg #[kv1, kv2, kv3], ov] w (Makes L k off w) :=
  fieldC_any Tryz.func117 rfl rfl rfl kt_Command kt_Ask fK_Ask_Command w hL hk hof
theorem of_ask4 : OfAt (.func (.func 119) #[] #[]) 3 := by
  refine ⟨_, rfl, enters_of Tryz.func119 (by kernel_rfl) rfl, ?_⟩
  intro w g o
  go_enter Tryz.func119, Tryz.ntmps119
  go_wp2
  go_ret
  exact ⟨rfl, rfl⟩
theorem fK_Ask_text : FieldClosures 244 245 246 := fun hLk hLo hk ho hof hkind =>
  ⟨hkind.ok, fieldS_any Tryz.func244 (by kernel_rfl) rfl rfl rfl kt_text (by intro w; go_simp) (by intro w; go_simp) hLk hLo hk ho hkind.ok hof hkind.s, fieldP_any Tryz.func245 (by kernel_rfl) rfl rfl rfl kt_text (by intro w; go_simp) (by intro w; go_simp) hLk hLo hk ho hkind.ok hof hkind.p, fieldG_any Tryz.func246 (by kernel_rfl) rfl rfl rfl kt_text (by intro w; go_simp) (by intro w; go_simp) hLk hLo hk ho hof hkind.g⟩
theorem field_Ask_text {L off : Nat} {k : Kd} {kv1 kv2 kv3 ov : Value} (w : World) (hL : L ≤ w.heap.size) (hk : KindAt L w kv1 kv2 kv3 0 k) (hof : OfAt ov off) : Calls Tryz.prog 120 #[.agg #[kv1, kv2, kv3], ov] w (Makes L k off w) :=
  fieldC_any Tryz.func120 rfl rfl rfl kt_text kt_Ask fK_Ask_text w hL hk hof
theorem of_ask5 : OfAt (.func (.func 121) #[] #[]) 10 := by
  refine ⟨_, rfl, enters_of Tryz.func121 (by kernel_rfl) rfl, ?_⟩
  intro w g o
  go_enter Tryz.func121, Tryz.ntmps121
  go_wp2
  go_ret
  exact ⟨rfl, rfl⟩
theorem st_Ask : SlT 292 103 := ⟨Tryz.runUnderlying292, Tryz.isAgg292⟩
theorem rK_Ask : RecClosures 232 233 234 := fun hLf hLa hLt hf ha ht hF hok hm hT =>
  ⟨recK_ok hok _, recS_any Tryz.func232 (by kernel_rfl) rfl rfl rfl kt_Ask st_Ask (by intro w; go_simp) hLf hLa hf ha hF hok hm hLt ht hT, recP_any Tryz.func233 (by kernel_rfl) rfl rfl rfl kt_Ask st_Ask (by intro w; go_simp) hLf hLa hf ha hF hok hm, recG_any Tryz.func234 (by kernel_rfl) rfl rfl rfl kt_Ask st_Ask (by intro w; go_simp) hLf hLa hf ha hF hok hm⟩
theorem rec_Ask {L ba cf m : Nat} {ks : List Kd} {t : List Data → Bool} {fs : List Value} {tv : Value} {t2 : TypeId} (w : World) (hL : L ≤ w.heap.size) (hLa : L ≤ ba) (hm : m = ks.length) (ha : w.heap[ba]? = some (.cells fs.toArray t2 (0, 0))) (hF : FieldsAt L w ks 0 fs) (hml : ks.length ≤ 1000) (hT : TiedAt L w tv ks t) :
    Calls Tryz.prog 110 #[tv, .slice (some ⟨ba, 0, none⟩) m cf] w (Makes L (recK ks t) 0 w) :=
  recC_any Tryz.func110 rfl rfl rfl kt_Ask rK_Ask w hL hLa hm ha hF hml hT
theorem fK_Told_u64 : FieldClosures 250 251 252 := fun hLk hLo hk ho hof hkind =>
  ⟨hkind.ok, fieldS_any Tryz.func250 (by kernel_rfl) rfl rfl rfl kt_u64 (by intro w; go_simp) (by intro w; go_simp) hLk hLo hk ho hkind.ok hof hkind.s, fieldP_any Tryz.func251 (by kernel_rfl) rfl rfl rfl kt_u64 (by intro w; go_simp) (by intro w; go_simp) hLk hLo hk ho hkind.ok hof hkind.p, fieldG_any Tryz.func252 (by kernel_rfl) rfl rfl rfl kt_u64 (by intro w; go_simp) (by intro w; go_simp) hLk hLo hk ho hof hkind.g⟩
theorem field_Told_u64 {L off : Nat} {k : Kd} {kv1 kv2 kv3 ov : Value} (w : World) (hL : L ≤ w.heap.size) (hk : KindAt L w kv1 kv2 kv3 0 k) (hof : OfAt ov off) : Calls Tryz.prog 124 #[.agg #[kv1, kv2, kv3], ov] w (Makes L k off w) :=
  fieldC_any Tryz.func124 rfl rfl rfl kt_u64 kt_Told fK_Told_u64 w hL hk hof
theorem of_told1 : OfAt (.func (.func 125) #[] #[]) 0 := by
  refine ⟨_, rfl, enters_of Tryz.func125 (by kernel_rfl) rfl, ?_⟩
  intro w g o
  go_enter Tryz.func125, Tryz.ntmps125
  go_wp2
  go_ret
  exact ⟨rfl, rfl⟩
theorem fK_Told_bool : FieldClosures 253 254 255 := fun hLk hLo hk ho hof hkind =>
  ⟨hkind.ok, fieldS_any Tryz.func253 (by kernel_rfl) rfl rfl rfl kt_bool (by intro w; go_simp) (by intro w; go_simp) hLk hLo hk ho hkind.ok hof hkind.s, fieldP_any Tryz.func254 (by kernel_rfl) rfl rfl rfl kt_bool (by intro w; go_simp) (by intro w; go_simp) hLk hLo hk ho hkind.ok hof hkind.p, fieldG_any Tryz.func255 (by kernel_rfl) rfl rfl rfl kt_bool (by intro w; go_simp) (by intro w; go_simp) hLk hLo hk ho hof hkind.g⟩
theorem field_Told_bool {L off : Nat} {k : Kd} {kv1 kv2 kv3 ov : Value} (w : World) (hL : L ≤ w.heap.size) (hk : KindAt L w kv1 kv2 kv3 0 k) (hof : OfAt ov off) : Calls Tryz.prog 126 #[.agg #[kv1, kv2, kv3], ov] w (Makes L k off w) :=
  fieldC_any Tryz.func126 rfl rfl rfl kt_bool kt_Told fK_Told_bool w hL hk hof
theorem of_told2 : OfAt (.func (.func 127) #[] #[]) 1 := by
  refine ⟨_, rfl, enters_of Tryz.func127 (by kernel_rfl) rfl, ?_⟩
  intro w g o
  go_enter Tryz.func127, Tryz.ntmps127
  go_wp2
  go_ret
  exact ⟨rfl, rfl⟩
theorem fK_Told_int : FieldClosures 256 257 258 := fun hLk hLo hk ho hof hkind =>
  ⟨hkind.ok, fieldS_any Tryz.func256 (by kernel_rfl) rfl rfl rfl kt_int (by intro w; go_simp) (by intro w; go_simp) hLk hLo hk ho hkind.ok hof hkind.s, fieldP_any Tryz.func257 (by kernel_rfl) rfl rfl rfl kt_int (by intro w; go_simp) (by intro w; go_simp) hLk hLo hk ho hkind.ok hof hkind.p, fieldG_any Tryz.func258 (by kernel_rfl) rfl rfl rfl kt_int (by intro w; go_simp) (by intro w; go_simp) hLk hLo hk ho hof hkind.g⟩
theorem field_Told_int {L off : Nat} {k : Kd} {kv1 kv2 kv3 ov : Value} (w : World) (hL : L ≤ w.heap.size) (hk : KindAt L w kv1 kv2 kv3 0 k) (hof : OfAt ov off) : Calls Tryz.prog 128 #[.agg #[kv1, kv2, kv3], ov] w (Makes L k off w) :=
  fieldC_any Tryz.func128 rfl rfl rfl kt_int kt_Told fK_Told_int w hL hk hof
theorem of_told3 : OfAt (.func (.func 129) #[] #[]) 2 := by
  refine ⟨_, rfl, enters_of Tryz.func129 (by kernel_rfl) rfl, ?_⟩
  intro w g o
  go_enter Tryz.func129, Tryz.ntmps129
  go_wp2
  go_ret
  exact ⟨rfl, rfl⟩
theorem fK_Told_Reply : FieldClosures 259 260 261 := fun hLk hLo hk ho hof hkind =>
  ⟨hkind.ok, fieldS_any Tryz.func259 (by kernel_rfl) rfl rfl rfl kt_Reply (by intro w; go_simp) (by intro w; go_simp) hLk hLo hk ho hkind.ok hof hkind.s, fieldP_any Tryz.func260 (by kernel_rfl) rfl rfl rfl kt_Reply (by intro w; go_simp) (by intro w; go_simp) hLk hLo hk ho hkind.ok hof hkind.p, fieldG_any Tryz.func261 (by kernel_rfl) rfl rfl rfl kt_Reply (by intro w; go_simp) (by intro w; go_simp) hLk hLo hk ho hof hkind.g⟩
theorem field_Told_Reply {L off : Nat} {k : Kd} {kv1 kv2 kv3 ov : Value} (w : World) (hL : L ≤ w.heap.size) (hk : KindAt L w kv1 kv2 kv3 0 k) (hof : OfAt ov off) : Calls Tryz.prog 130 #[.agg #[kv1, kv2, kv3], ov] w (Makes L k off w) :=
  fieldC_any Tryz.func130 rfl rfl rfl kt_Reply kt_Told fK_Told_Reply w hL hk hof
theorem of_told4 : OfAt (.func (.func 131) #[] #[]) 3 := by
  refine ⟨_, rfl, enters_of Tryz.func131 (by kernel_rfl) rfl, ?_⟩
  intro w g o
  go_enter Tryz.func131, Tryz.ntmps131
  go_wp2
  go_ret
  exact ⟨rfl, rfl⟩
theorem fK_Told_i64 : FieldClosures 262 263 264 := fun hLk hLo hk ho hof hkind =>
  ⟨hkind.ok, fieldS_any Tryz.func262 (by kernel_rfl) rfl rfl rfl kt_i64 (by intro w; go_simp) (by intro w; go_simp) hLk hLo hk ho hkind.ok hof hkind.s, fieldP_any Tryz.func263 (by kernel_rfl) rfl rfl rfl kt_i64 (by intro w; go_simp) (by intro w; go_simp) hLk hLo hk ho hkind.ok hof hkind.p, fieldG_any Tryz.func264 (by kernel_rfl) rfl rfl rfl kt_i64 (by intro w; go_simp) (by intro w; go_simp) hLk hLo hk ho hof hkind.g⟩
theorem field_Told_i64 {L off : Nat} {k : Kd} {kv1 kv2 kv3 ov : Value} (w : World) (hL : L ≤ w.heap.size) (hk : KindAt L w kv1 kv2 kv3 0 k) (hof : OfAt ov off) : Calls Tryz.prog 132 #[.agg #[kv1, kv2, kv3], ov] w (Makes L k off w) :=
  fieldC_any Tryz.func132 rfl rfl rfl kt_i64 kt_Told fK_Told_i64 w hL hk hof
theorem of_told5 : OfAt (.func (.func 133) #[] #[]) 9 := by
  refine ⟨_, rfl, enters_of Tryz.func133 (by kernel_rfl) rfl, ?_⟩
  intro w g o
  go_enter Tryz.func133, Tryz.ntmps133
  go_wp2
  go_ret
  exact ⟨rfl, rfl⟩
theorem of_told6 : OfAt (.func (.func 134) #[] #[]) 10 := by
  refine ⟨_, rfl, enters_of Tryz.func134 (by kernel_rfl) rfl, ?_⟩
  intro w g o
  go_enter Tryz.func134, Tryz.ntmps134
  go_wp2
  go_ret
  exact ⟨rfl, rfl⟩
theorem st_Told : SlT 293 110 := ⟨Tryz.runUnderlying293, Tryz.isAgg293⟩
theorem rK_Told : RecClosures 247 248 249 := fun hLf hLa hLt hf ha ht hF hok hm hT =>
  ⟨recK_ok hok _, recS_any Tryz.func247 (by kernel_rfl) rfl rfl rfl kt_Told st_Told (by intro w; go_simp) hLf hLa hf ha hF hok hm hLt ht hT, recP_any Tryz.func248 (by kernel_rfl) rfl rfl rfl kt_Told st_Told (by intro w; go_simp) hLf hLa hf ha hF hok hm, recG_any Tryz.func249 (by kernel_rfl) rfl rfl rfl kt_Told st_Told (by intro w; go_simp) hLf hLa hf ha hF hok hm⟩
theorem rec_Told {L ba cf m : Nat} {ks : List Kd} {t : List Data → Bool} {fs : List Value} {tv : Value} {t2 : TypeId} (w : World) (hL : L ≤ w.heap.size) (hLa : L ≤ ba) (hm : m = ks.length) (ha : w.heap[ba]? = some (.cells fs.toArray t2 (0, 0))) (hF : FieldsAt L w ks 0 fs) (hml : ks.length ≤ 1000) (hT : TiedAt L w tv ks t) :
    Calls Tryz.prog 122 #[tv, .slice (some ⟨ba, 0, none⟩) m cf] w (Makes L (recK ks t) 0 w) :=
  recC_any Tryz.func122 rfl rfl rfl kt_Told rK_Told w hL hLa hm ha hF hml hT
end Go.Proofs.YtlgbipmmpocepaaGreat.Kd
