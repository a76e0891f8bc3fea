/- Fields and records of hard states, commands, replies, what edges ask and are told. Written by geni.py. -/
import Derived.Test.YtloieecpgndbhaaGreatKgA
namespace Go.Proofs.YtloieecpgndbhaaGreat.Kd
open Go.RowKit By CoP Co Mo

theorem free_Hard {L : Nat} (W : World) (ks : List Kd) : TiedAt L W (.func (.func 144) #[] #[]) ks (fun _ => true) := by
  refine ⟨_, _, rfl, enters_of Tryz.func144 (by kernel_rfl) rfl, ?_⟩
  intro w hb g o vs ds _ _
  clear hb
  go_enter Tryz.func144, Tryz.ntmps144
  go_wp2
  go_ret
  exact ⟨rfl, Below.refl _ _⟩
theorem free_Command {L : Nat} (W : World) (ks : List Kd) : TiedAt L W (.func (.func 178) #[] #[]) ks (fun _ => true) := by
  refine ⟨_, _, rfl, enters_of Tryz.func178 (by kernel_rfl) rfl, ?_⟩
  intro w hb g o vs ds _ _
  clear hb
  go_enter Tryz.func178, Tryz.ntmps178
  go_wp2
  go_ret
  exact ⟨rfl, Below.refl _ _⟩
theorem free_Reply {L : Nat} (W : World) (ks : List Kd) : TiedAt L W (.func (.func 193) #[] #[]) ks (fun _ => true) := by
  refine ⟨_, _, rfl, enters_of Tryz.func193 (by kernel_rfl) rfl, ?_⟩
  intro w hb g o vs ds _ _
  clear hb
  go_enter Tryz.func193, Tryz.ntmps193
  go_wp2
  go_ret
  exact ⟨rfl, Below.refl _ _⟩
theorem free_Told {L : Nat} (W : World) (ks : List Kd) : TiedAt L W (.func (.func 217) #[] #[]) ks (fun _ => true) := by
  refine ⟨_, _, rfl, enters_of Tryz.func217 (by kernel_rfl) rfl, ?_⟩
  intro w hb g o vs ds _ _
  clear hb
  go_enter Tryz.func217, Tryz.ntmps217
  go_wp2
  go_ret
  exact ⟨rfl, Below.refl _ _⟩
theorem fK_Hard_u64 : FieldClosures 289 290 291 := fun hLk hLo hk ho hof hkind =>
  ⟨hkind.ok, fieldS_any Tryz.func289 (by kernel_rfl) rfl rfl rfl kt_u64 (by intro w; go_simp) (by intro w; go_simp) hLk hLo hk ho hkind.ok hof hkind.s, fieldP_any Tryz.func290 (by kernel_rfl) rfl rfl rfl kt_u64 (by intro w; go_simp) (by intro w; go_simp) hLk hLo hk ho hkind.ok hof hkind.p, fieldG_any Tryz.func291 (by kernel_rfl) rfl rfl rfl kt_u64 (by intro w; go_simp) (by intro w; go_simp) hLk hLo hk ho hof hkind.g⟩
theorem field_Hard_u64 {L off : Nat} {k : Kd} {kv1 kv2 kv3 ov : Value} (w : World) (hL : L ≤ w.heap.size) (hk : KindAt L w kv1 kv2 kv3 0 k) (hof : OfAt ov off) : Calls Tryz.prog 145 #[.agg #[kv1, kv2, kv3], ov] w (Makes L k off w) :=
  fieldC_any Tryz.func145 rfl rfl rfl kt_u64 kt_Hard fK_Hard_u64 w hL hk hof
theorem of_hard1 : OfAt (.func (.func 147) #[] #[]) 0 := by
  refine ⟨_, rfl, enters_of Tryz.func147 (by kernel_rfl) rfl, ?_⟩
  intro w g o
  go_enter Tryz.func147, Tryz.ntmps147
  go_wp2
  go_ret
  exact ⟨rfl, rfl⟩
theorem fK_Hard_int : FieldClosures 292 293 294 := fun hLk hLo hk ho hof hkind =>
  ⟨hkind.ok, fieldS_any Tryz.func292 (by kernel_rfl) rfl rfl rfl kt_int (by intro w; go_simp) (by intro w; go_simp) hLk hLo hk ho hkind.ok hof hkind.s, fieldP_any Tryz.func293 (by kernel_rfl) rfl rfl rfl kt_int (by intro w; go_simp) (by intro w; go_simp) hLk hLo hk ho hkind.ok hof hkind.p, fieldG_any Tryz.func294 (by kernel_rfl) rfl rfl rfl kt_int (by intro w; go_simp) (by intro w; go_simp) hLk hLo hk ho hof hkind.g⟩
theorem field_Hard_int {L off : Nat} {k : Kd} {kv1 kv2 kv3 ov : Value} (w : World) (hL : L ≤ w.heap.size) (hk : KindAt L w kv1 kv2 kv3 0 k) (hof : OfAt ov off) : Calls Tryz.prog 148 #[.agg #[kv1, kv2, kv3], ov] w (Makes L k off w) :=
  fieldC_any Tryz.func148 rfl rfl rfl kt_int kt_Hard fK_Hard_int w hL hk hof
theorem of_hard2 : OfAt (.func (.func 149) #[] #[]) 1 := by
  refine ⟨_, rfl, enters_of Tryz.func149 (by kernel_rfl) rfl, ?_⟩
  intro w g o
  go_enter Tryz.func149, Tryz.ntmps149
  go_wp2
  go_ret
  exact ⟨rfl, rfl⟩
theorem st_Hard : SlT 367 148 := ⟨Tryz.runUnderlying367, Tryz.isAgg367⟩
theorem rK_Hard : RecClosures 286 287 288 := fun hLf hLa hLt hf ha ht hF hok hm hT =>
  ⟨recK_ok hok _, recS_any Tryz.func286 (by kernel_rfl) rfl rfl rfl kt_Hard st_Hard (by intro w; go_simp) hLf hLa hf ha hF hok hm hLt ht hT, recP_any Tryz.func287 (by kernel_rfl) rfl rfl rfl kt_Hard st_Hard (by intro w; go_simp) hLf hLa hf ha hF hok hm, recG_any Tryz.func288 (by kernel_rfl) rfl rfl rfl kt_Hard st_Hard (by intro w; go_simp) hLf hLa hf ha hF hok hm⟩
theorem rec_Hard {L ba cf m : Nat} {ks : List Kd} {t : List Data → Bool} {fs : List Value} {tv : Value} {t2 : TypeId} (w : World) (hL : L ≤ w.heap.size) (hLa : L ≤ ba) (hm : m = ks.length) (ha : w.heap[ba]? = some (.cells fs.toArray t2 (0, 0))) (hF : FieldsAt L w ks 0 fs) (hml : ks.length ≤ 1000) (hT : TiedAt L w tv ks t) :
    Calls Tryz.prog 143 #[tv, .slice (some ⟨ba, 0, none⟩) m cf] w (Makes L (recK ks t) 0 w) :=
  recC_any Tryz.func143 rfl rfl rfl kt_Hard rK_Hard w hL hLa hm ha hF hml hT
theorem fK_Command_u64 : FieldClosures 326 327 328 := fun hLk hLo hk ho hof hkind =>
  ⟨hkind.ok, fieldS_any Tryz.func326 (by kernel_rfl) rfl rfl rfl kt_u64 (by intro w; go_simp) (by intro w; go_simp) hLk hLo hk ho hkind.ok hof hkind.s, fieldP_any Tryz.func327 (by kernel_rfl) rfl rfl rfl kt_u64 (by intro w; go_simp) (by intro w; go_simp) hLk hLo hk ho hkind.ok hof hkind.p, fieldG_any Tryz.func328 (by kernel_rfl) rfl rfl rfl kt_u64 (by intro w; go_simp) (by intro w; go_simp) hLk hLo hk ho hof hkind.g⟩
theorem field_Command_u64 {L off : Nat} {k : Kd} {kv1 kv2 kv3 ov : Value} (w : World) (hL : L ≤ w.heap.size) (hk : KindAt L w kv1 kv2 kv3 0 k) (hof : OfAt ov off) : Calls Tryz.prog 179 #[.agg #[kv1, kv2, kv3], ov] w (Makes L k off w) :=
  fieldC_any Tryz.func179 rfl rfl rfl kt_u64 kt_Command fK_Command_u64 w hL hk hof
theorem of_command1 : OfAt (.func (.func 180) #[] #[]) 0 := by
  refine ⟨_, rfl, enters_of Tryz.func180 (by kernel_rfl) rfl, ?_⟩
  intro w g o
  go_enter Tryz.func180, Tryz.ntmps180
  go_wp2
  go_ret
  exact ⟨rfl, rfl⟩
theorem of_command2 : OfAt (.func (.func 181) #[] #[]) 1 := by
  refine ⟨_, rfl, enters_of Tryz.func181 (by kernel_rfl) rfl, ?_⟩
  intro w g o
  go_enter Tryz.func181, Tryz.ntmps181
  go_wp2
  go_ret
  exact ⟨rfl, rfl⟩
theorem fK_Command_int : FieldClosures 329 330 331 := fun hLk hLo hk ho hof hkind =>
  ⟨hkind.ok, fieldS_any Tryz.func329 (by kernel_rfl) rfl rfl rfl kt_int (by intro w; go_simp) (by intro w; go_simp) hLk hLo hk ho hkind.ok hof hkind.s, fieldP_any Tryz.func330 (by kernel_rfl) rfl rfl rfl kt_int (by intro w; go_simp) (by intro w; go_simp) hLk hLo hk ho hkind.ok hof hkind.p, fieldG_any Tryz.func331 (by kernel_rfl) rfl rfl rfl kt_int (by intro w; go_simp) (by intro w; go_simp) hLk hLo hk ho hof hkind.g⟩
theorem field_Command_int {L off : Nat} {k : Kd} {kv1 kv2 kv3 ov : Value} (w : World) (hL : L ≤ w.heap.size) (hk : KindAt L w kv1 kv2 kv3 0 k) (hof : OfAt ov off) : Calls Tryz.prog 182 #[.agg #[kv1, kv2, kv3], ov] w (Makes L k off w) :=
  fieldC_any Tryz.func182 rfl rfl rfl kt_int kt_Command fK_Command_int w hL hk hof
theorem of_command3 : OfAt (.func (.func 183) #[] #[]) 2 := by
  refine ⟨_, rfl, enters_of Tryz.func183 (by kernel_rfl) rfl, ?_⟩
  intro w g o
  go_enter Tryz.func183, Tryz.ntmps183
  go_wp2
  go_ret
  exact ⟨rfl, rfl⟩
theorem fK_Command_text : FieldClosures 332 333 334 := fun hLk hLo hk ho hof hkind =>
  ⟨hkind.ok, fieldS_any Tryz.func332 (by kernel_rfl) rfl rfl rfl kt_text (by intro w; go_simp) (by intro w; go_simp) hLk hLo hk ho hkind.ok hof hkind.s, fieldP_any Tryz.func333 (by kernel_rfl) rfl rfl rfl kt_text (by intro w; go_simp) (by intro w; go_simp) hLk hLo hk ho hkind.ok hof hkind.p, fieldG_any Tryz.func334 (by kernel_rfl) rfl rfl rfl kt_text (by intro w; go_simp) (by intro w; go_simp) hLk hLo hk ho hof hkind.g⟩
theorem field_Command_text {L off : Nat} {k : Kd} {kv1 kv2 kv3 ov : Value} (w : World) (hL : L ≤ w.heap.size) (hk : KindAt L w kv1 kv2 kv3 0 k) (hof : OfAt ov off) : Calls Tryz.prog 184 #[.agg #[kv1, kv2, kv3], ov] w (Makes L k off w) :=
  fieldC_any Tryz.func184 rfl rfl rfl kt_text kt_Command fK_Command_text w hL hk hof
theorem of_command4 : OfAt (.func (.func 186) #[] #[]) 3 := by
  refine ⟨_, rfl, enters_of Tryz.func186 (by kernel_rfl) rfl, ?_⟩
  intro w g o
  go_enter Tryz.func186, Tryz.ntmps186
  go_wp2
  go_ret
  exact ⟨rfl, rfl⟩
theorem fK_Command_i64 : FieldClosures 338 339 340 := fun hLk hLo hk ho hof hkind =>
  ⟨hkind.ok, fieldS_any Tryz.func338 (by kernel_rfl) rfl rfl rfl kt_i64 (by intro w; go_simp) (by intro w; go_simp) hLk hLo hk ho hkind.ok hof hkind.s, fieldP_any Tryz.func339 (by kernel_rfl) rfl rfl rfl kt_i64 (by intro w; go_simp) (by intro w; go_simp) hLk hLo hk ho hkind.ok hof hkind.p, fieldG_any Tryz.func340 (by kernel_rfl) rfl rfl rfl kt_i64 (by intro w; go_simp) (by intro w; go_simp) hLk hLo hk ho hof hkind.g⟩
theorem field_Command_i64 {L off : Nat} {k : Kd} {kv1 kv2 kv3 ov : Value} (w : World) (hL : L ≤ w.heap.size) (hk : KindAt L w kv1 kv2 kv3 0 k) (hof : OfAt ov off) : Calls Tryz.prog 187 #[.agg #[kv1, kv2, kv3], ov] w (Makes L k off w) :=
  fieldC_any Tryz.func187 rfl rfl rfl kt_i64 kt_Command fK_Command_i64 w hL hk hof
theorem of_command5 : OfAt (.func (.func 189) #[] #[]) 4 := by
  refine ⟨_, rfl, enters_of Tryz.func189 (by kernel_rfl) rfl, ?_⟩
  intro w g o
  go_enter Tryz.func189, Tryz.ntmps189
  go_wp2
  go_ret
  exact ⟨rfl, rfl⟩
theorem of_command6 : OfAt (.func (.func 190) #[] #[]) 5 := by
  refine ⟨_, rfl, enters_of Tryz.func190 (by kernel_rfl) rfl, ?_⟩
  intro w g o
  go_enter Tryz.func190, Tryz.ntmps190
  go_wp2
  go_ret
  exact ⟨rfl, rfl⟩
theorem of_command7 : OfAt (.func (.func 191) #[] #[]) 6 := by
  refine ⟨_, rfl, enters_of Tryz.func191 (by kernel_rfl) rfl, ?_⟩
  intro w g o
  go_enter Tryz.func191, Tryz.ntmps191
  go_wp2
  go_ret
  exact ⟨rfl, rfl⟩
theorem st_Command : SlT 369 170 := ⟨Tryz.runUnderlying369, Tryz.isAgg369⟩
theorem rK_Command : RecClosures 323 324 325 := fun hLf hLa hLt hf ha ht hF hok hm hT =>
  ⟨recK_ok hok _, recS_any Tryz.func323 (by kernel_rfl) rfl rfl rfl kt_Command st_Command (by intro w; go_simp) hLf hLa hf ha hF hok hm hLt ht hT, recP_any Tryz.func324 (by kernel_rfl) rfl rfl rfl kt_Command st_Command (by intro w; go_simp) hLf hLa hf ha hF hok hm, recG_any Tryz.func325 (by kernel_rfl) rfl rfl rfl kt_Command st_Command (by intro w; go_simp) hLf hLa hf ha hF hok hm⟩
theorem rec_Command {L ba cf m : Nat} {ks : List Kd} {t : List Data → Bool} {fs : List Value} {tv : Value} {t2 : TypeId} (w : World) (hL : L ≤ w.heap.size) (hLa : L ≤ ba) (hm : m = ks.length) (ha : w.heap[ba]? = some (.cells fs.toArray t2 (0, 0))) (hF : FieldsAt L w ks 0 fs) (hml : ks.length ≤ 1000) (hT : TiedAt L w tv ks t) :
    Calls Tryz.prog 177 #[tv, .slice (some ⟨ba, 0, none⟩) m cf] w (Makes L (recK ks t) 0 w) :=
  recC_any Tryz.func177 rfl rfl rfl kt_Command rK_Command w hL hLa hm ha hF hml hT
theorem fK_Reply_u64 : FieldClosures 344 345 346 := fun hLk hLo hk ho hof hkind =>
  ⟨hkind.ok, fieldS_any Tryz.func344 (by kernel_rfl) rfl rfl rfl kt_u64 (by intro w; go_simp) (by intro w; go_simp) hLk hLo hk ho hkind.ok hof hkind.s, fieldP_any Tryz.func345 (by kernel_rfl) rfl rfl rfl kt_u64 (by intro w; go_simp) (by intro w; go_simp) hLk hLo hk ho hkind.ok hof hkind.p, fieldG_any Tryz.func346 (by kernel_rfl) rfl rfl rfl kt_u64 (by intro w; go_simp) (by intro w; go_simp) hLk hLo hk ho hof hkind.g⟩
theorem field_Reply_u64 {L off : Nat} {k : Kd} {kv1 kv2 kv3 ov : Value} (w : World) (hL : L ≤ w.heap.size) (hk : KindAt L w kv1 kv2 kv3 0 k) (hof : OfAt ov off) : Calls Tryz.prog 194 #[.agg #[kv1, kv2, kv3], ov] w (Makes L k off w) :=
  fieldC_any Tryz.func194 rfl rfl rfl kt_u64 kt_Reply fK_Reply_u64 w hL hk hof
theorem of_reply1 : OfAt (.func (.func 195) #[] #[]) 0 := by
  refine ⟨_, rfl, enters_of Tryz.func195 (by kernel_rfl) rfl, ?_⟩
  intro w g o
  go_enter Tryz.func195, Tryz.ntmps195
  go_wp2
  go_ret
  exact ⟨rfl, rfl⟩
theorem of_reply2 : OfAt (.func (.func 196) #[] #[]) 1 := by
  refine ⟨_, rfl, enters_of Tryz.func196 (by kernel_rfl) rfl, ?_⟩
  intro w g o
  go_enter Tryz.func196, Tryz.ntmps196
  go_wp2
  go_ret
  exact ⟨rfl, rfl⟩
theorem fK_Reply_err : FieldClosures 347 348 349 := fun hLk hLo hk ho hof hkind =>
  ⟨hkind.ok, fieldS_any Tryz.func347 (by kernel_rfl) rfl rfl rfl kt_err (by intro w; go_simp) (by intro w; go_simp) hLk hLo hk ho hkind.ok hof hkind.s, fieldP_any Tryz.func348 (by kernel_rfl) rfl rfl rfl kt_err (by intro w; go_simp) (by intro w; go_simp) hLk hLo hk ho hkind.ok hof hkind.p, fieldG_any Tryz.func349 (by kernel_rfl) rfl rfl rfl kt_err (by intro w; go_simp) (by intro w; go_simp) hLk hLo hk ho hof hkind.g⟩
theorem field_Reply_err {L off : Nat} {k : Kd} {kv1 kv2 kv3 ov : Value} (w : World) (hL : L ≤ w.heap.size) (hk : KindAt L w kv1 kv2 kv3 0 k) (hof : OfAt ov off) : Calls Tryz.prog 197 #[.agg #[kv1, kv2, kv3], ov] w (Makes L k off w) :=
  fieldC_any Tryz.func197 rfl rfl rfl kt_err kt_Reply fK_Reply_err w hL hk hof
theorem of_reply3 : OfAt (.func (.func 199) #[] #[]) 2 := by
  refine ⟨_, rfl, enters_of Tryz.func199 (by kernel_rfl) rfl, ?_⟩
  intro w g o
  go_enter Tryz.func199, Tryz.ntmps199
  go_wp2
  go_ret
  exact ⟨rfl, rfl⟩
theorem of_reply4 : OfAt (.func (.func 200) #[] #[]) 3 := by
  refine ⟨_, rfl, enters_of Tryz.func200 (by kernel_rfl) rfl, ?_⟩
  intro w g o
  go_enter Tryz.func200, Tryz.ntmps200
  go_wp2
  go_ret
  exact ⟨rfl, rfl⟩
theorem fK_Reply_i64 : FieldClosures 353 354 355 := fun hLk hLo hk ho hof hkind =>
  ⟨hkind.ok, fieldS_any Tryz.func353 (by kernel_rfl) rfl rfl rfl kt_i64 (by intro w; go_simp) (by intro w; go_simp) hLk hLo hk ho hkind.ok hof hkind.s, fieldP_any Tryz.func354 (by kernel_rfl) rfl rfl rfl kt_i64 (by intro w; go_simp) (by intro w; go_simp) hLk hLo hk ho hkind.ok hof hkind.p, fieldG_any Tryz.func355 (by kernel_rfl) rfl rfl rfl kt_i64 (by intro w; go_simp) (by intro w; go_simp) hLk hLo hk ho hof hkind.g⟩
theorem field_Reply_i64 {L off : Nat} {k : Kd} {kv1 kv2 kv3 ov : Value} (w : World) (hL : L ≤ w.heap.size) (hk : KindAt L w kv1 kv2 kv3 0 k) (hof : OfAt ov off) : Calls Tryz.prog 201 #[.agg #[kv1, kv2, kv3], ov] w (Makes L k off w) :=
  fieldC_any Tryz.func201 rfl rfl rfl kt_i64 kt_Reply fK_Reply_i64 w hL hk hof
theorem of_reply5 : OfAt (.func (.func 202) #[] #[]) 4 := by
  refine ⟨_, rfl, enters_of Tryz.func202 (by kernel_rfl) rfl, ?_⟩
  intro w g o
  go_enter Tryz.func202, Tryz.ntmps202
  go_wp2
  go_ret
  exact ⟨rfl, rfl⟩
theorem of_reply6 : OfAt (.func (.func 203) #[] #[]) 5 := by
  refine ⟨_, rfl, enters_of Tryz.func203 (by kernel_rfl) rfl, ?_⟩
  intro w g o
  go_enter Tryz.func203, Tryz.ntmps203
  go_wp2
  go_ret
  exact ⟨rfl, rfl⟩
theorem st_Reply : SlT 370 176 := ⟨Tryz.runUnderlying370, Tryz.isAgg370⟩
theorem rK_Reply : RecClosures 341 342 343 := fun hLf hLa hLt hf ha ht hF hok hm hT =>
  ⟨recK_ok hok _, recS_any Tryz.func341 (by kernel_rfl) rfl rfl rfl kt_Reply st_Reply (by intro w; go_simp) hLf hLa hf ha hF hok hm hLt ht hT, recP_any Tryz.func342 (by kernel_rfl) rfl rfl rfl kt_Reply st_Reply (by intro w; go_simp) hLf hLa hf ha hF hok hm, recG_any Tryz.func343 (by kernel_rfl) rfl rfl rfl kt_Reply st_Reply (by intro w; go_simp) hLf hLa hf ha hF hok hm⟩
theorem rec_Reply {L ba cf m : Nat} {ks : List Kd} {t : List Data → Bool} {fs : List Value} {tv : Value} {t2 : TypeId} (w : World) (hL : L ≤ w.heap.size) (hLa : L ≤ ba) (hm : m = ks.length) (ha : w.heap[ba]? = some (.cells fs.toArray t2 (0, 0))) (hF : FieldsAt L w ks 0 fs) (hml : ks.length ≤ 1000) (hT : TiedAt L w tv ks t) :
    Calls Tryz.prog 192 #[tv, .slice (some ⟨ba, 0, none⟩) m cf] w (Makes L (recK ks t) 0 w) :=
  recC_any Tryz.func192 rfl rfl rfl kt_Reply rK_Reply w hL hLa hm ha hF hml hT
theorem fK_Ask_bool : FieldClosures 359 360 361 := fun hLk hLo hk ho hof hkind =>
  ⟨hkind.ok, fieldS_any Tryz.func359 (by kernel_rfl) rfl rfl rfl kt_bool (by intro w; go_simp) (by intro w; go_simp) hLk hLo hk ho hkind.ok hof hkind.s, fieldP_any Tryz.func360 (by kernel_rfl) rfl rfl rfl kt_bool (by intro w; go_simp) (by intro w; go_simp) hLk hLo hk ho hkind.ok hof hkind.p, fieldG_any Tryz.func361 (by kernel_rfl) rfl rfl rfl kt_bool (by intro w; go_simp) (by intro w; go_simp) hLk hLo hk ho hof hkind.g⟩
theorem field_Ask_bool {L off : Nat} {k : Kd} {kv1 kv2 kv3 ov : Value} (w : World) (hL : L ≤ w.heap.size) (hk : KindAt L w kv1 kv2 kv3 0 k) (hof : OfAt ov off) : Calls Tryz.prog 206 #[.agg #[kv1, kv2, kv3], ov] w (Makes L k off w) :=
  fieldC_any Tryz.func206 rfl rfl rfl kt_bool kt_Ask fK_Ask_bool w hL hk hof
theorem of_ask1 : OfAt (.func (.func 207) #[] #[]) 0 := by
  refine ⟨_, rfl, enters_of Tryz.func207 (by kernel_rfl) rfl, ?_⟩
  intro w g o
  go_enter Tryz.func207, Tryz.ntmps207
  go_wp2
  go_ret
  exact ⟨rfl, rfl⟩
theorem of_ask2 : OfAt (.func (.func 208) #[] #[]) 1 := by
  refine ⟨_, rfl, enters_of Tryz.func208 (by kernel_rfl) rfl, ?_⟩
  intro w g o
  go_enter Tryz.func208, Tryz.ntmps208
  go_wp2
  go_ret
  exact ⟨rfl, rfl⟩
theorem fK_Ask_u64 : FieldClosures 362 363 364 := fun hLk hLo hk ho hof hkind =>
  ⟨hkind.ok, fieldS_any Tryz.func362 (by kernel_rfl) rfl rfl rfl kt_u64 (by intro w; go_simp) (by intro w; go_simp) hLk hLo hk ho hkind.ok hof hkind.s, fieldP_any Tryz.func363 (by kernel_rfl) rfl rfl rfl kt_u64 (by intro w; go_simp) (by intro w; go_simp) hLk hLo hk ho hkind.ok hof hkind.p, fieldG_any Tryz.func364 (by kernel_rfl) rfl rfl rfl kt_u64 (by intro w; go_simp) (by intro w; go_simp) hLk hLo hk ho hof hkind.g⟩
theorem field_Ask_u64 {L off : Nat} {k : Kd} {kv1 kv2 kv3 ov : Value} (w : World) (hL : L ≤ w.heap.size) (hk : KindAt L w kv1 kv2 kv3 0 k) (hof : OfAt ov off) : Calls Tryz.prog 209 #[.agg #[kv1, kv2, kv3], ov] w (Makes L k off w) :=
  fieldC_any Tryz.func209 rfl rfl rfl kt_u64 kt_Ask fK_Ask_u64 w hL hk hof
theorem of_ask3 : OfAt (.func (.func 210) #[] #[]) 2 := by
  refine ⟨_, rfl, enters_of Tryz.func210 (by kernel_rfl) rfl, ?_⟩
  intro w g o
  go_enter Tryz.func210, Tryz.ntmps210
  go_wp2
  go_ret
  exact ⟨rfl, rfl⟩
theorem fK_Ask_Command : FieldClosures 365 366 367 := fun hLk hLo hk ho hof hkind =>
  ⟨hkind.ok, fieldS_any Tryz.func365 (by kernel_rfl) rfl rfl rfl kt_Command (by intro w; go_simp) (by intro w; go_simp) hLk hLo hk ho hkind.ok hof hkind.s, fieldP_any Tryz.func366 (by kernel_rfl) rfl rfl rfl kt_Command (by intro w; go_simp) (by intro w; go_simp) hLk hLo hk ho hkind.ok hof hkind.p, fieldG_any Tryz.func367 (by kernel_rfl) rfl rfl rfl kt_Command (by intro w; go_simp) (by intro w; go_simp) hLk hLo hk ho hof hkind.g⟩
theorem field_Ask_Command {L off : Nat} {k : Kd} {kv1 kv2 kv3 ov : Value} (w : World) (hL : L ≤ w.heap.size) (hk : KindAt L w kv1 kv2 kv3 0 k) (hof : OfAt ov off) : Calls Tryz.prog 211 #[.agg #[kv1, kv2, kv3], ov] w (Makes L k off w) :=
  fieldC_any Tryz.func211 rfl rfl rfl kt_Command kt_Ask fK_Ask_Command w hL hk hof
theorem of_ask4 : OfAt (.func (.func 213) #[] #[]) 3 := by
  refine ⟨_, rfl, enters_of Tryz.func213 (by kernel_rfl) rfl, ?_⟩
  intro w g o
  go_enter Tryz.func213, Tryz.ntmps213
  go_wp2
  go_ret
  exact ⟨rfl, rfl⟩
theorem fK_Ask_text : FieldClosures 368 369 370 := fun hLk hLo hk ho hof hkind =>
  ⟨hkind.ok, fieldS_any Tryz.func368 (by kernel_rfl) rfl rfl rfl kt_text (by intro w; go_simp) (by intro w; go_simp) hLk hLo hk ho hkind.ok hof hkind.s, fieldP_any Tryz.func369 (by kernel_rfl) rfl rfl rfl kt_text (by intro w; go_simp) (by intro w; go_simp) hLk hLo hk ho hkind.ok hof hkind.p, fieldG_any Tryz.func370 (by kernel_rfl) rfl rfl rfl kt_text (by intro w; go_simp) (by intro w; go_simp) hLk hLo hk ho hof hkind.g⟩
theorem field_Ask_text {L off : Nat} {k : Kd} {kv1 kv2 kv3 ov : Value} (w : World) (hL : L ≤ w.heap.size) (hk : KindAt L w kv1 kv2 kv3 0 k) (hof : OfAt ov off) : Calls Tryz.prog 214 #[.agg #[kv1, kv2, kv3], ov] w (Makes L k off w) :=
  fieldC_any Tryz.func214 rfl rfl rfl kt_text kt_Ask fK_Ask_text w hL hk hof
theorem of_ask5 : OfAt (.func (.func 215) #[] #[]) 10 := by
  refine ⟨_, rfl, enters_of Tryz.func215 (by kernel_rfl) rfl, ?_⟩
  intro w g o
  go_enter Tryz.func215, Tryz.ntmps215
  go_wp2
  go_ret
  exact ⟨rfl, rfl⟩
theorem st_Ask : SlT 371 182 := ⟨Tryz.runUnderlying371, Tryz.isAgg371⟩
theorem rK_Ask : RecClosures 356 357 358 := fun hLf hLa hLt hf ha ht hF hok hm hT =>
  ⟨recK_ok hok _, recS_any Tryz.func356 (by kernel_rfl) rfl rfl rfl kt_Ask st_Ask (by intro w; go_simp) hLf hLa hf ha hF hok hm hLt ht hT, recP_any Tryz.func357 (by kernel_rfl) rfl rfl rfl kt_Ask st_Ask (by intro w; go_simp) hLf hLa hf ha hF hok hm, recG_any Tryz.func358 (by kernel_rfl) rfl rfl rfl kt_Ask st_Ask (by intro w; go_simp) hLf hLa hf ha hF hok hm⟩
theorem rec_Ask {L ba cf m : Nat} {ks : List Kd} {t : List Data → Bool} {fs : List Value} {tv : Value} {t2 : TypeId} (w : World) (hL : L ≤ w.heap.size) (hLa : L ≤ ba) (hm : m = ks.length) (ha : w.heap[ba]? = some (.cells fs.toArray t2 (0, 0))) (hF : FieldsAt L w ks 0 fs) (hml : ks.length ≤ 1000) (hT : TiedAt L w tv ks t) :
    Calls Tryz.prog 204 #[tv, .slice (some ⟨ba, 0, none⟩) m cf] w (Makes L (recK ks t) 0 w) :=
  recC_any Tryz.func204 rfl rfl rfl kt_Ask rK_Ask w hL hLa hm ha hF hml hT
theorem fK_Told_u64 : FieldClosures 374 375 376 := fun hLk hLo hk ho hof hkind =>
  ⟨hkind.ok, fieldS_any Tryz.func374 (by kernel_rfl) rfl rfl rfl kt_u64 (by intro w; go_simp) (by intro w; go_simp) hLk hLo hk ho hkind.ok hof hkind.s, fieldP_any Tryz.func375 (by kernel_rfl) rfl rfl rfl kt_u64 (by intro w; go_simp) (by intro w; go_simp) hLk hLo hk ho hkind.ok hof hkind.p, fieldG_any Tryz.func376 (by kernel_rfl) rfl rfl rfl kt_u64 (by intro w; go_simp) (by intro w; go_simp) hLk hLo hk ho hof hkind.g⟩
theorem field_Told_u64 {L off : Nat} {k : Kd} {kv1 kv2 kv3 ov : Value} (w : World) (hL : L ≤ w.heap.size) (hk : KindAt L w kv1 kv2 kv3 0 k) (hof : OfAt ov off) : Calls Tryz.prog 218 #[.agg #[kv1, kv2, kv3], ov] w (Makes L k off w) :=
  fieldC_any Tryz.func218 rfl rfl rfl kt_u64 kt_Told fK_Told_u64 w hL hk hof
theorem of_told1 : OfAt (.func (.func 219) #[] #[]) 0 := by
  refine ⟨_, rfl, enters_of Tryz.func219 (by kernel_rfl) rfl, ?_⟩
  intro w g o
  go_enter Tryz.func219, Tryz.ntmps219
  go_wp2
  go_ret
  exact ⟨rfl, rfl⟩
theorem fK_Told_bool : FieldClosures 377 378 379 := fun hLk hLo hk ho hof hkind =>
  ⟨hkind.ok, fieldS_any Tryz.func377 (by kernel_rfl) rfl rfl rfl kt_bool (by intro w; go_simp) (by intro w; go_simp) hLk hLo hk ho hkind.ok hof hkind.s, fieldP_any Tryz.func378 (by kernel_rfl) rfl rfl rfl kt_bool (by intro w; go_simp) (by intro w; go_simp) hLk hLo hk ho hkind.ok hof hkind.p, fieldG_any Tryz.func379 (by kernel_rfl) rfl rfl rfl kt_bool (by intro w; go_simp) (by intro w; go_simp) hLk hLo hk ho hof hkind.g⟩
theorem field_Told_bool {L off : Nat} {k : Kd} {kv1 kv2 kv3 ov : Value} (w : World) (hL : L ≤ w.heap.size) (hk : KindAt L w kv1 kv2 kv3 0 k) (hof : OfAt ov off) : Calls Tryz.prog 220 #[.agg #[kv1, kv2, kv3], ov] w (Makes L k off w) :=
  fieldC_any Tryz.func220 rfl rfl rfl kt_bool kt_Told fK_Told_bool w hL hk hof
theorem of_told2 : OfAt (.func (.func 221) #[] #[]) 1 := by
  refine ⟨_, rfl, enters_of Tryz.func221 (by kernel_rfl) rfl, ?_⟩
  intro w g o
  go_enter Tryz.func221, Tryz.ntmps221
  go_wp2
  go_ret
  exact ⟨rfl, rfl⟩
theorem fK_Told_int : FieldClosures 380 381 382 := fun hLk hLo hk ho hof hkind =>
  ⟨hkind.ok, fieldS_any Tryz.func380 (by kernel_rfl) rfl rfl rfl kt_int (by intro w; go_simp) (by intro w; go_simp) hLk hLo hk ho hkind.ok hof hkind.s, fieldP_any Tryz.func381 (by kernel_rfl) rfl rfl rfl kt_int (by intro w; go_simp) (by intro w; go_simp) hLk hLo hk ho hkind.ok hof hkind.p, fieldG_any Tryz.func382 (by kernel_rfl) rfl rfl rfl kt_int (by intro w; go_simp) (by intro w; go_simp) hLk hLo hk ho hof hkind.g⟩
theorem field_Told_int {L off : Nat} {k : Kd} {kv1 kv2 kv3 ov : Value} (w : World) (hL : L ≤ w.heap.size) (hk : KindAt L w kv1 kv2 kv3 0 k) (hof : OfAt ov off) : Calls Tryz.prog 222 #[.agg #[kv1, kv2, kv3], ov] w (Makes L k off w) :=
  fieldC_any Tryz.func222 rfl rfl rfl kt_int kt_Told fK_Told_int w hL hk hof
theorem of_told3 : OfAt (.func (.func 223) #[] #[]) 2 := by
  refine ⟨_, rfl, enters_of Tryz.func223 (by kernel_rfl) rfl, ?_⟩
  intro w g o
  go_enter Tryz.func223, Tryz.ntmps223
  go_wp2
  go_ret
  exact ⟨rfl, rfl⟩
theorem fK_Told_Reply : FieldClosures 383 384 385 := fun hLk hLo hk ho hof hkind =>
  ⟨hkind.ok, fieldS_any Tryz.func383 (by kernel_rfl) rfl rfl rfl kt_Reply (by intro w; go_simp) (by intro w; go_simp) hLk hLo hk ho hkind.ok hof hkind.s, fieldP_any Tryz.func384 (by kernel_rfl) rfl rfl rfl kt_Reply (by intro w; go_simp) (by intro w; go_simp) hLk hLo hk ho hkind.ok hof hkind.p, fieldG_any Tryz.func385 (by kernel_rfl) rfl rfl rfl kt_Reply (by intro w; go_simp) (by intro w; go_simp) hLk hLo hk ho hof hkind.g⟩
theorem field_Told_Reply {L off : Nat} {k : Kd} {kv1 kv2 kv3 ov : Value} (w : World) (hL : L ≤ w.heap.size) (hk : KindAt L w kv1 kv2 kv3 0 k) (hof : OfAt ov off) : Calls Tryz.prog 224 #[.agg #[kv1, kv2, kv3], ov] w (Makes L k off w) :=
  fieldC_any Tryz.func224 rfl rfl rfl kt_Reply kt_Told fK_Told_Reply w hL hk hof
theorem of_told4 : OfAt (.func (.func 225) #[] #[]) 3 := by
  refine ⟨_, rfl, enters_of Tryz.func225 (by kernel_rfl) rfl, ?_⟩
  intro w g o
  go_enter Tryz.func225, Tryz.ntmps225
  go_wp2
  go_ret
  exact ⟨rfl, rfl⟩
theorem fK_Told_i64 : FieldClosures 386 387 388 := fun hLk hLo hk ho hof hkind =>
  ⟨hkind.ok, fieldS_any Tryz.func386 (by kernel_rfl) rfl rfl rfl kt_i64 (by intro w; go_simp) (by intro w; go_simp) hLk hLo hk ho hkind.ok hof hkind.s, fieldP_any Tryz.func387 (by kernel_rfl) rfl rfl rfl kt_i64 (by intro w; go_simp) (by intro w; go_simp) hLk hLo hk ho hkind.ok hof hkind.p, fieldG_any Tryz.func388 (by kernel_rfl) rfl rfl rfl kt_i64 (by intro w; go_simp) (by intro w; go_simp) hLk hLo hk ho hof hkind.g⟩
theorem field_Told_i64 {L off : Nat} {k : Kd} {kv1 kv2 kv3 ov : Value} (w : World) (hL : L ≤ w.heap.size) (hk : KindAt L w kv1 kv2 kv3 0 k) (hof : OfAt ov off) : Calls Tryz.prog 226 #[.agg #[kv1, kv2, kv3], ov] w (Makes L k off w) :=
  fieldC_any Tryz.func226 rfl rfl rfl kt_i64 kt_Told fK_Told_i64 w hL hk hof
theorem of_told5 : OfAt (.func (.func 227) #[] #[]) 9 := by
  refine ⟨_, rfl, enters_of Tryz.func227 (by kernel_rfl) rfl, ?_⟩
  intro w g o
  go_enter Tryz.func227, Tryz.ntmps227
  go_wp2
  go_ret
  exact ⟨rfl, rfl⟩
theorem of_told6 : OfAt (.func (.func 228) #[] #[]) 10 := by
  refine ⟨_, rfl, enters_of Tryz.func228 (by kernel_rfl) rfl, ?_⟩
  intro w g o
  go_enter Tryz.func228, Tryz.ntmps228
  go_wp2
  go_ret
  exact ⟨rfl, rfl⟩
theorem st_Told : SlT 372 188 := ⟨Tryz.runUnderlying372, Tryz.isAgg372⟩
theorem rK_Told : RecClosures 371 372 373 := fun hLf hLa hLt hf ha ht hF hok hm hT =>
  ⟨recK_ok hok _, recS_any Tryz.func371 (by kernel_rfl) rfl rfl rfl kt_Told st_Told (by intro w; go_simp) hLf hLa hf ha hF hok hm hLt ht hT, recP_any Tryz.func372 (by kernel_rfl) rfl rfl rfl kt_Told st_Told (by intro w; go_simp) hLf hLa hf ha hF hok hm, recG_any Tryz.func373 (by kernel_rfl) rfl rfl rfl kt_Told st_Told (by intro w; go_simp) hLf hLa hf ha hF hok hm⟩
theorem rec_Told {L ba cf m : Nat} {ks : List Kd} {t : List Data → Bool} {fs : List Value} {tv : Value} {t2 : TypeId} (w : World) (hL : L ≤ w.heap.size) (hLa : L ≤ ba) (hm : m = ks.length) (ha : w.heap[ba]? = some (.cells fs.toArray t2 (0, 0))) (hF : FieldsAt L w ks 0 fs) (hml : ks.length ≤ 1000) (hT : TiedAt L w tv ks t) :
    Calls Tryz.prog 216 #[tv, .slice (some ⟨ba, 0, none⟩) m cf] w (Makes L (recK ks t) 0 w) :=
  recC_any Tryz.func216 rfl rfl rfl kt_Told rK_Told w hL hLa hm ha hF hml hT
end Go.Proofs.YtloieecpgndbhaaGreat.Kd
