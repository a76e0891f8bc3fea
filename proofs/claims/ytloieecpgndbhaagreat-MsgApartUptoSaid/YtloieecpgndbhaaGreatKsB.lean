/- The law MsgApart, walked: whatever comes in, not too much. Written by genapart.py. -/
import Derived.Test.YtloieecpgndbhaaGreatKsA
import Derived.Test.YtloieecpgndbhaaGreatKrB
import Derived.Test.YtloieecpgndbhaaGreatKpB
import Derived.Test.YtloieecpgndbhaaGreatKpE
import Derived.Test.YtloieecpgndbhaaGreatGN
import Derived.Deep.DeepCutAuto
import Derived.Deep.RegionHeld
import Derived.Deep.RegionLaw
import Derived.Deep.RegionWith
namespace Go.Proofs.YtloieecpgndbhaaGreat.Kd
open Go.RowKit By CoP Co Mo

theorem take_at {P : Program} {ops : Array Oper} {Q : Exit → Act → World → Prop} {md : Region.Mode} {S : World → Prop} {i : Nat} {oi : Oper} {d : Option Tmp} {v : Value} {fuel : Nat} {listed : Array Bool} {a : Act} {w : World} (hi : ops[i]? = some oi) (hd : oi.dst = d)
    (hs : Region.noSelect ops = true) (hf : Region.free md ops listed i = true) (hr : (Region.ready md ops listed).contains i = true)
    (hQ : ∀ c a w, Q (.panic c) (a.put d v) w → Q (.panic c) a w) (hy : YieldsIf P ops S oi v a) (hS : S w)
    (h : wpAnyH P md ops Q S fuel (listed.setIfInBounds i true) (a.put d v) w) : wpAnyH P md ops Q S (fuel + 1) listed a w := by
  subst hd
  exact wpAnyH_take hi hs hf hr hQ hy hS h
set_option maxRecDepth 100000 in
set_option maxHeartbeats 16000000 in
theorem msgApart_walk (w : World) (se : Nat) (sq : Nat) (op : Int) (ke : List UInt8) (am : Int) (sp : Int) (le : Nat) (se2 : Nat) (sq2 : Nat) (op2 : Int) (ke2 : List UInt8) (am2 : Int) (sp2 : Int) (le2 : Nat) (re : Nat) (rq : Nat) (er : Int) (lz : Nat) (rm : Int) (un : Int) (re2 : Nat) (rq2 : Nat) (er2 : Int) (lz2 : Nat) (rm2 : Int) (un2 : Int) (m0 m1 m2 m3 m4 m5 m6 m7 m8 m9 m10 m11 m12 m13 n0 n1 n2 n3 n4 n5 n6 n7 n8 n9 n10 n11 n12 n13 : Value) (d5 d6 : Data) (r1 : commandK.rep w (Old w) [.int .u64 (se : Int), .int .u64 (sq : Int), .int .i64 op, .string (str ke), .int .i64 am, .int .i64 sp, .int .u64 (le : Int)] (cmdD se sq op ke am sp le)) (s1 : (commandK.put (cmdD se sq op ke am sp le)).length ≤ 9437184) (r2 : commandK.rep w (Old w) [.int .u64 (se2 : Int), .int .u64 (sq2 : Int), .int .i64 op2, .string (str ke2), .int .i64 am2, .int .i64 sp2, .int .u64 (le2 : Int)] (cmdD se2 sq2 op2 ke2 am2 sp2 le2)) (s2 : (commandK.put (cmdD se2 sq2 op2 ke2 am2 sp2 le2)).length ≤ 9437184) (r3 : replyK.rep w (Old w) [.int .u64 (re : Int), .int .u64 (rq : Int), .int .i64 er, .int .u64 (lz : Int), .int .i64 rm, .int .i64 un] (repD re rq er lz rm un)) (s3 : (replyK.put (repD re rq er lz rm un)).length ≤ 9437184) (r4 : replyK.rep w (Old w) [.int .u64 (re2 : Int), .int .u64 (rq2 : Int), .int .i64 er2, .int .u64 (lz2 : Int), .int .i64 rm2, .int .i64 un2] (repD re2 rq2 er2 lz2 rm2 un2)) (s4 : (replyK.put (repD re2 rq2 er2 lz2 rm2 un2)).length ≤ 9437184) (r5 : msgK.rep w (Old w) [m0, m1, m2, m3, m4, m5, m6, m7, m8, m9, m10, m11, m12, m13] d5) (s5 : (msgK.put d5).length ≤ 9437184) (r6 : msgK.rep w (Old w) [n0, n1, n2, n3, n4, n5, n6, n7, n8, n9, n10, n11, n12, n13] d6) (s6 : (msgK.put d6).length ≤ 9437184) :
    Calls Tryz.prog 10 #[.agg #[.int .u64 (se : Int), .int .u64 (sq : Int), .int .i64 op, .string (str ke), .int .i64 am, .int .i64 sp, .int .u64 (le : Int)], .agg #[.int .u64 (se2 : Int), .int .u64 (sq2 : Int), .int .i64 op2, .string (str ke2), .int .i64 am2, .int .i64 sp2, .int .u64 (le2 : Int)], .agg #[.int .u64 (re : Int), .int .u64 (rq : Int), .int .i64 er, .int .u64 (lz : Int), .int .i64 rm, .int .i64 un], .agg #[.int .u64 (re2 : Int), .int .u64 (rq2 : Int), .int .i64 er2, .int .u64 (lz2 : Int), .int .i64 rm2, .int .i64 un2], .agg #[m0, m1, m2, m3, m4, m5, m6, m7, m8, m9, m10, m11, m12, m13], .agg #[n0, n1, n2, n3, n4, n5, n6, n7, n8, n9, n10, n11, n12, n13]] w (True_ w) := by
  have hrow1 : ((((((w.alloc (.cells #[.int .u64 (se : Int), .int .u64 (sq : Int), .int .i64 op, .string (str ke), .int .i64 am, .int .i64 sp, .int .u64 (le : Int)] 61)).alloc (.cells #[.int .u64 (se2 : Int), .int .u64 (sq2 : Int), .int .i64 op2, .string (str ke2), .int .i64 am2, .int .i64 sp2, .int .u64 (le2 : Int)] 61)).alloc (.cells #[.int .u64 (re : Int), .int .u64 (rq : Int), .int .i64 er, .int .u64 (lz : Int), .int .i64 rm, .int .i64 un] 63)).alloc (.cells #[.int .u64 (re2 : Int), .int .u64 (rq2 : Int), .int .i64 er2, .int .u64 (lz2 : Int), .int .i64 rm2, .int .i64 un2] 63)).alloc (.cells #[m0, m1, m2, m3, m4, m5, m6, m7, m8, m9, m10, m11, m12, m13] 55)).alloc (.cells #[n0, n1, n2, n3, n4, n5, n6, n7, n8, n9, n10, n11, n12, n13] 55)).heap[w.heap.size]? = some (.cells #[.int .u64 (se : Int), .int .u64 (sq : Int), .int .i64 op, .string (str ke), .int .i64 am, .int .i64 sp, .int .u64 (le : Int)] 61 (0, 0)) := by
    have h := ((heap_alloc_old (((((w.alloc (.cells #[.int .u64 (se : Int), .int .u64 (sq : Int), .int .i64 op, .string (str ke), .int .i64 am, .int .i64 sp, .int .u64 (le : Int)] 61)).alloc (.cells #[.int .u64 (se2 : Int), .int .u64 (sq2 : Int), .int .i64 op2, .string (str ke2), .int .i64 am2, .int .i64 sp2, .int .u64 (le2 : Int)] 61)).alloc (.cells #[.int .u64 (re : Int), .int .u64 (rq : Int), .int .i64 er, .int .u64 (lz : Int), .int .i64 rm, .int .i64 un] 63)).alloc (.cells #[.int .u64 (re2 : Int), .int .u64 (rq2 : Int), .int .i64 er2, .int .u64 (lz2 : Int), .int .i64 rm2, .int .i64 un2] 63)).alloc (.cells #[m0, m1, m2, m3, m4, m5, m6, m7, m8, m9, m10, m11, m12, m13] 55)) (.cells #[n0, n1, n2, n3, n4, n5, n6, n7, n8, n9, n10, n11, n12, n13] 55) (by simp only [World.size_alloc]; omega)).trans ((heap_alloc_old ((((w.alloc (.cells #[.int .u64 (se : Int), .int .u64 (sq : Int), .int .i64 op, .string (str ke), .int .i64 am, .int .i64 sp, .int .u64 (le : Int)] 61)).alloc (.cells #[.int .u64 (se2 : Int), .int .u64 (sq2 : Int), .int .i64 op2, .string (str ke2), .int .i64 am2, .int .i64 sp2, .int .u64 (le2 : Int)] 61)).alloc (.cells #[.int .u64 (re : Int), .int .u64 (rq : Int), .int .i64 er, .int .u64 (lz : Int), .int .i64 rm, .int .i64 un] 63)).alloc (.cells #[.int .u64 (re2 : Int), .int .u64 (rq2 : Int), .int .i64 er2, .int .u64 (lz2 : Int), .int .i64 rm2, .int .i64 un2] 63)) (.cells #[m0, m1, m2, m3, m4, m5, m6, m7, m8, m9, m10, m11, m12, m13] 55) (by simp only [World.size_alloc]; omega)).trans ((heap_alloc_old (((w.alloc (.cells #[.int .u64 (se : Int), .int .u64 (sq : Int), .int .i64 op, .string (str ke), .int .i64 am, .int .i64 sp, .int .u64 (le : Int)] 61)).alloc (.cells #[.int .u64 (se2 : Int), .int .u64 (sq2 : Int), .int .i64 op2, .string (str ke2), .int .i64 am2, .int .i64 sp2, .int .u64 (le2 : Int)] 61)).alloc (.cells #[.int .u64 (re : Int), .int .u64 (rq : Int), .int .i64 er, .int .u64 (lz : Int), .int .i64 rm, .int .i64 un] 63)) (.cells #[.int .u64 (re2 : Int), .int .u64 (rq2 : Int), .int .i64 er2, .int .u64 (lz2 : Int), .int .i64 rm2, .int .i64 un2] 63) (by simp only [World.size_alloc]; omega)).trans ((heap_alloc_old ((w.alloc (.cells #[.int .u64 (se : Int), .int .u64 (sq : Int), .int .i64 op, .string (str ke), .int .i64 am, .int .i64 sp, .int .u64 (le : Int)] 61)).alloc (.cells #[.int .u64 (se2 : Int), .int .u64 (sq2 : Int), .int .i64 op2, .string (str ke2), .int .i64 am2, .int .i64 sp2, .int .u64 (le2 : Int)] 61)) (.cells #[.int .u64 (re : Int), .int .u64 (rq : Int), .int .i64 er, .int .u64 (lz : Int), .int .i64 rm, .int .i64 un] 63) (by simp only [World.size_alloc]; omega)).trans ((heap_alloc_old (w.alloc (.cells #[.int .u64 (se : Int), .int .u64 (sq : Int), .int .i64 op, .string (str ke), .int .i64 am, .int .i64 sp, .int .u64 (le : Int)] 61)) (.cells #[.int .u64 (se2 : Int), .int .u64 (sq2 : Int), .int .i64 op2, .string (str ke2), .int .i64 am2, .int .i64 sp2, .int .u64 (le2 : Int)] 61) (by simp only [World.size_alloc]; omega)).trans (heap_alloc_new w (.cells #[.int .u64 (se : Int), .int .u64 (sq : Int), .int .i64 op, .string (str ke), .int .i64 am, .int .i64 sp, .int .u64 (le : Int)] 61)))))))
    simpa only [World.size_alloc] using h
  have hrow2 : ((((((w.alloc (.cells #[.int .u64 (se : Int), .int .u64 (sq : Int), .int .i64 op, .string (str ke), .int .i64 am, .int .i64 sp, .int .u64 (le : Int)] 61)).alloc (.cells #[.int .u64 (se2 : Int), .int .u64 (sq2 : Int), .int .i64 op2, .string (str ke2), .int .i64 am2, .int .i64 sp2, .int .u64 (le2 : Int)] 61)).alloc (.cells #[.int .u64 (re : Int), .int .u64 (rq : Int), .int .i64 er, .int .u64 (lz : Int), .int .i64 rm, .int .i64 un] 63)).alloc (.cells #[.int .u64 (re2 : Int), .int .u64 (rq2 : Int), .int .i64 er2, .int .u64 (lz2 : Int), .int .i64 rm2, .int .i64 un2] 63)).alloc (.cells #[m0, m1, m2, m3, m4, m5, m6, m7, m8, m9, m10, m11, m12, m13] 55)).alloc (.cells #[n0, n1, n2, n3, n4, n5, n6, n7, n8, n9, n10, n11, n12, n13] 55)).heap[(w.heap.size + 1)]? = some (.cells #[.int .u64 (se2 : Int), .int .u64 (sq2 : Int), .int .i64 op2, .string (str ke2), .int .i64 am2, .int .i64 sp2, .int .u64 (le2 : Int)] 61 (0, 0)) := by
    have h := ((heap_alloc_old (((((w.alloc (.cells #[.int .u64 (se : Int), .int .u64 (sq : Int), .int .i64 op, .string (str ke), .int .i64 am, .int .i64 sp, .int .u64 (le : Int)] 61)).alloc (.cells #[.int .u64 (se2 : Int), .int .u64 (sq2 : Int), .int .i64 op2, .string (str ke2), .int .i64 am2, .int .i64 sp2, .int .u64 (le2 : Int)] 61)).alloc (.cells #[.int .u64 (re : Int), .int .u64 (rq : Int), .int .i64 er, .int .u64 (lz : Int), .int .i64 rm, .int .i64 un] 63)).alloc (.cells #[.int .u64 (re2 : Int), .int .u64 (rq2 : Int), .int .i64 er2, .int .u64 (lz2 : Int), .int .i64 rm2, .int .i64 un2] 63)).alloc (.cells #[m0, m1, m2, m3, m4, m5, m6, m7, m8, m9, m10, m11, m12, m13] 55)) (.cells #[n0, n1, n2, n3, n4, n5, n6, n7, n8, n9, n10, n11, n12, n13] 55) (by simp only [World.size_alloc]; omega)).trans ((heap_alloc_old ((((w.alloc (.cells #[.int .u64 (se : Int), .int .u64 (sq : Int), .int .i64 op, .string (str ke), .int .i64 am, .int .i64 sp, .int .u64 (le : Int)] 61)).alloc (.cells #[.int .u64 (se2 : Int), .int .u64 (sq2 : Int), .int .i64 op2, .string (str ke2), .int .i64 am2, .int .i64 sp2, .int .u64 (le2 : Int)] 61)).alloc (.cells #[.int .u64 (re : Int), .int .u64 (rq : Int), .int .i64 er, .int .u64 (lz : Int), .int .i64 rm, .int .i64 un] 63)).alloc (.cells #[.int .u64 (re2 : Int), .int .u64 (rq2 : Int), .int .i64 er2, .int .u64 (lz2 : Int), .int .i64 rm2, .int .i64 un2] 63)) (.cells #[m0, m1, m2, m3, m4, m5, m6, m7, m8, m9, m10, m11, m12, m13] 55) (by simp only [World.size_alloc]; omega)).trans ((heap_alloc_old (((w.alloc (.cells #[.int .u64 (se : Int), .int .u64 (sq : Int), .int .i64 op, .string (str ke), .int .i64 am, .int .i64 sp, .int .u64 (le : Int)] 61)).alloc (.cells #[.int .u64 (se2 : Int), .int .u64 (sq2 : Int), .int .i64 op2, .string (str ke2), .int .i64 am2, .int .i64 sp2, .int .u64 (le2 : Int)] 61)).alloc (.cells #[.int .u64 (re : Int), .int .u64 (rq : Int), .int .i64 er, .int .u64 (lz : Int), .int .i64 rm, .int .i64 un] 63)) (.cells #[.int .u64 (re2 : Int), .int .u64 (rq2 : Int), .int .i64 er2, .int .u64 (lz2 : Int), .int .i64 rm2, .int .i64 un2] 63) (by simp only [World.size_alloc]; omega)).trans ((heap_alloc_old ((w.alloc (.cells #[.int .u64 (se : Int), .int .u64 (sq : Int), .int .i64 op, .string (str ke), .int .i64 am, .int .i64 sp, .int .u64 (le : Int)] 61)).alloc (.cells #[.int .u64 (se2 : Int), .int .u64 (sq2 : Int), .int .i64 op2, .string (str ke2), .int .i64 am2, .int .i64 sp2, .int .u64 (le2 : Int)] 61)) (.cells #[.int .u64 (re : Int), .int .u64 (rq : Int), .int .i64 er, .int .u64 (lz : Int), .int .i64 rm, .int .i64 un] 63) (by simp only [World.size_alloc]; omega)).trans (heap_alloc_new (w.alloc (.cells #[.int .u64 (se : Int), .int .u64 (sq : Int), .int .i64 op, .string (str ke), .int .i64 am, .int .i64 sp, .int .u64 (le : Int)] 61)) (.cells #[.int .u64 (se2 : Int), .int .u64 (sq2 : Int), .int .i64 op2, .string (str ke2), .int .i64 am2, .int .i64 sp2, .int .u64 (le2 : Int)] 61))))))
    simpa only [World.size_alloc] using h
  have hrow3 : ((((((w.alloc (.cells #[.int .u64 (se : Int), .int .u64 (sq : Int), .int .i64 op, .string (str ke), .int .i64 am, .int .i64 sp, .int .u64 (le : Int)] 61)).alloc (.cells #[.int .u64 (se2 : Int), .int .u64 (sq2 : Int), .int .i64 op2, .string (str ke2), .int .i64 am2, .int .i64 sp2, .int .u64 (le2 : Int)] 61)).alloc (.cells #[.int .u64 (re : Int), .int .u64 (rq : Int), .int .i64 er, .int .u64 (lz : Int), .int .i64 rm, .int .i64 un] 63)).alloc (.cells #[.int .u64 (re2 : Int), .int .u64 (rq2 : Int), .int .i64 er2, .int .u64 (lz2 : Int), .int .i64 rm2, .int .i64 un2] 63)).alloc (.cells #[m0, m1, m2, m3, m4, m5, m6, m7, m8, m9, m10, m11, m12, m13] 55)).alloc (.cells #[n0, n1, n2, n3, n4, n5, n6, n7, n8, n9, n10, n11, n12, n13] 55)).heap[(w.heap.size + 1 + 1)]? = some (.cells #[.int .u64 (re : Int), .int .u64 (rq : Int), .int .i64 er, .int .u64 (lz : Int), .int .i64 rm, .int .i64 un] 63 (0, 0)) := by
    have h := ((heap_alloc_old (((((w.alloc (.cells #[.int .u64 (se : Int), .int .u64 (sq : Int), .int .i64 op, .string (str ke), .int .i64 am, .int .i64 sp, .int .u64 (le : Int)] 61)).alloc (.cells #[.int .u64 (se2 : Int), .int .u64 (sq2 : Int), .int .i64 op2, .string (str ke2), .int .i64 am2, .int .i64 sp2, .int .u64 (le2 : Int)] 61)).alloc (.cells #[.int .u64 (re : Int), .int .u64 (rq : Int), .int .i64 er, .int .u64 (lz : Int), .int .i64 rm, .int .i64 un] 63)).alloc (.cells #[.int .u64 (re2 : Int), .int .u64 (rq2 : Int), .int .i64 er2, .int .u64 (lz2 : Int), .int .i64 rm2, .int .i64 un2] 63)).alloc (.cells #[m0, m1, m2, m3, m4, m5, m6, m7, m8, m9, m10, m11, m12, m13] 55)) (.cells #[n0, n1, n2, n3, n4, n5, n6, n7, n8, n9, n10, n11, n12, n13] 55) (by simp only [World.size_alloc]; omega)).trans ((heap_alloc_old ((((w.alloc (.cells #[.int .u64 (se : Int), .int .u64 (sq : Int), .int .i64 op, .string (str ke), .int .i64 am, .int .i64 sp, .int .u64 (le : Int)] 61)).alloc (.cells #[.int .u64 (se2 : Int), .int .u64 (sq2 : Int), .int .i64 op2, .string (str ke2), .int .i64 am2, .int .i64 sp2, .int .u64 (le2 : Int)] 61)).alloc (.cells #[.int .u64 (re : Int), .int .u64 (rq : Int), .int .i64 er, .int .u64 (lz : Int), .int .i64 rm, .int .i64 un] 63)).alloc (.cells #[.int .u64 (re2 : Int), .int .u64 (rq2 : Int), .int .i64 er2, .int .u64 (lz2 : Int), .int .i64 rm2, .int .i64 un2] 63)) (.cells #[m0, m1, m2, m3, m4, m5, m6, m7, m8, m9, m10, m11, m12, m13] 55) (by simp only [World.size_alloc]; omega)).trans ((heap_alloc_old (((w.alloc (.cells #[.int .u64 (se : Int), .int .u64 (sq : Int), .int .i64 op, .string (str ke), .int .i64 am, .int .i64 sp, .int .u64 (le : Int)] 61)).alloc (.cells #[.int .u64 (se2 : Int), .int .u64 (sq2 : Int), .int .i64 op2, .string (str ke2), .int .i64 am2, .int .i64 sp2, .int .u64 (le2 : Int)] 61)).alloc (.cells #[.int .u64 (re : Int), .int .u64 (rq : Int), .int .i64 er, .int .u64 (lz : Int), .int .i64 rm, .int .i64 un] 63)) (.cells #[.int .u64 (re2 : Int), .int .u64 (rq2 : Int), .int .i64 er2, .int .u64 (lz2 : Int), .int .i64 rm2, .int .i64 un2] 63) (by simp only [World.size_alloc]; omega)).trans (heap_alloc_new ((w.alloc (.cells #[.int .u64 (se : Int), .int .u64 (sq : Int), .int .i64 op, .string (str ke), .int .i64 am, .int .i64 sp, .int .u64 (le : Int)] 61)).alloc (.cells #[.int .u64 (se2 : Int), .int .u64 (sq2 : Int), .int .i64 op2, .string (str ke2), .int .i64 am2, .int .i64 sp2, .int .u64 (le2 : Int)] 61)) (.cells #[.int .u64 (re : Int), .int .u64 (rq : Int), .int .i64 er, .int .u64 (lz : Int), .int .i64 rm, .int .i64 un] 63)))))
    simpa only [World.size_alloc] using h
  have hrow4 : ((((((w.alloc (.cells #[.int .u64 (se : Int), .int .u64 (sq : Int), .int .i64 op, .string (str ke), .int .i64 am, .int .i64 sp, .int .u64 (le : Int)] 61)).alloc (.cells #[.int .u64 (se2 : Int), .int .u64 (sq2 : Int), .int .i64 op2, .string (str ke2), .int .i64 am2, .int .i64 sp2, .int .u64 (le2 : Int)] 61)).alloc (.cells #[.int .u64 (re : Int), .int .u64 (rq : Int), .int .i64 er, .int .u64 (lz : Int), .int .i64 rm, .int .i64 un] 63)).alloc (.cells #[.int .u64 (re2 : Int), .int .u64 (rq2 : Int), .int .i64 er2, .int .u64 (lz2 : Int), .int .i64 rm2, .int .i64 un2] 63)).alloc (.cells #[m0, m1, m2, m3, m4, m5, m6, m7, m8, m9, m10, m11, m12, m13] 55)).alloc (.cells #[n0, n1, n2, n3, n4, n5, n6, n7, n8, n9, n10, n11, n12, n13] 55)).heap[(w.heap.size + 1 + 1 + 1)]? = some (.cells #[.int .u64 (re2 : Int), .int .u64 (rq2 : Int), .int .i64 er2, .int .u64 (lz2 : Int), .int .i64 rm2, .int .i64 un2] 63 (0, 0)) := by
    have h := ((heap_alloc_old (((((w.alloc (.cells #[.int .u64 (se : Int), .int .u64 (sq : Int), .int .i64 op, .string (str ke), .int .i64 am, .int .i64 sp, .int .u64 (le : Int)] 61)).alloc (.cells #[.int .u64 (se2 : Int), .int .u64 (sq2 : Int), .int .i64 op2, .string (str ke2), .int .i64 am2, .int .i64 sp2, .int .u64 (le2 : Int)] 61)).alloc (.cells #[.int .u64 (re : Int), .int .u64 (rq : Int), .int .i64 er, .int .u64 (lz : Int), .int .i64 rm, .int .i64 un] 63)).alloc (.cells #[.int .u64 (re2 : Int), .int .u64 (rq2 : Int), .int .i64 er2, .int .u64 (lz2 : Int), .int .i64 rm2, .int .i64 un2] 63)).alloc (.cells #[m0, m1, m2, m3, m4, m5, m6, m7, m8, m9, m10, m11, m12, m13] 55)) (.cells #[n0, n1, n2, n3, n4, n5, n6, n7, n8, n9, n10, n11, n12, n13] 55) (by simp only [World.size_alloc]; omega)).trans ((heap_alloc_old ((((w.alloc (.cells #[.int .u64 (se : Int), .int .u64 (sq : Int), .int .i64 op, .string (str ke), .int .i64 am, .int .i64 sp, .int .u64 (le : Int)] 61)).alloc (.cells #[.int .u64 (se2 : Int), .int .u64 (sq2 : Int), .int .i64 op2, .string (str ke2), .int .i64 am2, .int .i64 sp2, .int .u64 (le2 : Int)] 61)).alloc (.cells #[.int .u64 (re : Int), .int .u64 (rq : Int), .int .i64 er, .int .u64 (lz : Int), .int .i64 rm, .int .i64 un] 63)).alloc (.cells #[.int .u64 (re2 : Int), .int .u64 (rq2 : Int), .int .i64 er2, .int .u64 (lz2 : Int), .int .i64 rm2, .int .i64 un2] 63)) (.cells #[m0, m1, m2, m3, m4, m5, m6, m7, m8, m9, m10, m11, m12, m13] 55) (by simp only [World.size_alloc]; omega)).trans (heap_alloc_new (((w.alloc (.cells #[.int .u64 (se : Int), .int .u64 (sq : Int), .int .i64 op, .string (str ke), .int .i64 am, .int .i64 sp, .int .u64 (le : Int)] 61)).alloc (.cells #[.int .u64 (se2 : Int), .int .u64 (sq2 : Int), .int .i64 op2, .string (str ke2), .int .i64 am2, .int .i64 sp2, .int .u64 (le2 : Int)] 61)).alloc (.cells #[.int .u64 (re : Int), .int .u64 (rq : Int), .int .i64 er, .int .u64 (lz : Int), .int .i64 rm, .int .i64 un] 63)) (.cells #[.int .u64 (re2 : Int), .int .u64 (rq2 : Int), .int .i64 er2, .int .u64 (lz2 : Int), .int .i64 rm2, .int .i64 un2] 63))))
    simpa only [World.size_alloc] using h
  have hrow5 : ((((((w.alloc (.cells #[.int .u64 (se : Int), .int .u64 (sq : Int), .int .i64 op, .string (str ke), .int .i64 am, .int .i64 sp, .int .u64 (le : Int)] 61)).alloc (.cells #[.int .u64 (se2 : Int), .int .u64 (sq2 : Int), .int .i64 op2, .string (str ke2), .int .i64 am2, .int .i64 sp2, .int .u64 (le2 : Int)] 61)).alloc (.cells #[.int .u64 (re : Int), .int .u64 (rq : Int), .int .i64 er, .int .u64 (lz : Int), .int .i64 rm, .int .i64 un] 63)).alloc (.cells #[.int .u64 (re2 : Int), .int .u64 (rq2 : Int), .int .i64 er2, .int .u64 (lz2 : Int), .int .i64 rm2, .int .i64 un2] 63)).alloc (.cells #[m0, m1, m2, m3, m4, m5, m6, m7, m8, m9, m10, m11, m12, m13] 55)).alloc (.cells #[n0, n1, n2, n3, n4, n5, n6, n7, n8, n9, n10, n11, n12, n13] 55)).heap[(w.heap.size + 1 + 1 + 1 + 1)]? = some (.cells #[m0, m1, m2, m3, m4, m5, m6, m7, m8, m9, m10, m11, m12, m13] 55 (0, 0)) := by
    have h := ((heap_alloc_old (((((w.alloc (.cells #[.int .u64 (se : Int), .int .u64 (sq : Int), .int .i64 op, .string (str ke), .int .i64 am, .int .i64 sp, .int .u64 (le : Int)] 61)).alloc (.cells #[.int .u64 (se2 : Int), .int .u64 (sq2 : Int), .int .i64 op2, .string (str ke2), .int .i64 am2, .int .i64 sp2, .int .u64 (le2 : Int)] 61)).alloc (.cells #[.int .u64 (re : Int), .int .u64 (rq : Int), .int .i64 er, .int .u64 (lz : Int), .int .i64 rm, .int .i64 un] 63)).alloc (.cells #[.int .u64 (re2 : Int), .int .u64 (rq2 : Int), .int .i64 er2, .int .u64 (lz2 : Int), .int .i64 rm2, .int .i64 un2] 63)).alloc (.cells #[m0, m1, m2, m3, m4, m5, m6, m7, m8, m9, m10, m11, m12, m13] 55)) (.cells #[n0, n1, n2, n3, n4, n5, n6, n7, n8, n9, n10, n11, n12, n13] 55) (by simp only [World.size_alloc]; omega)).trans (heap_alloc_new ((((w.alloc (.cells #[.int .u64 (se : Int), .int .u64 (sq : Int), .int .i64 op, .string (str ke), .int .i64 am, .int .i64 sp, .int .u64 (le : Int)] 61)).alloc (.cells #[.int .u64 (se2 : Int), .int .u64 (sq2 : Int), .int .i64 op2, .string (str ke2), .int .i64 am2, .int .i64 sp2, .int .u64 (le2 : Int)] 61)).alloc (.cells #[.int .u64 (re : Int), .int .u64 (rq : Int), .int .i64 er, .int .u64 (lz : Int), .int .i64 rm, .int .i64 un] 63)).alloc (.cells #[.int .u64 (re2 : Int), .int .u64 (rq2 : Int), .int .i64 er2, .int .u64 (lz2 : Int), .int .i64 rm2, .int .i64 un2] 63)) (.cells #[m0, m1, m2, m3, m4, m5, m6, m7, m8, m9, m10, m11, m12, m13] 55)))
    simpa only [World.size_alloc] using h
  have hrow6 : ((((((w.alloc (.cells #[.int .u64 (se : Int), .int .u64 (sq : Int), .int .i64 op, .string (str ke), .int .i64 am, .int .i64 sp, .int .u64 (le : Int)] 61)).alloc (.cells #[.int .u64 (se2 : Int), .int .u64 (sq2 : Int), .int .i64 op2, .string (str ke2), .int .i64 am2, .int .i64 sp2, .int .u64 (le2 : Int)] 61)).alloc (.cells #[.int .u64 (re : Int), .int .u64 (rq : Int), .int .i64 er, .int .u64 (lz : Int), .int .i64 rm, .int .i64 un] 63)).alloc (.cells #[.int .u64 (re2 : Int), .int .u64 (rq2 : Int), .int .i64 er2, .int .u64 (lz2 : Int), .int .i64 rm2, .int .i64 un2] 63)).alloc (.cells #[m0, m1, m2, m3, m4, m5, m6, m7, m8, m9, m10, m11, m12, m13] 55)).alloc (.cells #[n0, n1, n2, n3, n4, n5, n6, n7, n8, n9, n10, n11, n12, n13] 55)).heap[(w.heap.size + 1 + 1 + 1 + 1 + 1)]? = some (.cells #[n0, n1, n2, n3, n4, n5, n6, n7, n8, n9, n10, n11, n12, n13] 55 (0, 0)) := by
    have h := (heap_alloc_new (((((w.alloc (.cells #[.int .u64 (se : Int), .int .u64 (sq : Int), .int .i64 op, .string (str ke), .int .i64 am, .int .i64 sp, .int .u64 (le : Int)] 61)).alloc (.cells #[.int .u64 (se2 : Int), .int .u64 (sq2 : Int), .int .i64 op2, .string (str ke2), .int .i64 am2, .int .i64 sp2, .int .u64 (le2 : Int)] 61)).alloc (.cells #[.int .u64 (re : Int), .int .u64 (rq : Int), .int .i64 er, .int .u64 (lz : Int), .int .i64 rm, .int .i64 un] 63)).alloc (.cells #[.int .u64 (re2 : Int), .int .u64 (rq2 : Int), .int .i64 er2, .int .u64 (lz2 : Int), .int .i64 rm2, .int .i64 un2] 63)).alloc (.cells #[m0, m1, m2, m3, m4, m5, m6, m7, m8, m9, m10, m11, m12, m13] 55)) (.cells #[n0, n1, n2, n3, n4, n5, n6, n7, n8, n9, n10, n11, n12, n13] 55))
    simpa only [World.size_alloc] using h
  have hb0 : Below w.heap.size w ((((((w.alloc (.cells #[.int .u64 (se : Int), .int .u64 (sq : Int), .int .i64 op, .string (str ke), .int .i64 am, .int .i64 sp, .int .u64 (le : Int)] 61)).alloc (.cells #[.int .u64 (se2 : Int), .int .u64 (sq2 : Int), .int .i64 op2, .string (str ke2), .int .i64 am2, .int .i64 sp2, .int .u64 (le2 : Int)] 61)).alloc (.cells #[.int .u64 (re : Int), .int .u64 (rq : Int), .int .i64 er, .int .u64 (lz : Int), .int .i64 rm, .int .i64 un] 63)).alloc (.cells #[.int .u64 (re2 : Int), .int .u64 (rq2 : Int), .int .i64 er2, .int .u64 (lz2 : Int), .int .i64 rm2, .int .i64 un2] 63)).alloc (.cells #[m0, m1, m2, m3, m4, m5, m6, m7, m8, m9, m10, m11, m12, m13] 55)).alloc (.cells #[n0, n1, n2, n3, n4, n5, n6, n7, n8, n9, n10, n11, n12, n13] 55)) := ((((((Below.refl _ _).alloc (Nat.le_refl _) _).alloc (by simp only [World.size_alloc]; omega) _).alloc (by simp only [World.size_alloc]; omega) _).alloc (by simp only [World.size_alloc]; omega) _).alloc (by simp only [World.size_alloc]; omega) _).alloc (by simp only [World.size_alloc]; omega) _
  obtain ⟨W, hW⟩ : ∃ W, W = ((((((w.alloc (.cells #[.int .u64 (se : Int), .int .u64 (sq : Int), .int .i64 op, .string (str ke), .int .i64 am, .int .i64 sp, .int .u64 (le : Int)] 61)).alloc (.cells #[.int .u64 (se2 : Int), .int .u64 (sq2 : Int), .int .i64 op2, .string (str ke2), .int .i64 am2, .int .i64 sp2, .int .u64 (le2 : Int)] 61)).alloc (.cells #[.int .u64 (re : Int), .int .u64 (rq : Int), .int .i64 er, .int .u64 (lz : Int), .int .i64 rm, .int .i64 un] 63)).alloc (.cells #[.int .u64 (re2 : Int), .int .u64 (rq2 : Int), .int .i64 er2, .int .u64 (lz2 : Int), .int .i64 rm2, .int .i64 un2] 63)).alloc (.cells #[m0, m1, m2, m3, m4, m5, m6, m7, m8, m9, m10, m11, m12, m13] 55)).alloc (.cells #[n0, n1, n2, n3, n4, n5, n6, n7, n8, n9, n10, n11, n12, n13] 55)) := ⟨_, rfl⟩
  have ha0 : ((((((w.alloc (.cells #[.int .u64 (se : Int), .int .u64 (sq : Int), .int .i64 op, .string (str ke), .int .i64 am, .int .i64 sp, .int .u64 (le : Int)] 61)).alloc (.cells #[.int .u64 (se2 : Int), .int .u64 (sq2 : Int), .int .i64 op2, .string (str ke2), .int .i64 am2, .int .i64 sp2, .int .u64 (le2 : Int)] 61)).alloc (.cells #[.int .u64 (re : Int), .int .u64 (rq : Int), .int .i64 er, .int .u64 (lz : Int), .int .i64 rm, .int .i64 un] 63)).alloc (.cells #[.int .u64 (re2 : Int), .int .u64 (rq2 : Int), .int .i64 er2, .int .u64 (lz2 : Int), .int .i64 rm2, .int .i64 un2] 63)).alloc (.cells #[m0, m1, m2, m3, m4, m5, m6, m7, m8, m9, m10, m11, m12, m13] 55)).alloc (.cells #[n0, n1, n2, n3, n4, n5, n6, n7, n8, n9, n10, n11, n12, n13] 55)).cell? ⟨w.heap.size, 0, none⟩ = some (.int .u64 (se : Int)) := by rw [cell_of_row _ w.heap.size 0 _ _ _ hrow1]; rfl
  have ha1 : ((((((w.alloc (.cells #[.int .u64 (se : Int), .int .u64 (sq : Int), .int .i64 op, .string (str ke), .int .i64 am, .int .i64 sp, .int .u64 (le : Int)] 61)).alloc (.cells #[.int .u64 (se2 : Int), .int .u64 (sq2 : Int), .int .i64 op2, .string (str ke2), .int .i64 am2, .int .i64 sp2, .int .u64 (le2 : Int)] 61)).alloc (.cells #[.int .u64 (re : Int), .int .u64 (rq : Int), .int .i64 er, .int .u64 (lz : Int), .int .i64 rm, .int .i64 un] 63)).alloc (.cells #[.int .u64 (re2 : Int), .int .u64 (rq2 : Int), .int .i64 er2, .int .u64 (lz2 : Int), .int .i64 rm2, .int .i64 un2] 63)).alloc (.cells #[m0, m1, m2, m3, m4, m5, m6, m7, m8, m9, m10, m11, m12, m13] 55)).alloc (.cells #[n0, n1, n2, n3, n4, n5, n6, n7, n8, n9, n10, n11, n12, n13] 55)).cell? ⟨w.heap.size, 1, none⟩ = some (.int .u64 (sq : Int)) := by rw [cell_of_row _ w.heap.size 1 _ _ _ hrow1]; rfl
  have ha2 : ((((((w.alloc (.cells #[.int .u64 (se : Int), .int .u64 (sq : Int), .int .i64 op, .string (str ke), .int .i64 am, .int .i64 sp, .int .u64 (le : Int)] 61)).alloc (.cells #[.int .u64 (se2 : Int), .int .u64 (sq2 : Int), .int .i64 op2, .string (str ke2), .int .i64 am2, .int .i64 sp2, .int .u64 (le2 : Int)] 61)).alloc (.cells #[.int .u64 (re : Int), .int .u64 (rq : Int), .int .i64 er, .int .u64 (lz : Int), .int .i64 rm, .int .i64 un] 63)).alloc (.cells #[.int .u64 (re2 : Int), .int .u64 (rq2 : Int), .int .i64 er2, .int .u64 (lz2 : Int), .int .i64 rm2, .int .i64 un2] 63)).alloc (.cells #[m0, m1, m2, m3, m4, m5, m6, m7, m8, m9, m10, m11, m12, m13] 55)).alloc (.cells #[n0, n1, n2, n3, n4, n5, n6, n7, n8, n9, n10, n11, n12, n13] 55)).cell? ⟨w.heap.size, 2, none⟩ = some (.int .i64 op) := by rw [cell_of_row _ w.heap.size 2 _ _ _ hrow1]; rfl
  have ha3 : ((((((w.alloc (.cells #[.int .u64 (se : Int), .int .u64 (sq : Int), .int .i64 op, .string (str ke), .int .i64 am, .int .i64 sp, .int .u64 (le : Int)] 61)).alloc (.cells #[.int .u64 (se2 : Int), .int .u64 (sq2 : Int), .int .i64 op2, .string (str ke2), .int .i64 am2, .int .i64 sp2, .int .u64 (le2 : Int)] 61)).alloc (.cells #[.int .u64 (re : Int), .int .u64 (rq : Int), .int .i64 er, .int .u64 (lz : Int), .int .i64 rm, .int .i64 un] 63)).alloc (.cells #[.int .u64 (re2 : Int), .int .u64 (rq2 : Int), .int .i64 er2, .int .u64 (lz2 : Int), .int .i64 rm2, .int .i64 un2] 63)).alloc (.cells #[m0, m1, m2, m3, m4, m5, m6, m7, m8, m9, m10, m11, m12, m13] 55)).alloc (.cells #[n0, n1, n2, n3, n4, n5, n6, n7, n8, n9, n10, n11, n12, n13] 55)).cell? ⟨w.heap.size, 3, none⟩ = some (.string (str ke)) := by rw [cell_of_row _ w.heap.size 3 _ _ _ hrow1]; rfl
  have ha4 : ((((((w.alloc (.cells #[.int .u64 (se : Int), .int .u64 (sq : Int), .int .i64 op, .string (str ke), .int .i64 am, .int .i64 sp, .int .u64 (le : Int)] 61)).alloc (.cells #[.int .u64 (se2 : Int), .int .u64 (sq2 : Int), .int .i64 op2, .string (str ke2), .int .i64 am2, .int .i64 sp2, .int .u64 (le2 : Int)] 61)).alloc (.cells #[.int .u64 (re : Int), .int .u64 (rq : Int), .int .i64 er, .int .u64 (lz : Int), .int .i64 rm, .int .i64 un] 63)).alloc (.cells #[.int .u64 (re2 : Int), .int .u64 (rq2 : Int), .int .i64 er2, .int .u64 (lz2 : Int), .int .i64 rm2, .int .i64 un2] 63)).alloc (.cells #[m0, m1, m2, m3, m4, m5, m6, m7, m8, m9, m10, m11, m12, m13] 55)).alloc (.cells #[n0, n1, n2, n3, n4, n5, n6, n7, n8, n9, n10, n11, n12, n13] 55)).cell? ⟨w.heap.size, 4, none⟩ = some (.int .i64 am) := by rw [cell_of_row _ w.heap.size 4 _ _ _ hrow1]; rfl
  have ha5 : ((((((w.alloc (.cells #[.int .u64 (se : Int), .int .u64 (sq : Int), .int .i64 op, .string (str ke), .int .i64 am, .int .i64 sp, .int .u64 (le : Int)] 61)).alloc (.cells #[.int .u64 (se2 : Int), .int .u64 (sq2 : Int), .int .i64 op2, .string (str ke2), .int .i64 am2, .int .i64 sp2, .int .u64 (le2 : Int)] 61)).alloc (.cells #[.int .u64 (re : Int), .int .u64 (rq : Int), .int .i64 er, .int .u64 (lz : Int), .int .i64 rm, .int .i64 un] 63)).alloc (.cells #[.int .u64 (re2 : Int), .int .u64 (rq2 : Int), .int .i64 er2, .int .u64 (lz2 : Int), .int .i64 rm2, .int .i64 un2] 63)).alloc (.cells #[m0, m1, m2, m3, m4, m5, m6, m7, m8, m9, m10, m11, m12, m13] 55)).alloc (.cells #[n0, n1, n2, n3, n4, n5, n6, n7, n8, n9, n10, n11, n12, n13] 55)).cell? ⟨w.heap.size, 5, none⟩ = some (.int .i64 sp) := by rw [cell_of_row _ w.heap.size 5 _ _ _ hrow1]; rfl
  have ha6 : ((((((w.alloc (.cells #[.int .u64 (se : Int), .int .u64 (sq : Int), .int .i64 op, .string (str ke), .int .i64 am, .int .i64 sp, .int .u64 (le : Int)] 61)).alloc (.cells #[.int .u64 (se2 : Int), .int .u64 (sq2 : Int), .int .i64 op2, .string (str ke2), .int .i64 am2, .int .i64 sp2, .int .u64 (le2 : Int)] 61)).alloc (.cells #[.int .u64 (re : Int), .int .u64 (rq : Int), .int .i64 er, .int .u64 (lz : Int), .int .i64 rm, .int .i64 un] 63)).alloc (.cells #[.int .u64 (re2 : Int), .int .u64 (rq2 : Int), .int .i64 er2, .int .u64 (lz2 : Int), .int .i64 rm2, .int .i64 un2] 63)).alloc (.cells #[m0, m1, m2, m3, m4, m5, m6, m7, m8, m9, m10, m11, m12, m13] 55)).alloc (.cells #[n0, n1, n2, n3, n4, n5, n6, n7, n8, n9, n10, n11, n12, n13] 55)).cell? ⟨w.heap.size, 6, none⟩ = some (.int .u64 (le : Int)) := by rw [cell_of_row _ w.heap.size 6 _ _ _ hrow1]; rfl
  rw [← hW] at hrow1 hrow2 hrow3 hrow4 hrow5 hrow6 hb0
  have HR1 := Lib.hid (commandK_ok.below r1 hb0)
  have HS1 := Lib.hid s1
  have HW1 := Lib.hid hrow1
  have HR2 := Lib.hid (commandK_ok.below r2 hb0)
  have HS2 := Lib.hid s2
  have HW2 := Lib.hid hrow2
  have HR3 := Lib.hid (replyK_ok.below r3 hb0)
  have HS3 := Lib.hid s3
  have HW3 := Lib.hid hrow3
  have HR4 := Lib.hid (replyK_ok.below r4 hb0)
  have HS4 := Lib.hid s4
  have HW4 := Lib.hid hrow4
  have HR5 := Lib.hid (msgK_ok.below r5 hb0)
  have HS5 := Lib.hid s5
  have HW5 := Lib.hid hrow5
  have HR6 := Lib.hid (msgK_ok.below r6 hb0)
  have HS6 := Lib.hid s6
  have HW6 := Lib.hid hrow6
  have HB := Lib.hid hb0
  clear hb0 hrow1 r1 s1 hrow2 r2 s2 hrow3 r3 s3 hrow4 r4 s4 hrow5 r5 s5 hrow6 r6 s6
  go_enter Tryz.func10, Tryz.ntmps10
  go_wp2_with fail
  rw [← hW]
  clear hW ha0 ha1 ha2 ha3 ha4 ha5 ha6
  refine (msgCommand_any (xs := [.int .u64 (se : Int), .int .u64 (sq : Int), .int .i64 op, .string (str ke), .int .i64 am, .int .i64 sp, .int .u64 (le : Int)]) (d := (cmdD se sq op ke am sp le)) _ rfl HR1.out (fun _ => by have := HS1.out; omega)).mono ?_
  rintro e w1 hw
  have hb1 := hw.1
  obtain ⟨v1, e1, rfl, hw1⟩ := Writes.tell hw
  have HV1 := Lib.hid hw1
  replace HR1 := Lib.hid (commandK_ok.below HR1.out hb1)
  replace HW1 := Lib.hid ((hb1.block _ (row_lt HW1.out)).trans HW1.out)
  replace HR2 := Lib.hid (commandK_ok.below HR2.out hb1)
  replace HW2 := Lib.hid ((hb1.block _ (row_lt HW2.out)).trans HW2.out)
  replace HR3 := Lib.hid (replyK_ok.below HR3.out hb1)
  replace HW3 := Lib.hid ((hb1.block _ (row_lt HW3.out)).trans HW3.out)
  replace HR4 := Lib.hid (replyK_ok.below HR4.out hb1)
  replace HW4 := Lib.hid ((hb1.block _ (row_lt HW4.out)).trans HW4.out)
  replace HR5 := Lib.hid (msgK_ok.below HR5.out hb1)
  replace HW5 := Lib.hid ((hb1.block _ (row_lt HW5.out)).trans HW5.out)
  replace HR6 := Lib.hid (msgK_ok.below HR6.out hb1)
  replace HW6 := Lib.hid ((hb1.block _ (row_lt HW6.out)).trans HW6.out)
  replace HB := Lib.hid (ext HB.out hb1)
  have HN1 := Lib.hid (Below.refl w1.heap.size w1)
  clear hw hw1 hb1
  have hc0 : w1.cell? ⟨(w.heap.size + 1), 0, none⟩ = some (.int .u64 (se2 : Int)) := by rw [cell_of_row _ (w.heap.size + 1) 0 _ _ _ HW2.out]; rfl
  have hc1 : w1.cell? ⟨(w.heap.size + 1), 1, none⟩ = some (.int .u64 (sq2 : Int)) := by rw [cell_of_row _ (w.heap.size + 1) 1 _ _ _ HW2.out]; rfl
  have hc2 : w1.cell? ⟨(w.heap.size + 1), 2, none⟩ = some (.int .i64 op2) := by rw [cell_of_row _ (w.heap.size + 1) 2 _ _ _ HW2.out]; rfl
  have hc3 : w1.cell? ⟨(w.heap.size + 1), 3, none⟩ = some (.string (str ke2)) := by rw [cell_of_row _ (w.heap.size + 1) 3 _ _ _ HW2.out]; rfl
  have hc4 : w1.cell? ⟨(w.heap.size + 1), 4, none⟩ = some (.int .i64 am2) := by rw [cell_of_row _ (w.heap.size + 1) 4 _ _ _ HW2.out]; rfl
  have hc5 : w1.cell? ⟨(w.heap.size + 1), 5, none⟩ = some (.int .i64 sp2) := by rw [cell_of_row _ (w.heap.size + 1) 5 _ _ _ HW2.out]; rfl
  have hc6 : w1.cell? ⟨(w.heap.size + 1), 6, none⟩ = some (.int .u64 (le2 : Int)) := by rw [cell_of_row _ (w.heap.size + 1) 6 _ _ _ HW2.out]; rfl
  go_wp2_with fail
  refine (msgCommand_any (xs := [.int .u64 (se2 : Int), .int .u64 (sq2 : Int), .int .i64 op2, .string (str ke2), .int .i64 am2, .int .i64 sp2, .int .u64 (le2 : Int)]) (d := (cmdD se2 sq2 op2 ke2 am2 sp2 le2)) _ rfl HR2.out (fun _ => by have := HS2.out; omega)).mono ?_
  rintro e w2 hw
  have hb2 := hw.1
  obtain ⟨v2, e2, rfl, hw2⟩ := Writes.tell hw
  have HV2 := Lib.hid hw2
  replace HR1 := Lib.hid (commandK_ok.below HR1.out hb2)
  replace HW1 := Lib.hid ((hb2.block _ (row_lt HW1.out)).trans HW1.out)
  replace HR2 := Lib.hid (commandK_ok.below HR2.out hb2)
  replace HW2 := Lib.hid ((hb2.block _ (row_lt HW2.out)).trans HW2.out)
  replace HR3 := Lib.hid (replyK_ok.below HR3.out hb2)
  replace HW3 := Lib.hid ((hb2.block _ (row_lt HW3.out)).trans HW3.out)
  replace HR4 := Lib.hid (replyK_ok.below HR4.out hb2)
  replace HW4 := Lib.hid ((hb2.block _ (row_lt HW4.out)).trans HW4.out)
  replace HR5 := Lib.hid (msgK_ok.below HR5.out hb2)
  replace HW5 := Lib.hid ((hb2.block _ (row_lt HW5.out)).trans HW5.out)
  replace HR6 := Lib.hid (msgK_ok.below HR6.out hb2)
  replace HW6 := Lib.hid ((hb2.block _ (row_lt HW6.out)).trans HW6.out)
  replace HN1 := Lib.hid (ext HN1.out hb2)
  replace HB := Lib.hid (ext HB.out hb2)
  have HN2 := Lib.hid (Below.refl w2.heap.size w2)
  clear hw hw2 hb2 hc0 hc1 hc2 hc3 hc4 hc5 hc6
  have hc0 : w2.cell? ⟨(w.heap.size + 1 + 1), 0, none⟩ = some (.int .u64 (re : Int)) := by rw [cell_of_row _ (w.heap.size + 1 + 1) 0 _ _ _ HW3.out]; rfl
  have hc1 : w2.cell? ⟨(w.heap.size + 1 + 1), 1, none⟩ = some (.int .u64 (rq : Int)) := by rw [cell_of_row _ (w.heap.size + 1 + 1) 1 _ _ _ HW3.out]; rfl
  have hc2 : w2.cell? ⟨(w.heap.size + 1 + 1), 2, none⟩ = some (.int .i64 er) := by rw [cell_of_row _ (w.heap.size + 1 + 1) 2 _ _ _ HW3.out]; rfl
  have hc3 : w2.cell? ⟨(w.heap.size + 1 + 1), 3, none⟩ = some (.int .u64 (lz : Int)) := by rw [cell_of_row _ (w.heap.size + 1 + 1) 3 _ _ _ HW3.out]; rfl
  have hc4 : w2.cell? ⟨(w.heap.size + 1 + 1), 4, none⟩ = some (.int .i64 rm) := by rw [cell_of_row _ (w.heap.size + 1 + 1) 4 _ _ _ HW3.out]; rfl
  have hc5 : w2.cell? ⟨(w.heap.size + 1 + 1), 5, none⟩ = some (.int .i64 un) := by rw [cell_of_row _ (w.heap.size + 1 + 1) 5 _ _ _ HW3.out]; rfl
  go_wp2_with fail
  refine (msgReply_any (xs := [.int .u64 (re : Int), .int .u64 (rq : Int), .int .i64 er, .int .u64 (lz : Int), .int .i64 rm, .int .i64 un]) (d := (repD re rq er lz rm un)) _ rfl HR3.out (fun _ => by have := HS3.out; omega)).mono ?_
  rintro e w3 hw
  have hb3 := hw.1
  obtain ⟨v3, e3, rfl, hw3⟩ := Writes.tell hw
  have HV3 := Lib.hid hw3
  replace HR1 := Lib.hid (commandK_ok.below HR1.out hb3)
  replace HW1 := Lib.hid ((hb3.block _ (row_lt HW1.out)).trans HW1.out)
  replace HR2 := Lib.hid (commandK_ok.below HR2.out hb3)
  replace HW2 := Lib.hid ((hb3.block _ (row_lt HW2.out)).trans HW2.out)
  replace HR3 := Lib.hid (replyK_ok.below HR3.out hb3)
  replace HW3 := Lib.hid ((hb3.block _ (row_lt HW3.out)).trans HW3.out)
  replace HR4 := Lib.hid (replyK_ok.below HR4.out hb3)
  replace HW4 := Lib.hid ((hb3.block _ (row_lt HW4.out)).trans HW4.out)
  replace HR5 := Lib.hid (msgK_ok.below HR5.out hb3)
  replace HW5 := Lib.hid ((hb3.block _ (row_lt HW5.out)).trans HW5.out)
  replace HR6 := Lib.hid (msgK_ok.below HR6.out hb3)
  replace HW6 := Lib.hid ((hb3.block _ (row_lt HW6.out)).trans HW6.out)
  replace HN1 := Lib.hid (ext HN1.out hb3)
  replace HN2 := Lib.hid (ext HN2.out hb3)
  replace HB := Lib.hid (ext HB.out hb3)
  have HN3 := Lib.hid (Below.refl w3.heap.size w3)
  clear hw hw3 hb3 hc0 hc1 hc2 hc3 hc4 hc5
  have hc0 : w3.cell? ⟨(w.heap.size + 1 + 1 + 1), 0, none⟩ = some (.int .u64 (re2 : Int)) := by rw [cell_of_row _ (w.heap.size + 1 + 1 + 1) 0 _ _ _ HW4.out]; rfl
  have hc1 : w3.cell? ⟨(w.heap.size + 1 + 1 + 1), 1, none⟩ = some (.int .u64 (rq2 : Int)) := by rw [cell_of_row _ (w.heap.size + 1 + 1 + 1) 1 _ _ _ HW4.out]; rfl
  have hc2 : w3.cell? ⟨(w.heap.size + 1 + 1 + 1), 2, none⟩ = some (.int .i64 er2) := by rw [cell_of_row _ (w.heap.size + 1 + 1 + 1) 2 _ _ _ HW4.out]; rfl
  have hc3 : w3.cell? ⟨(w.heap.size + 1 + 1 + 1), 3, none⟩ = some (.int .u64 (lz2 : Int)) := by rw [cell_of_row _ (w.heap.size + 1 + 1 + 1) 3 _ _ _ HW4.out]; rfl
  have hc4 : w3.cell? ⟨(w.heap.size + 1 + 1 + 1), 4, none⟩ = some (.int .i64 rm2) := by rw [cell_of_row _ (w.heap.size + 1 + 1 + 1) 4 _ _ _ HW4.out]; rfl
  have hc5 : w3.cell? ⟨(w.heap.size + 1 + 1 + 1), 5, none⟩ = some (.int .i64 un2) := by rw [cell_of_row _ (w.heap.size + 1 + 1 + 1) 5 _ _ _ HW4.out]; rfl
  go_wp2_with fail
  refine (msgReply_any (xs := [.int .u64 (re2 : Int), .int .u64 (rq2 : Int), .int .i64 er2, .int .u64 (lz2 : Int), .int .i64 rm2, .int .i64 un2]) (d := (repD re2 rq2 er2 lz2 rm2 un2)) _ rfl HR4.out (fun _ => by have := HS4.out; omega)).mono ?_
  rintro e w4 hw
  have hb4 := hw.1
  obtain ⟨v4, e4, rfl, hw4⟩ := Writes.tell hw
  have HV4 := Lib.hid hw4
  replace HR1 := Lib.hid (commandK_ok.below HR1.out hb4)
  replace HW1 := Lib.hid ((hb4.block _ (row_lt HW1.out)).trans HW1.out)
  replace HR2 := Lib.hid (commandK_ok.below HR2.out hb4)
  replace HW2 := Lib.hid ((hb4.block _ (row_lt HW2.out)).trans HW2.out)
  replace HR3 := Lib.hid (replyK_ok.below HR3.out hb4)
  replace HW3 := Lib.hid ((hb4.block _ (row_lt HW3.out)).trans HW3.out)
  replace HR4 := Lib.hid (replyK_ok.below HR4.out hb4)
  replace HW4 := Lib.hid ((hb4.block _ (row_lt HW4.out)).trans HW4.out)
  replace HR5 := Lib.hid (msgK_ok.below HR5.out hb4)
  replace HW5 := Lib.hid ((hb4.block _ (row_lt HW5.out)).trans HW5.out)
  replace HR6 := Lib.hid (msgK_ok.below HR6.out hb4)
  replace HW6 := Lib.hid ((hb4.block _ (row_lt HW6.out)).trans HW6.out)
  replace HN1 := Lib.hid (ext HN1.out hb4)
  replace HN2 := Lib.hid (ext HN2.out hb4)
  replace HN3 := Lib.hid (ext HN3.out hb4)
  replace HB := Lib.hid (ext HB.out hb4)
  have HN4 := Lib.hid (Below.refl w4.heap.size w4)
  clear hw hw4 hb4 hc0 hc1 hc2 hc3 hc4 hc5
  have hc0 : w4.cell? ⟨(w.heap.size + 1 + 1 + 1 + 1), 0, none⟩ = some m0 := by rw [cell_of_row _ (w.heap.size + 1 + 1 + 1 + 1) 0 _ _ _ HW5.out]; rfl
  have hc1 : w4.cell? ⟨(w.heap.size + 1 + 1 + 1 + 1), 1, none⟩ = some m1 := by rw [cell_of_row _ (w.heap.size + 1 + 1 + 1 + 1) 1 _ _ _ HW5.out]; rfl
  have hc2 : w4.cell? ⟨(w.heap.size + 1 + 1 + 1 + 1), 2, none⟩ = some m2 := by rw [cell_of_row _ (w.heap.size + 1 + 1 + 1 + 1) 2 _ _ _ HW5.out]; rfl
  have hc3 : w4.cell? ⟨(w.heap.size + 1 + 1 + 1 + 1), 3, none⟩ = some m3 := by rw [cell_of_row _ (w.heap.size + 1 + 1 + 1 + 1) 3 _ _ _ HW5.out]; rfl
  have hc4 : w4.cell? ⟨(w.heap.size + 1 + 1 + 1 + 1), 4, none⟩ = some m4 := by rw [cell_of_row _ (w.heap.size + 1 + 1 + 1 + 1) 4 _ _ _ HW5.out]; rfl
  have hc5 : w4.cell? ⟨(w.heap.size + 1 + 1 + 1 + 1), 5, none⟩ = some m5 := by rw [cell_of_row _ (w.heap.size + 1 + 1 + 1 + 1) 5 _ _ _ HW5.out]; rfl
  have hc6 : w4.cell? ⟨(w.heap.size + 1 + 1 + 1 + 1), 6, none⟩ = some m6 := by rw [cell_of_row _ (w.heap.size + 1 + 1 + 1 + 1) 6 _ _ _ HW5.out]; rfl
  have hc7 : w4.cell? ⟨(w.heap.size + 1 + 1 + 1 + 1), 7, none⟩ = some m7 := by rw [cell_of_row _ (w.heap.size + 1 + 1 + 1 + 1) 7 _ _ _ HW5.out]; rfl
  have hc8 : w4.cell? ⟨(w.heap.size + 1 + 1 + 1 + 1), 8, none⟩ = some m8 := by rw [cell_of_row _ (w.heap.size + 1 + 1 + 1 + 1) 8 _ _ _ HW5.out]; rfl
  have hc9 : w4.cell? ⟨(w.heap.size + 1 + 1 + 1 + 1), 9, none⟩ = some m9 := by rw [cell_of_row _ (w.heap.size + 1 + 1 + 1 + 1) 9 _ _ _ HW5.out]; rfl
  have hc10 : w4.cell? ⟨(w.heap.size + 1 + 1 + 1 + 1), 10, none⟩ = some m10 := by rw [cell_of_row _ (w.heap.size + 1 + 1 + 1 + 1) 10 _ _ _ HW5.out]; rfl
  have hc11 : w4.cell? ⟨(w.heap.size + 1 + 1 + 1 + 1), 11, none⟩ = some m11 := by rw [cell_of_row _ (w.heap.size + 1 + 1 + 1 + 1) 11 _ _ _ HW5.out]; rfl
  have hc12 : w4.cell? ⟨(w.heap.size + 1 + 1 + 1 + 1), 12, none⟩ = some m12 := by rw [cell_of_row _ (w.heap.size + 1 + 1 + 1 + 1) 12 _ _ _ HW5.out]; rfl
  have hc13 : w4.cell? ⟨(w.heap.size + 1 + 1 + 1 + 1), 13, none⟩ = some m13 := by rw [cell_of_row _ (w.heap.size + 1 + 1 + 1 + 1) 13 _ _ _ HW5.out]; rfl
  go_wp2_with fail
  refine (ownMsg_any (d := d5) (xs := [m0, m1, m2, m3, m4, m5, m6, m7, m8, m9, m10, m11, m12, m13]) _ HR5.out HS5.out).mono ?_
  rintro e u4 ⟨vo, rfl, hre, hbu⟩
  have hreo := msgK_ok.keep hre (S' := Old u4) (fun _ _ => rfl) (fun b hb => hb.2)
  have HRE := Lib.hid hreo
  replace HR1 := Lib.hid (commandK_ok.below HR1.out hbu)
  replace HW1 := Lib.hid ((hbu.block _ (row_lt HW1.out)).trans HW1.out)
  replace HR2 := Lib.hid (commandK_ok.below HR2.out hbu)
  replace HW2 := Lib.hid ((hbu.block _ (row_lt HW2.out)).trans HW2.out)
  replace HR3 := Lib.hid (replyK_ok.below HR3.out hbu)
  replace HW3 := Lib.hid ((hbu.block _ (row_lt HW3.out)).trans HW3.out)
  replace HR4 := Lib.hid (replyK_ok.below HR4.out hbu)
  replace HW4 := Lib.hid ((hbu.block _ (row_lt HW4.out)).trans HW4.out)
  replace HR5 := Lib.hid (msgK_ok.below HR5.out hbu)
  replace HW5 := Lib.hid ((hbu.block _ (row_lt HW5.out)).trans HW5.out)
  replace HR6 := Lib.hid (msgK_ok.below HR6.out hbu)
  replace HW6 := Lib.hid ((hbu.block _ (row_lt HW6.out)).trans HW6.out)
  replace HN1 := Lib.hid (ext HN1.out hbu)
  replace HN2 := Lib.hid (ext HN2.out hbu)
  replace HN3 := Lib.hid (ext HN3.out hbu)
  replace HN4 := Lib.hid (ext HN4.out hbu)
  replace HB := Lib.hid (ext HB.out hbu)
  have hvl := msgK_ok.len hreo
  have HVL := Lib.hid hvl
  clear hbu hre hreo hvl hc0 hc1 hc2 hc3 hc4 hc5 hc6 hc7 hc8 hc9 hc10 hc11 hc12 hc13
  go_wp2_with fail
  refine (msgMsg_any (xs := vo.toList) (d := d5) _ HVL.out HRE.out (fun _ => by have := HS5.out; omega)).mono ?_
  rintro e w5 hw
  have hb5 := hw.1
  obtain ⟨v5, e5, rfl, hw5⟩ := Writes.tell hw
  have HV5 := Lib.hid hw5
  replace HR1 := Lib.hid (commandK_ok.below HR1.out hb5)
  replace HW1 := Lib.hid ((hb5.block _ (row_lt HW1.out)).trans HW1.out)
  replace HR2 := Lib.hid (commandK_ok.below HR2.out hb5)
  replace HW2 := Lib.hid ((hb5.block _ (row_lt HW2.out)).trans HW2.out)
  replace HR3 := Lib.hid (replyK_ok.below HR3.out hb5)
  replace HW3 := Lib.hid ((hb5.block _ (row_lt HW3.out)).trans HW3.out)
  replace HR4 := Lib.hid (replyK_ok.below HR4.out hb5)
  replace HW4 := Lib.hid ((hb5.block _ (row_lt HW4.out)).trans HW4.out)
  replace HR5 := Lib.hid (msgK_ok.below HR5.out hb5)
  replace HW5 := Lib.hid ((hb5.block _ (row_lt HW5.out)).trans HW5.out)
  replace HR6 := Lib.hid (msgK_ok.below HR6.out hb5)
  replace HW6 := Lib.hid ((hb5.block _ (row_lt HW6.out)).trans HW6.out)
  replace HN1 := Lib.hid (ext HN1.out hb5)
  replace HN2 := Lib.hid (ext HN2.out hb5)
  replace HN3 := Lib.hid (ext HN3.out hb5)
  replace HN4 := Lib.hid (ext HN4.out hb5)
  replace HB := Lib.hid (ext HB.out hb5)
  have HN5 := Lib.hid (Below.refl w5.heap.size w5)
  clear hw hw5 hb5 HVL HRE
  have hc0 : w5.cell? ⟨(w.heap.size + 1 + 1 + 1 + 1 + 1), 0, none⟩ = some n0 := by rw [cell_of_row _ (w.heap.size + 1 + 1 + 1 + 1 + 1) 0 _ _ _ HW6.out]; rfl
  have hc1 : w5.cell? ⟨(w.heap.size + 1 + 1 + 1 + 1 + 1), 1, none⟩ = some n1 := by rw [cell_of_row _ (w.heap.size + 1 + 1 + 1 + 1 + 1) 1 _ _ _ HW6.out]; rfl
  have hc2 : w5.cell? ⟨(w.heap.size + 1 + 1 + 1 + 1 + 1), 2, none⟩ = some n2 := by rw [cell_of_row _ (w.heap.size + 1 + 1 + 1 + 1 + 1) 2 _ _ _ HW6.out]; rfl
  have hc3 : w5.cell? ⟨(w.heap.size + 1 + 1 + 1 + 1 + 1), 3, none⟩ = some n3 := by rw [cell_of_row _ (w.heap.size + 1 + 1 + 1 + 1 + 1) 3 _ _ _ HW6.out]; rfl
  have hc4 : w5.cell? ⟨(w.heap.size + 1 + 1 + 1 + 1 + 1), 4, none⟩ = some n4 := by rw [cell_of_row _ (w.heap.size + 1 + 1 + 1 + 1 + 1) 4 _ _ _ HW6.out]; rfl
  have hc5 : w5.cell? ⟨(w.heap.size + 1 + 1 + 1 + 1 + 1), 5, none⟩ = some n5 := by rw [cell_of_row _ (w.heap.size + 1 + 1 + 1 + 1 + 1) 5 _ _ _ HW6.out]; rfl
  have hc6 : w5.cell? ⟨(w.heap.size + 1 + 1 + 1 + 1 + 1), 6, none⟩ = some n6 := by rw [cell_of_row _ (w.heap.size + 1 + 1 + 1 + 1 + 1) 6 _ _ _ HW6.out]; rfl
  have hc7 : w5.cell? ⟨(w.heap.size + 1 + 1 + 1 + 1 + 1), 7, none⟩ = some n7 := by rw [cell_of_row _ (w.heap.size + 1 + 1 + 1 + 1 + 1) 7 _ _ _ HW6.out]; rfl
  have hc8 : w5.cell? ⟨(w.heap.size + 1 + 1 + 1 + 1 + 1), 8, none⟩ = some n8 := by rw [cell_of_row _ (w.heap.size + 1 + 1 + 1 + 1 + 1) 8 _ _ _ HW6.out]; rfl
  have hc9 : w5.cell? ⟨(w.heap.size + 1 + 1 + 1 + 1 + 1), 9, none⟩ = some n9 := by rw [cell_of_row _ (w.heap.size + 1 + 1 + 1 + 1 + 1) 9 _ _ _ HW6.out]; rfl
  have hc10 : w5.cell? ⟨(w.heap.size + 1 + 1 + 1 + 1 + 1), 10, none⟩ = some n10 := by rw [cell_of_row _ (w.heap.size + 1 + 1 + 1 + 1 + 1) 10 _ _ _ HW6.out]; rfl
  have hc11 : w5.cell? ⟨(w.heap.size + 1 + 1 + 1 + 1 + 1), 11, none⟩ = some n11 := by rw [cell_of_row _ (w.heap.size + 1 + 1 + 1 + 1 + 1) 11 _ _ _ HW6.out]; rfl
  have hc12 : w5.cell? ⟨(w.heap.size + 1 + 1 + 1 + 1 + 1), 12, none⟩ = some n12 := by rw [cell_of_row _ (w.heap.size + 1 + 1 + 1 + 1 + 1) 12 _ _ _ HW6.out]; rfl
  have hc13 : w5.cell? ⟨(w.heap.size + 1 + 1 + 1 + 1 + 1), 13, none⟩ = some n13 := by rw [cell_of_row _ (w.heap.size + 1 + 1 + 1 + 1 + 1) 13 _ _ _ HW6.out]; rfl
  go_wp2_with fail
  refine (ownMsg_any (d := d6) (xs := [n0, n1, n2, n3, n4, n5, n6, n7, n8, n9, n10, n11, n12, n13]) _ HR6.out HS6.out).mono ?_
  rintro e u5 ⟨vo, rfl, hre, hbu⟩
  have hreo := msgK_ok.keep hre (S' := Old u5) (fun _ _ => rfl) (fun b hb => hb.2)
  have HRE := Lib.hid hreo
  replace HR1 := Lib.hid (commandK_ok.below HR1.out hbu)
  replace HW1 := Lib.hid ((hbu.block _ (row_lt HW1.out)).trans HW1.out)
  replace HR2 := Lib.hid (commandK_ok.below HR2.out hbu)
  replace HW2 := Lib.hid ((hbu.block _ (row_lt HW2.out)).trans HW2.out)
  replace HR3 := Lib.hid (replyK_ok.below HR3.out hbu)
  replace HW3 := Lib.hid ((hbu.block _ (row_lt HW3.out)).trans HW3.out)
  replace HR4 := Lib.hid (replyK_ok.below HR4.out hbu)
  replace HW4 := Lib.hid ((hbu.block _ (row_lt HW4.out)).trans HW4.out)
  replace HR5 := Lib.hid (msgK_ok.below HR5.out hbu)
  replace HW5 := Lib.hid ((hbu.block _ (row_lt HW5.out)).trans HW5.out)
  replace HR6 := Lib.hid (msgK_ok.below HR6.out hbu)
  replace HW6 := Lib.hid ((hbu.block _ (row_lt HW6.out)).trans HW6.out)
  replace HN1 := Lib.hid (ext HN1.out hbu)
  replace HN2 := Lib.hid (ext HN2.out hbu)
  replace HN3 := Lib.hid (ext HN3.out hbu)
  replace HN4 := Lib.hid (ext HN4.out hbu)
  replace HN5 := Lib.hid (ext HN5.out hbu)
  replace HB := Lib.hid (ext HB.out hbu)
  have hvl := msgK_ok.len hreo
  have HVL := Lib.hid hvl
  clear hbu hre hreo hvl hc0 hc1 hc2 hc3 hc4 hc5 hc6 hc7 hc8 hc9 hc10 hc11 hc12 hc13
  go_wp2_with fail
  refine (msgMsg_any (xs := vo.toList) (d := d6) _ HVL.out HRE.out (fun _ => by have := HS6.out; omega)).mono ?_
  rintro e w6 hw
  have hb6 := hw.1
  obtain ⟨v6, e6, rfl, hw6⟩ := Writes.tell hw
  have HV6 := Lib.hid hw6
  replace HR1 := Lib.hid (commandK_ok.below HR1.out hb6)
  replace HW1 := Lib.hid ((hb6.block _ (row_lt HW1.out)).trans HW1.out)
  replace HR2 := Lib.hid (commandK_ok.below HR2.out hb6)
  replace HW2 := Lib.hid ((hb6.block _ (row_lt HW2.out)).trans HW2.out)
  replace HR3 := Lib.hid (replyK_ok.below HR3.out hb6)
  replace HW3 := Lib.hid ((hb6.block _ (row_lt HW3.out)).trans HW3.out)
  replace HR4 := Lib.hid (replyK_ok.below HR4.out hb6)
  replace HW4 := Lib.hid ((hb6.block _ (row_lt HW4.out)).trans HW4.out)
  replace HR5 := Lib.hid (msgK_ok.below HR5.out hb6)
  replace HW5 := Lib.hid ((hb6.block _ (row_lt HW5.out)).trans HW5.out)
  replace HR6 := Lib.hid (msgK_ok.below HR6.out hb6)
  replace HW6 := Lib.hid ((hb6.block _ (row_lt HW6.out)).trans HW6.out)
  replace HN1 := Lib.hid (ext HN1.out hb6)
  replace HN2 := Lib.hid (ext HN2.out hb6)
  replace HN3 := Lib.hid (ext HN3.out hb6)
  replace HN4 := Lib.hid (ext HN4.out hb6)
  replace HN5 := Lib.hid (ext HN5.out hb6)
  replace HB := Lib.hid (ext HB.out hb6)
  have HN6 := Lib.hid (Below.refl w6.heap.size w6)
  clear hw hw6 hb6 HVL HRE
  go_upto_region 7 with fail
  go_cut [77] (fun s wx => s = .bool false ∧ Below w6.heap.size w6 wx)
  case first =>
    rcases Writes.two HV1.out with ⟨g1, rfl, A1, q1, rfl, l1⟩ | ⟨g1, rfl, rfl⟩
    case inr =>
      clear g1
      refine wp_region_held_drew (S := fun w' => Below w6.heap.size w6 w') (by kernel_rfl) (Below.refl _ _).drew (fun hHeld => ?_)
      refine wpAnyH_ready (rs := [0]) (by kernel_rfl) (by simp) ?_
      refine AllReadyH.cons rfl (fun K hK => ?_) AllReadyH.nil
      go_simp
      go_wp2_with (go_at_call 18; refine (answers3_yes _).mono ?_; rintro e wq ⟨rfl, hbq⟩)
      refine hK.out _ _ (ext hHeld hbq) (fun hHeld2 => ?_)
      clear hK K
      refine take_at (i := 1) (d := some 58) (v := .bool false) rfl rfl (by kernel_rfl) (by kernel_rfl) (by kernel_rfl) (fun _ _ _ h => h) (Or.inl ⟨by rfl, by intro w hSw; first | (go_simp; done) | (go_simp; with_reducible rfl)⟩) hHeld2 ?_
      try simp only [Act.put, List.setIfInBounds_toArray, List.set_cons_zero, List.set_cons_succ]
      refine take_at (i := 2) (d := some 59) (v := .bool false) rfl rfl (by kernel_rfl) (by kernel_rfl) (by kernel_rfl) (fun _ _ _ h => h) (Or.inl ⟨by rfl, by intro w hSw; first | (go_simp; done) | (go_simp; with_reducible rfl)⟩) hHeld2 ?_
      try simp only [Act.put, List.setIfInBounds_toArray, List.set_cons_zero, List.set_cons_succ]
      refine take_at (i := 3) (d := some 60) (v := .int .i64 2) rfl rfl (by kernel_rfl) (by kernel_rfl) (by kernel_rfl) (fun _ _ _ h => h) (Or.inl ⟨by rfl, by intro w hSw; first | (go_simp; done) | (go_simp; with_reducible rfl)⟩) hHeld2 ?_
      try simp only [Act.put, List.setIfInBounds_toArray, List.set_cons_zero, List.set_cons_succ]
      refine take_at (i := 4) (d := some 61) (v := .bool false) rfl rfl (by kernel_rfl) (by kernel_rfl) (by kernel_rfl) (fun _ _ _ h => h) (Or.inl ⟨by rfl, by intro w hSw; first | (go_simp; done) | (go_simp; with_reducible rfl)⟩) hHeld2 ?_
      try simp only [Act.put, List.setIfInBounds_toArray, List.set_cons_zero, List.set_cons_succ]
      refine take_at (i := 5) (d := some 62) (v := .bool false) rfl rfl (by kernel_rfl) (by kernel_rfl) (by kernel_rfl) (fun _ _ _ h => h) (Or.inl ⟨by rfl, by intro w hSw; first | (go_simp; done) | (go_simp; with_reducible rfl)⟩) hHeld2 ?_
      try simp only [Act.put, List.setIfInBounds_toArray, List.set_cons_zero, List.set_cons_succ]
      refine take_at (i := 6) (d := some 63) (v := undef) rfl rfl (by kernel_rfl) (by kernel_rfl) (by kernel_rfl) (fun _ _ _ h => h) (Or.inr ⟨by rfl, rfl⟩) hHeld2 ?_
      try simp only [Act.put, List.setIfInBounds_toArray, List.set_cons_zero, List.set_cons_succ]
      refine take_at (i := 7) (d := some 64) (v := undef) rfl rfl (by kernel_rfl) (by kernel_rfl) (by kernel_rfl) (fun _ _ _ h => h) (Or.inr ⟨by rfl, rfl⟩) hHeld2 ?_
      try simp only [Act.put, List.setIfInBounds_toArray, List.set_cons_zero, List.set_cons_succ]
      refine take_at (i := 8) (d := some 65) (v := .bool false) rfl rfl (by kernel_rfl) (by kernel_rfl) (by kernel_rfl) (fun _ _ _ h => h) (Or.inl ⟨by rfl, by intro w hSw; first | (go_simp; done) | (go_simp; with_reducible rfl)⟩) hHeld2 ?_
      try simp only [Act.put, List.setIfInBounds_toArray, List.set_cons_zero, List.set_cons_succ]
      refine take_at (i := 9) (d := some 66) (v := .bool false) rfl rfl (by kernel_rfl) (by kernel_rfl) (by kernel_rfl) (fun _ _ _ h => h) (Or.inl ⟨by rfl, by intro w hSw; first | (go_simp; done) | (go_simp; with_reducible rfl)⟩) hHeld2 ?_
      try simp only [Act.put, List.setIfInBounds_toArray, List.set_cons_zero, List.set_cons_succ]
      refine take_at (i := 10) (d := some 67) (v := undef) rfl rfl (by kernel_rfl) (by kernel_rfl) (by kernel_rfl) (fun _ _ _ h => h) (Or.inr ⟨by rfl, rfl⟩) hHeld2 ?_
      try simp only [Act.put, List.setIfInBounds_toArray, List.set_cons_zero, List.set_cons_succ]
      refine take_at (i := 11) (d := some 68) (v := undef) rfl rfl (by kernel_rfl) (by kernel_rfl) (by kernel_rfl) (fun _ _ _ h => h) (Or.inr ⟨by rfl, rfl⟩) hHeld2 ?_
      try simp only [Act.put, List.setIfInBounds_toArray, List.set_cons_zero, List.set_cons_succ]
      refine take_at (i := 12) (d := some 69) (v := undef) rfl rfl (by kernel_rfl) (by kernel_rfl) (by kernel_rfl) (fun _ _ _ h => h) (Or.inr ⟨by rfl, rfl⟩) hHeld2 ?_
      try simp only [Act.put, List.setIfInBounds_toArray, List.set_cons_zero, List.set_cons_succ]
      refine take_at (i := 13) (d := some 70) (v := undef) rfl rfl (by kernel_rfl) (by kernel_rfl) (by kernel_rfl) (fun _ _ _ h => h) (Or.inr ⟨by rfl, rfl⟩) hHeld2 ?_
      try simp only [Act.put, List.setIfInBounds_toArray, List.set_cons_zero, List.set_cons_succ]
      refine take_at (i := 14) (d := some 71) (v := undef) rfl rfl (by kernel_rfl) (by kernel_rfl) (by kernel_rfl) (fun _ _ _ h => h) (Or.inr ⟨by rfl, rfl⟩) hHeld2 ?_
      try simp only [Act.put, List.setIfInBounds_toArray, List.set_cons_zero, List.set_cons_succ]
      refine take_at (i := 15) (d := some 72) (v := undef) rfl rfl (by kernel_rfl) (by kernel_rfl) (by kernel_rfl) (fun _ _ _ h => h) (Or.inr ⟨by rfl, rfl⟩) hHeld2 ?_
      try simp only [Act.put, List.setIfInBounds_toArray, List.set_cons_zero, List.set_cons_succ]
      refine take_at (i := 16) (d := some 73) (v := undef) rfl rfl (by kernel_rfl) (by kernel_rfl) (by kernel_rfl) (fun _ _ _ h => h) (Or.inr ⟨by rfl, rfl⟩) hHeld2 ?_
      try simp only [Act.put, List.setIfInBounds_toArray, List.set_cons_zero, List.set_cons_succ]
      refine take_at (i := 17) (d := some 74) (v := undef) rfl rfl (by kernel_rfl) (by kernel_rfl) (by kernel_rfl) (fun _ _ _ h => h) (Or.inr ⟨by rfl, rfl⟩) hHeld2 ?_
      try simp only [Act.put, List.setIfInBounds_toArray, List.set_cons_zero, List.set_cons_succ]
      refine take_at (i := 18) (d := some 75) (v := undef) rfl rfl (by kernel_rfl) (by kernel_rfl) (by kernel_rfl) (fun _ _ _ h => h) (Or.inr ⟨by rfl, rfl⟩) hHeld2 ?_
      try simp only [Act.put, List.setIfInBounds_toArray, List.set_cons_zero, List.set_cons_succ]
      refine take_at (i := 19) (d := some 76) (v := .bool false) rfl rfl (by kernel_rfl) (by kernel_rfl) (by kernel_rfl) (fun _ _ _ h => h) (Or.inl ⟨by rfl, by intro w hSw; first | (go_simp; done) | (go_simp; with_reducible rfl)⟩) hHeld2 ?_
      try simp only [Act.put, List.setIfInBounds_toArray, List.set_cons_zero, List.set_cons_succ]
      refine take_at (i := 20) (d := some 77) (v := .bool false) rfl rfl (by kernel_rfl) (by kernel_rfl) (by kernel_rfl) (fun _ _ _ h => h) (Or.inl ⟨by rfl, by intro w hSw; first | (go_simp; done) | (go_simp; with_reducible rfl)⟩) hHeld2 ?_
      try simp only [Act.put, List.setIfInBounds_toArray, List.set_cons_zero, List.set_cons_succ]
      refine wpAnyH_done (by kernel_rfl) ?_ _
      go_wp2_with fail
      go_meet
      exact ⟨rfl, hHeld2⟩
    rcases Writes.two HV2.out with ⟨g2, rfl, A2, q2, rfl, l2⟩ | ⟨g2, rfl, rfl⟩
    case inr =>
      clear g1 g2 l1
      refine wp_region_held_drew (S := fun w' => Below w6.heap.size w6 w') (by kernel_rfl) (Below.refl _ _).drew (fun hHeld => ?_)
      refine wpAnyH_ready (rs := [0]) (by kernel_rfl) (by simp) ?_
      refine AllReadyH.cons rfl (fun K hK => ?_) AllReadyH.nil
      go_simp
      go_wp2_with (go_at_call 18; refine (answers3_yes _).mono ?_; rintro e wq ⟨rfl, hbq⟩)
      refine hK.out _ _ (ext hHeld hbq) (fun hHeld2 => ?_)
      clear hK K
      refine take_at (i := 1) (d := some 58) (v := .bool false) rfl rfl (by kernel_rfl) (by kernel_rfl) (by kernel_rfl) (fun _ _ _ h => h) (Or.inl ⟨by rfl, by intro w hSw; first | (go_simp; done) | (go_simp; with_reducible rfl)⟩) hHeld2 ?_
      try simp only [Act.put, List.setIfInBounds_toArray, List.set_cons_zero, List.set_cons_succ]
      refine take_at (i := 2) (d := some 59) (v := .bool false) rfl rfl (by kernel_rfl) (by kernel_rfl) (by kernel_rfl) (fun _ _ _ h => h) (Or.inl ⟨by rfl, by intro w hSw; first | (go_simp; done) | (go_simp; with_reducible rfl)⟩) hHeld2 ?_
      try simp only [Act.put, List.setIfInBounds_toArray, List.set_cons_zero, List.set_cons_succ]
      refine take_at (i := 3) (d := some 60) (v := .int .i64 0) rfl rfl (by kernel_rfl) (by kernel_rfl) (by kernel_rfl) (fun _ _ _ h => h) (Or.inl ⟨by rfl, by intro w hSw; first | (go_simp; done) | (go_simp; with_reducible rfl)⟩) hHeld2 ?_
      try simp only [Act.put, List.setIfInBounds_toArray, List.set_cons_zero, List.set_cons_succ]
      refine take_at (i := 4) (d := some 61) (v := .bool true) rfl rfl (by kernel_rfl) (by kernel_rfl) (by kernel_rfl) (fun _ _ _ h => h) (Or.inl ⟨by rfl, by intro w hSw; first | (go_simp; done) | (go_simp; with_reducible rfl)⟩) hHeld2 ?_
      try simp only [Act.put, List.setIfInBounds_toArray, List.set_cons_zero, List.set_cons_succ]
      refine take_at (i := 5) (d := some 62) (v := .bool true) rfl rfl (by kernel_rfl) (by kernel_rfl) (by kernel_rfl) (fun _ _ _ h => h) (Or.inl ⟨by rfl, by intro w hSw; first | (go_simp; done) | (go_simp; with_reducible rfl)⟩) hHeld2 ?_
      try simp only [Act.put, List.setIfInBounds_toArray, List.set_cons_zero, List.set_cons_succ]
      refine take_at (i := 6) (d := some 63) (v := .int .i64 2) rfl rfl (by kernel_rfl) (by kernel_rfl) (by kernel_rfl) (fun _ _ _ h => h) (Or.inl ⟨by rfl, by intro w hSw; first | (go_simp; done) | (go_simp; with_reducible rfl)⟩) hHeld2 ?_
      try simp only [Act.put, List.setIfInBounds_toArray, List.set_cons_zero, List.set_cons_succ]
      refine take_at (i := 7) (d := some 64) (v := .bool false) rfl rfl (by kernel_rfl) (by kernel_rfl) (by kernel_rfl) (fun _ _ _ h => h) (Or.inl ⟨by rfl, by intro w hSw; first | (go_simp; done) | (go_simp; with_reducible rfl)⟩) hHeld2 ?_
      try simp only [Act.put, List.setIfInBounds_toArray, List.set_cons_zero, List.set_cons_succ]
      refine take_at (i := 8) (d := some 65) (v := .bool false) rfl rfl (by kernel_rfl) (by kernel_rfl) (by kernel_rfl) (fun _ _ _ h => h) (Or.inl ⟨by rfl, by intro w hSw; first | (go_simp; done) | (go_simp; with_reducible rfl)⟩) hHeld2 ?_
      try simp only [Act.put, List.setIfInBounds_toArray, List.set_cons_zero, List.set_cons_succ]
      refine take_at (i := 9) (d := some 66) (v := .bool false) rfl rfl (by kernel_rfl) (by kernel_rfl) (by kernel_rfl) (fun _ _ _ h => h) (Or.inl ⟨by rfl, by intro w hSw; first | (go_simp; done) | (go_simp; with_reducible rfl)⟩) hHeld2 ?_
      try simp only [Act.put, List.setIfInBounds_toArray, List.set_cons_zero, List.set_cons_succ]
      refine take_at (i := 10) (d := some 67) (v := undef) rfl rfl (by kernel_rfl) (by kernel_rfl) (by kernel_rfl) (fun _ _ _ h => h) (Or.inr ⟨by rfl, rfl⟩) hHeld2 ?_
      try simp only [Act.put, List.setIfInBounds_toArray, List.set_cons_zero, List.set_cons_succ]
      refine take_at (i := 11) (d := some 68) (v := undef) rfl rfl (by kernel_rfl) (by kernel_rfl) (by kernel_rfl) (fun _ _ _ h => h) (Or.inr ⟨by rfl, rfl⟩) hHeld2 ?_
      try simp only [Act.put, List.setIfInBounds_toArray, List.set_cons_zero, List.set_cons_succ]
      refine take_at (i := 12) (d := some 69) (v := undef) rfl rfl (by kernel_rfl) (by kernel_rfl) (by kernel_rfl) (fun _ _ _ h => h) (Or.inr ⟨by rfl, rfl⟩) hHeld2 ?_
      try simp only [Act.put, List.setIfInBounds_toArray, List.set_cons_zero, List.set_cons_succ]
      refine take_at (i := 13) (d := some 70) (v := undef) rfl rfl (by kernel_rfl) (by kernel_rfl) (by kernel_rfl) (fun _ _ _ h => h) (Or.inr ⟨by rfl, rfl⟩) hHeld2 ?_
      try simp only [Act.put, List.setIfInBounds_toArray, List.set_cons_zero, List.set_cons_succ]
      refine take_at (i := 14) (d := some 71) (v := undef) rfl rfl (by kernel_rfl) (by kernel_rfl) (by kernel_rfl) (fun _ _ _ h => h) (Or.inr ⟨by rfl, rfl⟩) hHeld2 ?_
      try simp only [Act.put, List.setIfInBounds_toArray, List.set_cons_zero, List.set_cons_succ]
      refine take_at (i := 15) (d := some 72) (v := undef) rfl rfl (by kernel_rfl) (by kernel_rfl) (by kernel_rfl) (fun _ _ _ h => h) (Or.inr ⟨by rfl, rfl⟩) hHeld2 ?_
      try simp only [Act.put, List.setIfInBounds_toArray, List.set_cons_zero, List.set_cons_succ]
      refine take_at (i := 16) (d := some 73) (v := undef) rfl rfl (by kernel_rfl) (by kernel_rfl) (by kernel_rfl) (fun _ _ _ h => h) (Or.inr ⟨by rfl, rfl⟩) hHeld2 ?_
      try simp only [Act.put, List.setIfInBounds_toArray, List.set_cons_zero, List.set_cons_succ]
      refine take_at (i := 17) (d := some 74) (v := undef) rfl rfl (by kernel_rfl) (by kernel_rfl) (by kernel_rfl) (fun _ _ _ h => h) (Or.inr ⟨by rfl, rfl⟩) hHeld2 ?_
      try simp only [Act.put, List.setIfInBounds_toArray, List.set_cons_zero, List.set_cons_succ]
      refine take_at (i := 18) (d := some 75) (v := undef) rfl rfl (by kernel_rfl) (by kernel_rfl) (by kernel_rfl) (fun _ _ _ h => h) (Or.inr ⟨by rfl, rfl⟩) hHeld2 ?_
      try simp only [Act.put, List.setIfInBounds_toArray, List.set_cons_zero, List.set_cons_succ]
      refine take_at (i := 19) (d := some 76) (v := .bool false) rfl rfl (by kernel_rfl) (by kernel_rfl) (by kernel_rfl) (fun _ _ _ h => h) (Or.inl ⟨by rfl, by intro w hSw; first | (go_simp; done) | (go_simp; with_reducible rfl)⟩) hHeld2 ?_
      try simp only [Act.put, List.setIfInBounds_toArray, List.set_cons_zero, List.set_cons_succ]
      refine take_at (i := 20) (d := some 77) (v := .bool false) rfl rfl (by kernel_rfl) (by kernel_rfl) (by kernel_rfl) (fun _ _ _ h => h) (Or.inl ⟨by rfl, by intro w hSw; first | (go_simp; done) | (go_simp; with_reducible rfl)⟩) hHeld2 ?_
      try simp only [Act.put, List.setIfInBounds_toArray, List.set_cons_zero, List.set_cons_succ]
      refine wpAnyH_done (by kernel_rfl) ?_ _
      go_wp2_with fail
      go_meet
      exact ⟨rfl, hHeld2⟩
    have HF1 := Lib.hid (sure_command HR1.out g1)
    have HF2 := Lib.hid (sure_command HR2.out g2)
    have t1 : ∀ w', Below w6.heap.size w6 w' → (convert 23 9 (.slice A1 (commandK.put (cmdD se sq op ke am sp le)).length q1)).run Tryz.prog w' = .ok (.string (str (commandK.put (cmdD se sq op ke am sp le)))) w' := fun w' h => run_text w' q1 rfl (lext l1 (ext HN1.out h))
    have t2 : ∀ w', Below w6.heap.size w6 w' → (convert 23 9 (.slice A2 (commandK.put (cmdD se2 sq2 op2 ke2 am2 sp2 le2)).length q2)).run Tryz.prog w' = .ok (.string (str (commandK.put (cmdD se2 sq2 op2 ke2 am2 sp2 le2)))) w' := fun w' h => run_text w' q2 rfl (lext l2 (ext HN2.out h))
    have ca0 : ∀ w', Below w6.heap.size w6 w' → w'.cell? ⟨w.heap.size, 0, none⟩ = some (.int .u64 (se : Int)) := fun w' h => by rw [cell_of_row w' w.heap.size 0 _ _ _ ((h.block _ (row_lt HW1.out)).trans HW1.out)]; rfl
    have ca1 : ∀ w', Below w6.heap.size w6 w' → w'.cell? ⟨w.heap.size, 1, none⟩ = some (.int .u64 (sq : Int)) := fun w' h => by rw [cell_of_row w' w.heap.size 1 _ _ _ ((h.block _ (row_lt HW1.out)).trans HW1.out)]; rfl
    have ca2 : ∀ w', Below w6.heap.size w6 w' → w'.cell? ⟨w.heap.size, 2, none⟩ = some (.int .i64 op) := fun w' h => by rw [cell_of_row w' w.heap.size 2 _ _ _ ((h.block _ (row_lt HW1.out)).trans HW1.out)]; rfl
    have ca3 : ∀ w', Below w6.heap.size w6 w' → w'.cell? ⟨w.heap.size, 3, none⟩ = some (.string (str ke)) := fun w' h => by rw [cell_of_row w' w.heap.size 3 _ _ _ ((h.block _ (row_lt HW1.out)).trans HW1.out)]; rfl
    have ca4 : ∀ w', Below w6.heap.size w6 w' → w'.cell? ⟨w.heap.size, 4, none⟩ = some (.int .i64 am) := fun w' h => by rw [cell_of_row w' w.heap.size 4 _ _ _ ((h.block _ (row_lt HW1.out)).trans HW1.out)]; rfl
    have ca5 : ∀ w', Below w6.heap.size w6 w' → w'.cell? ⟨w.heap.size, 5, none⟩ = some (.int .i64 sp) := fun w' h => by rw [cell_of_row w' w.heap.size 5 _ _ _ ((h.block _ (row_lt HW1.out)).trans HW1.out)]; rfl
    have ca6 : ∀ w', Below w6.heap.size w6 w' → w'.cell? ⟨w.heap.size, 6, none⟩ = some (.int .u64 (le : Int)) := fun w' h => by rw [cell_of_row w' w.heap.size 6 _ _ _ ((h.block _ (row_lt HW1.out)).trans HW1.out)]; rfl
    have cb0 : ∀ w', Below w6.heap.size w6 w' → w'.cell? ⟨(w.heap.size + 1), 0, none⟩ = some (.int .u64 (se2 : Int)) := fun w' h => by rw [cell_of_row w' (w.heap.size + 1) 0 _ _ _ ((h.block _ (row_lt HW2.out)).trans HW2.out)]; rfl
    have cb1 : ∀ w', Below w6.heap.size w6 w' → w'.cell? ⟨(w.heap.size + 1), 1, none⟩ = some (.int .u64 (sq2 : Int)) := fun w' h => by rw [cell_of_row w' (w.heap.size + 1) 1 _ _ _ ((h.block _ (row_lt HW2.out)).trans HW2.out)]; rfl
    have cb2 : ∀ w', Below w6.heap.size w6 w' → w'.cell? ⟨(w.heap.size + 1), 2, none⟩ = some (.int .i64 op2) := fun w' h => by rw [cell_of_row w' (w.heap.size + 1) 2 _ _ _ ((h.block _ (row_lt HW2.out)).trans HW2.out)]; rfl
    have cb3 : ∀ w', Below w6.heap.size w6 w' → w'.cell? ⟨(w.heap.size + 1), 3, none⟩ = some (.string (str ke2)) := fun w' h => by rw [cell_of_row w' (w.heap.size + 1) 3 _ _ _ ((h.block _ (row_lt HW2.out)).trans HW2.out)]; rfl
    have cb4 : ∀ w', Below w6.heap.size w6 w' → w'.cell? ⟨(w.heap.size + 1), 4, none⟩ = some (.int .i64 am2) := fun w' h => by rw [cell_of_row w' (w.heap.size + 1) 4 _ _ _ ((h.block _ (row_lt HW2.out)).trans HW2.out)]; rfl
    have cb5 : ∀ w', Below w6.heap.size w6 w' → w'.cell? ⟨(w.heap.size + 1), 5, none⟩ = some (.int .i64 sp2) := fun w' h => by rw [cell_of_row w' (w.heap.size + 1) 5 _ _ _ ((h.block _ (row_lt HW2.out)).trans HW2.out)]; rfl
    have cb6 : ∀ w', Below w6.heap.size w6 w' → w'.cell? ⟨(w.heap.size + 1), 6, none⟩ = some (.int .u64 (le2 : Int)) := fun w' h => by rw [cell_of_row w' (w.heap.size + 1) 6 _ _ _ ((h.block _ (row_lt HW2.out)).trans HW2.out)]; rfl
    clear l1 l2 g1 g2
    by_cases u0 : se = se2
    case neg =>
      have x1 : ¬ ((se : Int) = (se2 : Int)) := by omega
      have hne : (cmdD se sq op ke am sp le) ≠ (cmdD se2 sq2 op2 ke2 am2 sp2 le2) := by
        intro e
        simp only [cmdD, Data.agg.injEq, List.cons.injEq, Data.lit.injEq, Lit.int.injEq, Lit.string.injEq, and_true, true_and] at e
        first | omega | exact u0 e.1 | exact u0 e | exact u0 e.2.1
      have t3 := commandK_laws.ne HF1.out HF2.out hne
      clear hne HF1 HF2 u0
      go_region_held (fun w' => Below w6.heap.size w6 w')
        (first
        | assumption
        | exact (Below.refl _ _).drew
        | exact ext (by assumption) hb)
        ((go_at_call 18; refine (answers3_yes _).mono ?_; rintro e w' ⟨rfl, hb⟩))
      go_wp2_with fail
      go_meet
      exact ⟨rfl, by assumption⟩
    subst u0
    by_cases u1 : sq = sq2
    case neg =>
      have x1 : ¬ ((sq : Int) = (sq2 : Int)) := by omega
      have hne : (cmdD se sq op ke am sp le) ≠ (cmdD se sq2 op2 ke2 am2 sp2 le2) := by
        intro e
        simp only [cmdD, Data.agg.injEq, List.cons.injEq, Data.lit.injEq, Lit.int.injEq, Lit.string.injEq, and_true, true_and] at e
        first | omega | exact u1 e.1 | exact u1 e | exact u1 e.2.1
      have t3 := commandK_laws.ne HF1.out HF2.out hne
      clear hne HF1 HF2 u1
      go_region_held (fun w' => Below w6.heap.size w6 w')
        (first
        | assumption
        | exact (Below.refl _ _).drew
        | exact ext (by assumption) hb)
        ((go_at_call 18; refine (answers3_yes _).mono ?_; rintro e w' ⟨rfl, hb⟩))
      go_wp2_with fail
      go_meet
      exact ⟨rfl, by assumption⟩
    subst u1
    by_cases u2 : op = op2
    case neg =>
      have hne : (cmdD se sq op ke am sp le) ≠ (cmdD se sq op2 ke2 am2 sp2 le2) := by
        intro e
        simp only [cmdD, Data.agg.injEq, List.cons.injEq, Data.lit.injEq, Lit.int.injEq, Lit.string.injEq, and_true, true_and] at e
        first | omega | exact u2 e.1 | exact u2 e | exact u2 e.2.1
      have t3 := commandK_laws.ne HF1.out HF2.out hne
      clear hne HF1 HF2
      go_region_held (fun w' => Below w6.heap.size w6 w')
        (first
        | assumption
        | exact (Below.refl _ _).drew
        | exact ext (by assumption) hb)
        ((go_at_call 18; refine (answers3_yes _).mono ?_; rintro e w' ⟨rfl, hb⟩))
      go_wp2_with fail
      go_meet
      exact ⟨rfl, by assumption⟩
    subst u2
    by_cases u3 : ke = ke2
    case neg =>
      have x1 := str_ne u3
      have hne : (cmdD se sq op ke am sp le) ≠ (cmdD se sq op ke2 am2 sp2 le2) := by
        intro e
        simp only [cmdD, Data.agg.injEq, List.cons.injEq, Data.lit.injEq, Lit.int.injEq, Lit.string.injEq, and_true, true_and] at e
        first | omega | exact u3 e.1 | exact u3 e | exact u3 e.2.1
      have t3 := commandK_laws.ne HF1.out HF2.out hne
      clear hne HF1 HF2 u3
      go_region_held (fun w' => Below w6.heap.size w6 w')
        (first
        | assumption
        | exact (Below.refl _ _).drew
        | exact ext (by assumption) hb)
        ((go_at_call 18; refine (answers3_yes _).mono ?_; rintro e w' ⟨rfl, hb⟩))
      go_wp2_with fail
      go_meet
      exact ⟨rfl, by assumption⟩
    subst u3
    by_cases u4 : am = am2
    case neg =>
      have hne : (cmdD se sq op ke am sp le) ≠ (cmdD se sq op ke am2 sp2 le2) := by
        intro e
        simp only [cmdD, Data.agg.injEq, List.cons.injEq, Data.lit.injEq, Lit.int.injEq, and_true, true_and] at e
        first | omega | exact u4 e.1 | exact u4 e | exact u4 e.2.1
      have t3 := commandK_laws.ne HF1.out HF2.out hne
      clear hne HF1 HF2
      go_region_held (fun w' => Below w6.heap.size w6 w')
        (first
        | assumption
        | exact (Below.refl _ _).drew
        | exact ext (by assumption) hb)
        ((go_at_call 18; refine (answers3_yes _).mono ?_; rintro e w' ⟨rfl, hb⟩))
      go_wp2_with fail
      go_meet
      exact ⟨rfl, by assumption⟩
    subst u4
    by_cases u5 : sp = sp2
    case neg =>
      have hne : (cmdD se sq op ke am sp le) ≠ (cmdD se sq op ke am sp2 le2) := by
        intro e
        simp only [cmdD, Data.agg.injEq, List.cons.injEq, Data.lit.injEq, Lit.int.injEq, and_true, true_and] at e
        first | omega | exact u5 e.1 | exact u5 e | exact u5 e.2.1
      have t3 := commandK_laws.ne HF1.out HF2.out hne
      clear hne HF1 HF2
      go_region_held (fun w' => Below w6.heap.size w6 w')
        (first
        | assumption
        | exact (Below.refl _ _).drew
        | exact ext (by assumption) hb)
        ((go_at_call 18; refine (answers3_yes _).mono ?_; rintro e w' ⟨rfl, hb⟩))
      go_wp2_with fail
      go_meet
      exact ⟨rfl, by assumption⟩
    subst u5
    by_cases u6 : le = le2
    case neg =>
      have x1 : ¬ ((le : Int) = (le2 : Int)) := by omega
      have hne : (cmdD se sq op ke am sp le) ≠ (cmdD se sq op ke am sp le2) := by
        intro e
        simp only [cmdD, Data.agg.injEq, List.cons.injEq, Data.lit.injEq, Lit.int.injEq, and_true, true_and] at e
        first | omega | exact u6 e.1 | exact u6 e | exact u6 e.2.1
      have t3 := commandK_laws.ne HF1.out HF2.out hne
      clear hne HF1 HF2 u6
      go_region_held (fun w' => Below w6.heap.size w6 w')
        (first
        | assumption
        | exact (Below.refl _ _).drew
        | exact ext (by assumption) hb)
        ((go_at_call 18; refine (answers3_yes _).mono ?_; rintro e w' ⟨rfl, hb⟩))
      go_wp2_with fail
      go_meet
      exact ⟨rfl, by assumption⟩
    subst u6
    have t3 := Kd.Laws.eq (k := commandK) (cmdD se sq op ke am sp le)
    clear HF1 HF2
    go_region_held (fun w' => Below w6.heap.size w6 w')
      (first
        | assumption
        | exact (Below.refl _ _).drew
        | exact ext (by assumption) hb)
      ((go_at_call 18; refine (answers3_yes _).mono ?_; rintro e w' ⟨rfl, hb⟩))
    go_wp2_with fail
    go_meet
    exact ⟨rfl, by assumption⟩
  case rest =>
    obtain ⟨rfl, hb⟩ := hcut
    replace HR1 := Lib.hid (commandK_ok.below HR1.out hb)
    replace HW1 := Lib.hid ((hb.block _ (row_lt HW1.out)).trans HW1.out)
    replace HR2 := Lib.hid (commandK_ok.below HR2.out hb)
    replace HW2 := Lib.hid ((hb.block _ (row_lt HW2.out)).trans HW2.out)
    replace HR3 := Lib.hid (replyK_ok.below HR3.out hb)
    replace HW3 := Lib.hid ((hb.block _ (row_lt HW3.out)).trans HW3.out)
    replace HR4 := Lib.hid (replyK_ok.below HR4.out hb)
    replace HW4 := Lib.hid ((hb.block _ (row_lt HW4.out)).trans HW4.out)
    replace HR5 := Lib.hid (msgK_ok.below HR5.out hb)
    replace HW5 := Lib.hid ((hb.block _ (row_lt HW5.out)).trans HW5.out)
    replace HR6 := Lib.hid (msgK_ok.below HR6.out hb)
    replace HW6 := Lib.hid ((hb.block _ (row_lt HW6.out)).trans HW6.out)
    replace HN1 := Lib.hid (ext HN1.out hb)
    replace HN2 := Lib.hid (ext HN2.out hb)
    replace HN3 := Lib.hid (ext HN3.out hb)
    replace HN4 := Lib.hid (ext HN4.out hb)
    replace HN5 := Lib.hid (ext HN5.out hb)
    replace HN6 := Lib.hid (ext HN6.out hb)
    replace HB := Lib.hid (ext HB.out hb)
    clear hb
    go_upto_region 9 with fail
    go_cut [94] (fun s wx => s = .bool false ∧ Below wc.heap.size wc wx)
    case first =>
      rcases Writes.two HV3.out with ⟨g1, rfl, A1, q1, rfl, l1⟩ | ⟨g1, rfl, rfl⟩
      case inr =>
        clear g1
        go_quiet (fail)
        all_goals
          go_wp2_with fail
          go_meet
          exact ⟨rfl, below_drewN (Below.refl _ _) _⟩
      rcases Writes.two HV4.out with ⟨g2, rfl, A2, q2, rfl, l2⟩ | ⟨g2, rfl, rfl⟩
      case inr =>
        clear g1 g2 l1
        go_quiet (fail)
        all_goals
          go_wp2_with fail
          go_meet
          exact ⟨rfl, below_drewN (Below.refl _ _) _⟩
      have HF1 := Lib.hid (sure_reply HR3.out g1)
      have HF2 := Lib.hid (sure_reply HR4.out g2)
      have t1 : ∀ w', Below wc.heap.size wc w' → (convert 23 9 (.slice A1 (replyK.put (repD re rq er lz rm un)).length q1)).run Tryz.prog w' = .ok (.string (str (replyK.put (repD re rq er lz rm un)))) w' := fun w' h => run_text w' q1 rfl (lext l1 (ext HN3.out h))
      have t2 : ∀ w', Below wc.heap.size wc w' → (convert 23 9 (.slice A2 (replyK.put (repD re2 rq2 er2 lz2 rm2 un2)).length q2)).run Tryz.prog w' = .ok (.string (str (replyK.put (repD re2 rq2 er2 lz2 rm2 un2)))) w' := fun w' h => run_text w' q2 rfl (lext l2 (ext HN4.out h))
      have ca0 : ∀ w', Below wc.heap.size wc w' → w'.cell? ⟨(w.heap.size + 1 + 1), 0, none⟩ = some (.int .u64 (re : Int)) := fun w' h => by rw [cell_of_row w' (w.heap.size + 1 + 1) 0 _ _ _ ((h.block _ (row_lt HW3.out)).trans HW3.out)]; rfl
      have ca1 : ∀ w', Below wc.heap.size wc w' → w'.cell? ⟨(w.heap.size + 1 + 1), 1, none⟩ = some (.int .u64 (rq : Int)) := fun w' h => by rw [cell_of_row w' (w.heap.size + 1 + 1) 1 _ _ _ ((h.block _ (row_lt HW3.out)).trans HW3.out)]; rfl
      have ca2 : ∀ w', Below wc.heap.size wc w' → w'.cell? ⟨(w.heap.size + 1 + 1), 2, none⟩ = some (.int .i64 er) := fun w' h => by rw [cell_of_row w' (w.heap.size + 1 + 1) 2 _ _ _ ((h.block _ (row_lt HW3.out)).trans HW3.out)]; rfl
      have ca3 : ∀ w', Below wc.heap.size wc w' → w'.cell? ⟨(w.heap.size + 1 + 1), 3, none⟩ = some (.int .u64 (lz : Int)) := fun w' h => by rw [cell_of_row w' (w.heap.size + 1 + 1) 3 _ _ _ ((h.block _ (row_lt HW3.out)).trans HW3.out)]; rfl
      have ca4 : ∀ w', Below wc.heap.size wc w' → w'.cell? ⟨(w.heap.size + 1 + 1), 4, none⟩ = some (.int .i64 rm) := fun w' h => by rw [cell_of_row w' (w.heap.size + 1 + 1) 4 _ _ _ ((h.block _ (row_lt HW3.out)).trans HW3.out)]; rfl
      have ca5 : ∀ w', Below wc.heap.size wc w' → w'.cell? ⟨(w.heap.size + 1 + 1), 5, none⟩ = some (.int .i64 un) := fun w' h => by rw [cell_of_row w' (w.heap.size + 1 + 1) 5 _ _ _ ((h.block _ (row_lt HW3.out)).trans HW3.out)]; rfl
      have cb0 : ∀ w', Below wc.heap.size wc w' → w'.cell? ⟨(w.heap.size + 1 + 1 + 1), 0, none⟩ = some (.int .u64 (re2 : Int)) := fun w' h => by rw [cell_of_row w' (w.heap.size + 1 + 1 + 1) 0 _ _ _ ((h.block _ (row_lt HW4.out)).trans HW4.out)]; rfl
      have cb1 : ∀ w', Below wc.heap.size wc w' → w'.cell? ⟨(w.heap.size + 1 + 1 + 1), 1, none⟩ = some (.int .u64 (rq2 : Int)) := fun w' h => by rw [cell_of_row w' (w.heap.size + 1 + 1 + 1) 1 _ _ _ ((h.block _ (row_lt HW4.out)).trans HW4.out)]; rfl
      have cb2 : ∀ w', Below wc.heap.size wc w' → w'.cell? ⟨(w.heap.size + 1 + 1 + 1), 2, none⟩ = some (.int .i64 er2) := fun w' h => by rw [cell_of_row w' (w.heap.size + 1 + 1 + 1) 2 _ _ _ ((h.block _ (row_lt HW4.out)).trans HW4.out)]; rfl
      have cb3 : ∀ w', Below wc.heap.size wc w' → w'.cell? ⟨(w.heap.size + 1 + 1 + 1), 3, none⟩ = some (.int .u64 (lz2 : Int)) := fun w' h => by rw [cell_of_row w' (w.heap.size + 1 + 1 + 1) 3 _ _ _ ((h.block _ (row_lt HW4.out)).trans HW4.out)]; rfl
      have cb4 : ∀ w', Below wc.heap.size wc w' → w'.cell? ⟨(w.heap.size + 1 + 1 + 1), 4, none⟩ = some (.int .i64 rm2) := fun w' h => by rw [cell_of_row w' (w.heap.size + 1 + 1 + 1) 4 _ _ _ ((h.block _ (row_lt HW4.out)).trans HW4.out)]; rfl
      have cb5 : ∀ w', Below wc.heap.size wc w' → w'.cell? ⟨(w.heap.size + 1 + 1 + 1), 5, none⟩ = some (.int .i64 un2) := fun w' h => by rw [cell_of_row w' (w.heap.size + 1 + 1 + 1) 5 _ _ _ ((h.block _ (row_lt HW4.out)).trans HW4.out)]; rfl
      clear l1 l2 g1 g2
      by_cases u0 : re = re2
      case neg =>
        have x1 : ¬ ((re : Int) = (re2 : Int)) := by omega
        have hne : (repD re rq er lz rm un) ≠ (repD re2 rq2 er2 lz2 rm2 un2) := by
          intro e
          simp only [repD, Data.agg.injEq, List.cons.injEq, Data.lit.injEq, Lit.int.injEq, and_true, true_and] at e
          first | omega | exact u0 e.1 | exact u0 e | exact u0 e.2.1
        have t3 := replyK_laws.ne HF1.out HF2.out hne
        clear hne HF1 HF2 u0
        go_region_held (fun w' => Below wc.heap.size wc w')
          (first
        | assumption
        | exact (Below.refl _ _).drew
        | exact ext (by assumption) hb)
          ((fail))
        go_wp2_with fail
        go_meet
        exact ⟨rfl, by assumption⟩
      subst u0
      by_cases u1 : rq = rq2
      case neg =>
        have x1 : ¬ ((rq : Int) = (rq2 : Int)) := by omega
        have hne : (repD re rq er lz rm un) ≠ (repD re rq2 er2 lz2 rm2 un2) := by
          intro e
          simp only [repD, Data.agg.injEq, List.cons.injEq, Data.lit.injEq, Lit.int.injEq, and_true, true_and] at e
          first | omega | exact u1 e.1 | exact u1 e | exact u1 e.2.1
        have t3 := replyK_laws.ne HF1.out HF2.out hne
        clear hne HF1 HF2 u1
        go_region_held (fun w' => Below wc.heap.size wc w')
          (first
        | assumption
        | exact (Below.refl _ _).drew
        | exact ext (by assumption) hb)
          ((fail))
        go_wp2_with fail
        go_meet
        exact ⟨rfl, by assumption⟩
      subst u1
      by_cases u2 : er = er2
      case neg =>
        have hne : (repD re rq er lz rm un) ≠ (repD re rq er2 lz2 rm2 un2) := by
          intro e
          simp only [repD, Data.agg.injEq, List.cons.injEq, Data.lit.injEq, Lit.int.injEq, and_true, true_and] at e
          first | omega | exact u2 e.1 | exact u2 e | exact u2 e.2.1
        have t3 := replyK_laws.ne HF1.out HF2.out hne
        clear hne HF1 HF2
        go_region_held (fun w' => Below wc.heap.size wc w')
          (first
        | assumption
        | exact (Below.refl _ _).drew
        | exact ext (by assumption) hb)
          ((fail))
        go_wp2_with fail
        go_meet
        exact ⟨rfl, by assumption⟩
      subst u2
      by_cases u3 : lz = lz2
      case neg =>
        have x1 : ¬ ((lz : Int) = (lz2 : Int)) := by omega
        have hne : (repD re rq er lz rm un) ≠ (repD re rq er lz2 rm2 un2) := by
          intro e
          simp only [repD, Data.agg.injEq, List.cons.injEq, Data.lit.injEq, Lit.int.injEq, and_true, true_and] at e
          first | omega | exact u3 e.1 | exact u3 e | exact u3 e.2.1
        have t3 := replyK_laws.ne HF1.out HF2.out hne
        clear hne HF1 HF2 u3
        go_region_held (fun w' => Below wc.heap.size wc w')
          (first
        | assumption
        | exact (Below.refl _ _).drew
        | exact ext (by assumption) hb)
          ((fail))
        go_wp2_with fail
        go_meet
        exact ⟨rfl, by assumption⟩
      subst u3
      by_cases u4 : rm = rm2
      case neg =>
        have hne : (repD re rq er lz rm un) ≠ (repD re rq er lz rm2 un2) := by
          intro e
          simp only [repD, Data.agg.injEq, List.cons.injEq, Data.lit.injEq, Lit.int.injEq, and_true, true_and] at e
          first | omega | exact u4 e.1 | exact u4 e | exact u4 e.2.1
        have t3 := replyK_laws.ne HF1.out HF2.out hne
        clear hne HF1 HF2
        go_region_held (fun w' => Below wc.heap.size wc w')
          (first
        | assumption
        | exact (Below.refl _ _).drew
        | exact ext (by assumption) hb)
          ((fail))
        go_wp2_with fail
        go_meet
        exact ⟨rfl, by assumption⟩
      subst u4
      by_cases u5 : un = un2
      case neg =>
        have hne : (repD re rq er lz rm un) ≠ (repD re rq er lz rm un2) := by
          intro e
          simp only [repD, Data.agg.injEq, List.cons.injEq, Data.lit.injEq, Lit.int.injEq, and_true, true_and] at e
          first | omega | exact u5 e.1 | exact u5 e | exact u5 e.2.1
        have t3 := replyK_laws.ne HF1.out HF2.out hne
        clear hne HF1 HF2
        go_region_held (fun w' => Below wc.heap.size wc w')
          (first
        | assumption
        | exact (Below.refl _ _).drew
        | exact ext (by assumption) hb)
          ((fail))
        go_wp2_with fail
        go_meet
        exact ⟨rfl, by assumption⟩
      subst u5
      have t3 := Kd.Laws.eq (k := replyK) (repD re rq er lz rm un)
      clear HF1 HF2
      go_region_held (fun w' => Below wc.heap.size wc w')
        (first
        | assumption
        | exact (Below.refl _ _).drew
        | exact ext (by assumption) hb)
        ((fail))
      go_wp2_with fail
      go_meet
      exact ⟨rfl, by assumption⟩
    case rest =>
      obtain ⟨rfl, hb⟩ := hcut
      replace HR1 := Lib.hid (commandK_ok.below HR1.out hb)
      replace HW1 := Lib.hid ((hb.block _ (row_lt HW1.out)).trans HW1.out)
      replace HR2 := Lib.hid (commandK_ok.below HR2.out hb)
      replace HW2 := Lib.hid ((hb.block _ (row_lt HW2.out)).trans HW2.out)
      replace HR3 := Lib.hid (replyK_ok.below HR3.out hb)
      replace HW3 := Lib.hid ((hb.block _ (row_lt HW3.out)).trans HW3.out)
      replace HR4 := Lib.hid (replyK_ok.below HR4.out hb)
      replace HW4 := Lib.hid ((hb.block _ (row_lt HW4.out)).trans HW4.out)
      replace HR5 := Lib.hid (msgK_ok.below HR5.out hb)
      replace HW5 := Lib.hid ((hb.block _ (row_lt HW5.out)).trans HW5.out)
      replace HR6 := Lib.hid (msgK_ok.below HR6.out hb)
      replace HW6 := Lib.hid ((hb.block _ (row_lt HW6.out)).trans HW6.out)
      replace HN1 := Lib.hid (ext HN1.out hb)
      replace HN2 := Lib.hid (ext HN2.out hb)
      replace HN3 := Lib.hid (ext HN3.out hb)
      replace HN4 := Lib.hid (ext HN4.out hb)
      replace HN5 := Lib.hid (ext HN5.out hb)
      replace HN6 := Lib.hid (ext HN6.out hb)
      replace HB := Lib.hid (ext HB.out hb)
      clear hb
      generalize wc = wz at *
      rcases Writes.two HV5.out with ⟨g1, rfl, A1, q1, rfl, l1⟩ | ⟨g1, rfl, rfl⟩
      case inr =>
        clear g1
        go_wp2_with fail
        go_quiet (fail)
        all_goals
          go_wp2
          go_ret
          exact ⟨rfl, below_drewN HB.out _⟩
      rcases Writes.two HV6.out with ⟨g2, rfl, A2, q2, rfl, l2⟩ | ⟨g2, rfl, rfl⟩
      case inr =>
        clear g1 g2 l1
        go_wp2_with fail
        go_quiet (fail)
        all_goals
          go_wp2
          go_ret
          exact ⟨rfl, below_drewN HB.out _⟩
      have t1 : ∀ w', Below wz.heap.size wz w' → (convert 23 9 (.slice A1 (msgK.put d5).length q1)).run Tryz.prog w' = .ok (.string (str (msgK.put d5))) w' := fun w' h => run_text w' q1 rfl (lext l1 (ext HN5.out h))
      have t2 : ∀ w', Below wz.heap.size wz w' → (convert 23 9 (.slice A2 (msgK.put d6).length q2)).run Tryz.prog w' = .ok (.string (str (msgK.put d6))) w' := fun w' h => run_text w' q2 rfl (lext l2 (ext HN6.out h))
      have hb3 : ((str (msgK.put d5)).toList == (str (msgK.put d6)).toList) = sameM d5 d6 := by
        by_cases hd : d5 = d6
        · subst hd
          rw [sameM_refl HR5.out]
          exact Kd.Laws.eq (k := msgK) d5
        · rw [msgK_laws.ne (sure_msg HR5.out g1) (sure_msg HR6.out g2) hd]
          cases hq : sameM d5 d6 with
          | false => rfl
          | true => exact absurd (sameM_eq HR5.out HR6.out hq) hd
      have hcall : ∀ w', Below wz.heap.size wz w' → Calls Tryz.prog 66 #[.agg #[m0, m1, m2, m3, m4, m5, m6, m7, m8, m9, m10, m11, m12, m13], .agg #[n0, n1, n2, n3, n4, n5, n6, n7, n8, n9, n10, n11, n12, n13]] w' (Says (sameM d5 d6) w') := fun w' h => same_msg (xs := [m0, m1, m2, m3, m4, m5, m6, m7, m8, m9, m10, m11, m12, m13]) (ys := [n0, n1, n2, n3, n4, n5, n6, n7, n8, n9, n10, n11, n12, n13]) w' (msgK_ok.below HR5.out h) (msgK_ok.below HR6.out h)
      generalize sameM d5 d6 = bb at hb3 hcall
      have HC := Lib.hid hcall
      have ca0 : ∀ w', Below wz.heap.size wz w' → w'.cell? ⟨(w.heap.size + 1 + 1 + 1 + 1), 0, none⟩ = some m0 := fun w' h => by rw [cell_of_row w' (w.heap.size + 1 + 1 + 1 + 1) 0 _ _ _ ((h.block _ (row_lt HW5.out)).trans HW5.out)]; rfl
      have ca1 : ∀ w', Below wz.heap.size wz w' → w'.cell? ⟨(w.heap.size + 1 + 1 + 1 + 1), 1, none⟩ = some m1 := fun w' h => by rw [cell_of_row w' (w.heap.size + 1 + 1 + 1 + 1) 1 _ _ _ ((h.block _ (row_lt HW5.out)).trans HW5.out)]; rfl
      have ca2 : ∀ w', Below wz.heap.size wz w' → w'.cell? ⟨(w.heap.size + 1 + 1 + 1 + 1), 2, none⟩ = some m2 := fun w' h => by rw [cell_of_row w' (w.heap.size + 1 + 1 + 1 + 1) 2 _ _ _ ((h.block _ (row_lt HW5.out)).trans HW5.out)]; rfl
      have ca3 : ∀ w', Below wz.heap.size wz w' → w'.cell? ⟨(w.heap.size + 1 + 1 + 1 + 1), 3, none⟩ = some m3 := fun w' h => by rw [cell_of_row w' (w.heap.size + 1 + 1 + 1 + 1) 3 _ _ _ ((h.block _ (row_lt HW5.out)).trans HW5.out)]; rfl
      have ca4 : ∀ w', Below wz.heap.size wz w' → w'.cell? ⟨(w.heap.size + 1 + 1 + 1 + 1), 4, none⟩ = some m4 := fun w' h => by rw [cell_of_row w' (w.heap.size + 1 + 1 + 1 + 1) 4 _ _ _ ((h.block _ (row_lt HW5.out)).trans HW5.out)]; rfl
      have ca5 : ∀ w', Below wz.heap.size wz w' → w'.cell? ⟨(w.heap.size + 1 + 1 + 1 + 1), 5, none⟩ = some m5 := fun w' h => by rw [cell_of_row w' (w.heap.size + 1 + 1 + 1 + 1) 5 _ _ _ ((h.block _ (row_lt HW5.out)).trans HW5.out)]; rfl
      have ca6 : ∀ w', Below wz.heap.size wz w' → w'.cell? ⟨(w.heap.size + 1 + 1 + 1 + 1), 6, none⟩ = some m6 := fun w' h => by rw [cell_of_row w' (w.heap.size + 1 + 1 + 1 + 1) 6 _ _ _ ((h.block _ (row_lt HW5.out)).trans HW5.out)]; rfl
      have ca7 : ∀ w', Below wz.heap.size wz w' → w'.cell? ⟨(w.heap.size + 1 + 1 + 1 + 1), 7, none⟩ = some m7 := fun w' h => by rw [cell_of_row w' (w.heap.size + 1 + 1 + 1 + 1) 7 _ _ _ ((h.block _ (row_lt HW5.out)).trans HW5.out)]; rfl
      have ca8 : ∀ w', Below wz.heap.size wz w' → w'.cell? ⟨(w.heap.size + 1 + 1 + 1 + 1), 8, none⟩ = some m8 := fun w' h => by rw [cell_of_row w' (w.heap.size + 1 + 1 + 1 + 1) 8 _ _ _ ((h.block _ (row_lt HW5.out)).trans HW5.out)]; rfl
      have ca9 : ∀ w', Below wz.heap.size wz w' → w'.cell? ⟨(w.heap.size + 1 + 1 + 1 + 1), 9, none⟩ = some m9 := fun w' h => by rw [cell_of_row w' (w.heap.size + 1 + 1 + 1 + 1) 9 _ _ _ ((h.block _ (row_lt HW5.out)).trans HW5.out)]; rfl
      have ca10 : ∀ w', Below wz.heap.size wz w' → w'.cell? ⟨(w.heap.size + 1 + 1 + 1 + 1), 10, none⟩ = some m10 := fun w' h => by rw [cell_of_row w' (w.heap.size + 1 + 1 + 1 + 1) 10 _ _ _ ((h.block _ (row_lt HW5.out)).trans HW5.out)]; rfl
      have ca11 : ∀ w', Below wz.heap.size wz w' → w'.cell? ⟨(w.heap.size + 1 + 1 + 1 + 1), 11, none⟩ = some m11 := fun w' h => by rw [cell_of_row w' (w.heap.size + 1 + 1 + 1 + 1) 11 _ _ _ ((h.block _ (row_lt HW5.out)).trans HW5.out)]; rfl
      have ca12 : ∀ w', Below wz.heap.size wz w' → w'.cell? ⟨(w.heap.size + 1 + 1 + 1 + 1), 12, none⟩ = some m12 := fun w' h => by rw [cell_of_row w' (w.heap.size + 1 + 1 + 1 + 1) 12 _ _ _ ((h.block _ (row_lt HW5.out)).trans HW5.out)]; rfl
      have ca13 : ∀ w', Below wz.heap.size wz w' → w'.cell? ⟨(w.heap.size + 1 + 1 + 1 + 1), 13, none⟩ = some m13 := fun w' h => by rw [cell_of_row w' (w.heap.size + 1 + 1 + 1 + 1) 13 _ _ _ ((h.block _ (row_lt HW5.out)).trans HW5.out)]; rfl
      have cb0 : ∀ w', Below wz.heap.size wz w' → w'.cell? ⟨(w.heap.size + 1 + 1 + 1 + 1 + 1), 0, none⟩ = some n0 := fun w' h => by rw [cell_of_row w' (w.heap.size + 1 + 1 + 1 + 1 + 1) 0 _ _ _ ((h.block _ (row_lt HW6.out)).trans HW6.out)]; rfl
      have cb1 : ∀ w', Below wz.heap.size wz w' → w'.cell? ⟨(w.heap.size + 1 + 1 + 1 + 1 + 1), 1, none⟩ = some n1 := fun w' h => by rw [cell_of_row w' (w.heap.size + 1 + 1 + 1 + 1 + 1) 1 _ _ _ ((h.block _ (row_lt HW6.out)).trans HW6.out)]; rfl
      have cb2 : ∀ w', Below wz.heap.size wz w' → w'.cell? ⟨(w.heap.size + 1 + 1 + 1 + 1 + 1), 2, none⟩ = some n2 := fun w' h => by rw [cell_of_row w' (w.heap.size + 1 + 1 + 1 + 1 + 1) 2 _ _ _ ((h.block _ (row_lt HW6.out)).trans HW6.out)]; rfl
      have cb3 : ∀ w', Below wz.heap.size wz w' → w'.cell? ⟨(w.heap.size + 1 + 1 + 1 + 1 + 1), 3, none⟩ = some n3 := fun w' h => by rw [cell_of_row w' (w.heap.size + 1 + 1 + 1 + 1 + 1) 3 _ _ _ ((h.block _ (row_lt HW6.out)).trans HW6.out)]; rfl
      have cb4 : ∀ w', Below wz.heap.size wz w' → w'.cell? ⟨(w.heap.size + 1 + 1 + 1 + 1 + 1), 4, none⟩ = some n4 := fun w' h => by rw [cell_of_row w' (w.heap.size + 1 + 1 + 1 + 1 + 1) 4 _ _ _ ((h.block _ (row_lt HW6.out)).trans HW6.out)]; rfl
      have cb5 : ∀ w', Below wz.heap.size wz w' → w'.cell? ⟨(w.heap.size + 1 + 1 + 1 + 1 + 1), 5, none⟩ = some n5 := fun w' h => by rw [cell_of_row w' (w.heap.size + 1 + 1 + 1 + 1 + 1) 5 _ _ _ ((h.block _ (row_lt HW6.out)).trans HW6.out)]; rfl
      have cb6 : ∀ w', Below wz.heap.size wz w' → w'.cell? ⟨(w.heap.size + 1 + 1 + 1 + 1 + 1), 6, none⟩ = some n6 := fun w' h => by rw [cell_of_row w' (w.heap.size + 1 + 1 + 1 + 1 + 1) 6 _ _ _ ((h.block _ (row_lt HW6.out)).trans HW6.out)]; rfl
      have cb7 : ∀ w', Below wz.heap.size wz w' → w'.cell? ⟨(w.heap.size + 1 + 1 + 1 + 1 + 1), 7, none⟩ = some n7 := fun w' h => by rw [cell_of_row w' (w.heap.size + 1 + 1 + 1 + 1 + 1) 7 _ _ _ ((h.block _ (row_lt HW6.out)).trans HW6.out)]; rfl
      have cb8 : ∀ w', Below wz.heap.size wz w' → w'.cell? ⟨(w.heap.size + 1 + 1 + 1 + 1 + 1), 8, none⟩ = some n8 := fun w' h => by rw [cell_of_row w' (w.heap.size + 1 + 1 + 1 + 1 + 1) 8 _ _ _ ((h.block _ (row_lt HW6.out)).trans HW6.out)]; rfl
      have cb9 : ∀ w', Below wz.heap.size wz w' → w'.cell? ⟨(w.heap.size + 1 + 1 + 1 + 1 + 1), 9, none⟩ = some n9 := fun w' h => by rw [cell_of_row w' (w.heap.size + 1 + 1 + 1 + 1 + 1) 9 _ _ _ ((h.block _ (row_lt HW6.out)).trans HW6.out)]; rfl
      have cb10 : ∀ w', Below wz.heap.size wz w' → w'.cell? ⟨(w.heap.size + 1 + 1 + 1 + 1 + 1), 10, none⟩ = some n10 := fun w' h => by rw [cell_of_row w' (w.heap.size + 1 + 1 + 1 + 1 + 1) 10 _ _ _ ((h.block _ (row_lt HW6.out)).trans HW6.out)]; rfl
      have cb11 : ∀ w', Below wz.heap.size wz w' → w'.cell? ⟨(w.heap.size + 1 + 1 + 1 + 1 + 1), 11, none⟩ = some n11 := fun w' h => by rw [cell_of_row w' (w.heap.size + 1 + 1 + 1 + 1 + 1) 11 _ _ _ ((h.block _ (row_lt HW6.out)).trans HW6.out)]; rfl
      have cb12 : ∀ w', Below wz.heap.size wz w' → w'.cell? ⟨(w.heap.size + 1 + 1 + 1 + 1 + 1), 12, none⟩ = some n12 := fun w' h => by rw [cell_of_row w' (w.heap.size + 1 + 1 + 1 + 1 + 1) 12 _ _ _ ((h.block _ (row_lt HW6.out)).trans HW6.out)]; rfl
      have cb13 : ∀ w', Below wz.heap.size wz w' → w'.cell? ⟨(w.heap.size + 1 + 1 + 1 + 1 + 1), 13, none⟩ = some n13 := fun w' h => by rw [cell_of_row w' (w.heap.size + 1 + 1 + 1 + 1 + 1) 13 _ _ _ ((h.block _ (row_lt HW6.out)).trans HW6.out)]; rfl
      clear l1 l2 g1 g2 hcall
      go_wp2_with fail
      go_region_held (fun w' => Below wz.heap.size wz w')
        (first
          | assumption
          | exact (Below.refl _ _).drew
          | exact ext (by assumption) hb)
        ((go_at_call 66; refine (HC.out _ (by assumption)).mono ?_; rintro e w' ⟨rfl, hb⟩))
      go_wp2
      go_ret
      exact ⟨rfl, ext HB.out (by assumption)⟩
end Go.Proofs.YtloieecpgndbhaaGreat.Kd
