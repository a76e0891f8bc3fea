/- Package wal: chain of the one file that a log has, as a contract of a call. | Package wal: mend of a log of one file that is whole, as a contract of a call. | strings.HasPrefix and strconv.ParseUint of the one name that a new log's file has, as contracts of calls. | strings.Count and strings.Index of a dot, as contracts of calls. | strings.Split of the one name that a new log's file has, as a contract of a call. -/
import Derived.Test.YtnjifhbooikdbaaGreatDoorWg1
import Derived.Laws.IdiomStrings
import Derived.Lib.Bytealg
/-! Package wal: chain of the one file that a log has, as a contract of a call. -/
namespace Go.Proofs.YtnjifhbooikdbaaGreatDoor.Wa
open Go.RowKit Go.Maps By Mp Dk

theorem fInfo : (Tryz.prog.info? tFile).map (fun i => (i.zero, i.size, i.bytes)) = some (some (.agg #[.int .u64 0, .int .u64 0, .bool false, .slice none 0 0, .string ⟨#[]⟩, .int .i64 0]), 6, 72) := by kernel_rfl
theorem wpList_appFile {ops : Array Oper} {rest : List Oper} {o : Oper} {a : Act} {Q : Exit → Act → World → Prop} {w : World} (hgd : o.guard = none) (s x : Operand) (hop : o.op = .call { callee := .builtin .append, args := #[s, x], argTypes := #[50, 50] })
    (base : Nat) (v : Value) (n : Nat) (xs : List Value) (hs : a.eval s = v) (hown : w.ownsRow base tFile 6 v n xs) (ad : Addr) (hx : a.eval x = .slice (some ad) 1 1) (news : List Value) (hl : news.length = 6)
    (hnews : ∀ j u, news[j]? = some u → w.cell? (ad.add j) = some u) (h1 : ∀ u ∈ news, u.oneCell' = true)
    (hn : n ≤ 1099511627776) (hbase : base ≤ w.heap.size)
    (h : ∀ v' w', w'.ownsRow base tFile 6 v' (n + 1) (xs ++ news) → w.grownBy w' v.ownBlock → (∀ b, v'.ownBlock = some b → v.ownBlock = some b ∨ w.heap.size ≤ b) → wpList Tryz.prog ops Q rest (a.put o.dst v') w') : wpList Tryz.prog ops Q (o :: rest) a w :=
  wpList_plain hgd fun K hK => by
    obtain ⟨i0, hi, hz0, hz1, hz2⟩ := info_parts fInfo
    obtain ⟨v', w', hrun, h2, h3, h4⟩ := run_appG Tryz.underlying50 hi hz0 hz1 hz2 rfl (by decide) w o.type base v n xs hown (some ad) 1 1 news (by omega) (fun _ => ⟨ad, rfl, hnews⟩) h1 (by omega) (by omega) hbase
    exact wp_app_run s x _ hop hs hx hrun (hK _ _ (h v' w' h2 h3 h4))
def ChainPost (s : Seg) (A : Option Addr) (c : Nat) (nm : Bs) (len : Nat) (w : World) (e : Ending) (w' : World) : Prop := ∃ A6 c6, e = .returned (.tuple #[.slice A6 1 c6, .slice none 0 0]) ∧ w'.ownsRow w.heap.size tFile 6 (.slice A6 1 c6) 1 (fileC s A c nm len).toList ∧ Below w.heap.size w w'
theorem FileIn.later {w w' : World} {fb : Nat} {s : Seg} {A : Option Addr} {c : Nat} {nm : Bs} {len : Nat} (h : FileIn w fb s A c nm len) (hf : fb < w.heap.size) (hb : Below w.heap.size w w') : FileIn w' fb s A c nm len :=
  ⟨(hb.cell hf).trans h.c0, (hb.cell hf).trans h.c1, (hb.cell hf).trans h.c2, (hb.cell hf).trans h.c3, (hb.cell hf).trans h.c4, (hb.cell hf).trans h.c5⟩
theorem fileIn_new (w : World) (s : Seg) (A : Option Addr) (c : Nat) (nm : Bs) (len : Nat) : FileIn (w.alloc (.cells (fileC s A c nm len) tFile)) w.heap.size s A c nm len := by
  have h := heap_alloc_new w (.cells (fileC s A c nm len) tFile)
  exact ⟨(cell_of_row _ _ 0 _ _ _ h).trans rfl, (cell_of_row _ _ 1 _ _ _ h).trans rfl, (cell_of_row _ _ 2 _ _ _ h).trans rfl, (cell_of_row _ _ 3 _ _ _ h).trans rfl, (cell_of_row _ _ 4 _ _ _ h).trans rfl, (cell_of_row _ _ 5 _ _ _ h).trans rfl⟩
theorem file_cells (w : World) (s : Seg) (A : Option Addr) (c : Nat) (nm : Bs) (len : Nat) : ∀ (j : Nat) (u : Value), (fileC s A c nm len).toList[j]? = some u → (w.alloc (.cells (fileC s A c nm len) tFile)).cell? ((⟨w.heap.size, 0, none⟩ : Addr).add j) = some u := by
  intro j u hu
  rw [plainAdd, Nat.zero_add, cell_of_row _ _ j _ _ _ (heap_alloc_new w _)]
  simpa using hu
theorem file_one (s : Seg) (A : Option Addr) (c : Nat) (nm : Bs) (len : Nat) : ∀ u ∈ (fileC s A c nm len).toList, u.oneCell' = true := by
  intro u hu
  simp only [List.mem_cons, List.not_mem_nil, or_false] at hu
  rcases hu with rfl | rfl | rfl | rfl | rfl | rfl <;> rfl
set_option maxRecDepth 100000 in
set_option maxHeartbeats 4000000 in
theorem chain_one (fb c0 : Nat) (s : Seg) (A : Option Addr) (c : Nat) (nm : Bs) (len : Nat) (w : World) (h : FileIn w fb s A c nm len) (hf : fb < w.heap.size) (hb : s.base = true) : Calls Tryz.prog 15 #[.slice (some ⟨fb, 0, none⟩) 1 c0] w (ChainPost s A c nm len w) := by
  have HBE := Lib.hid (beginning_one fb c0 s A c nm len w h hb)
  have HF := Lib.hid h
  have HFB := Lib.hid hf
  clear h hf hb
  go_enter Tryz.func15, Tryz.ntmps15
  go_wp2_with fail
  refine HBE.out.mono ?_
  rintro e w1 ⟨rfl, hb1⟩
  have HB1 := Lib.hid hb1
  have HF1 := Lib.hid (HF.out.later HFB.out hb1)
  clear hb1
  go_wp2
  go_loopw [11, 2, 3] (fun i a b wr => b = .slice none 0 0 ∧ ((i = .int .i64 0 ∧ a = .slice none 0 0 ∧ wr = w1) ∨ (i = .int .i64 1 ∧ ∃ A6 c6, a = .slice A6 1 c6 ∧ wr.ownsRow w.heap.size tFile 6 (.slice A6 1 c6) 1 (fileC s A c nm len).toList ∧ Below w.heap.size w wr))) (fun i _ _ _ => 1 - (intOf i).toNat)
  case atStart => exact ⟨rfl, .inl ⟨rfl, rfl, rfl⟩⟩
  case round =>
    obtain ⟨rfl, ⟨rfl, rfl, rfl⟩ | ⟨rfl, A6, c6, rfl, ho, hbr⟩⟩ := hrel
    · obtain ⟨d0, d1, d2, d3, d4, d5⟩ := HF1.out
      go_upto_region 5 with fail
      have HC2 := Lib.hid (fileIn_new wr s A c nm len)
      have HB2 := Lib.hid (bAlloc HB1.out (.cells (fileC s A c nm len) tFile))
      obtain ⟨x, hx⟩ : ∃ x, x = wr.heap.size := ⟨_, rfl⟩
      have HX := Lib.hid (show w.heap.size ≤ x ∧ x < (wr.alloc (.cells (fileC s A c nm len) tFile)).heap.size by rw [hx, World.size_alloc]; have := HB1.out.size; omega)
      rw [← hx] at HC2 ⊢
      clear d0 d1 d2 d3 d4 d5 hx
      dsimp only [fileC] at HC2 HB2 HX
      generalize wr.alloc (.cells #[.int .u64 (s.era : Nat), .int .u64 (s.first : Nat), .bool s.base, .slice A s.ends.length c, .string ⟨nm.toArray⟩, .int .i64 (len : Nat)] 61) = w2 at *
      obtain ⟨d0, d1, d2, d3, d4, d5⟩ := HC2.out
      go_region
      all_goals
        have HB3 := Lib.hid HB2.out.drew
        have HC3 := Lib.hid (show FileIn w2.drew x s A c nm len from ⟨HC2.out.c0, HC2.out.c1, HC2.out.c2, HC2.out.c3, HC2.out.c4, HC2.out.c5⟩)
        go_upto_region 6 with fail
        clear d0 d1 d2 d3 d4 d5 HC2 HB2 HX
        generalize w2.drew = w3 at *
        obtain ⟨d0, d1, d2, d3, d4, d5⟩ := HC3.out
        have HOA := Lib.hid (World.ownsRow_nil (w3.alloc (.cells #[.int .u64 (s.era : Nat), .int .u64 (s.first : Nat), .bool s.base, .slice A s.ends.length c, .string ⟨nm.toArray⟩, .int .i64 (len : Nat)] 61)) w.heap.size tFile 6)
        have HNC := Lib.hid (file_cells w3 s A c nm len)
        have HN1 := Lib.hid (file_one s A c nm len)
        have HBZ := Lib.hid (show w.heap.size ≤ (w3.alloc (.cells #[.int .u64 (s.era : Nat), .int .u64 (s.first : Nat), .bool s.base, .slice A s.ends.length c, .string ⟨nm.toArray⟩, .int .i64 (len : Nat)] 61)).heap.size by rw [World.size_alloc]; have := HB3.out.size; omega)
        go_wp2_with (first
          | (at_builtin; refine wpList_appFile rfl (.tmp 35) (.tmp 37) rfl w.heap.size (.slice none 0 0) 0 [] rfl HOA.out ⟨w3.heap.size, 0, none⟩ rfl (fileC s A c nm len).toList rfl HNC.out HN1.out (by decide) HBZ.out ?_; intro v4 w4 ho4 hg4 hv4
             obtain ⟨A6, c6, hv5⟩ := ownsRow_form ho4
             subst hv5
             have HO4 := Lib.hid (show w4.ownsRow w.heap.size tFile 6 (.slice A6 1 c6) 1 (fileC s A c nm len).toList from ho4)
             have HB4 := Lib.hid (show Below w.heap.size w w4 from (bAlloc HB3.out _).grown hg4 HBZ.out (fun q e => by cases e))
             clear ho4 hg4 hv4)
          | fail)
        go_roundw
        case rel => exact ⟨rfl, .inr ⟨rfl, A6, c6, rfl, HO4.out, HB4.out⟩⟩
        case measure => simp [intOf]
    · have HFIN := Lib.hid (show ChainPost s A c nm len w (.returned (.tuple #[.slice A6 1 c6, .slice none 0 0])) wr from ⟨A6, c6, rfl, ho, hbr⟩)
      clear ho hbr
      go_wp2
      go_ret2
      exact HFIN.out
end Go.Proofs.YtnjifhbooikdbaaGreatDoor.Wa

/-! Package wal: mend of a log of one file that is whole, as a contract of a call. -/
namespace Go.Proofs.YtnjifhbooikdbaaGreatDoor.Wa
open Go.RowKit Go.Maps By Mp Dk

set_option maxRecDepth 100000 in
set_option maxHeartbeats 4000000 in
theorem mend_one (g fb c0 : Nat) (s : Seg) (A : Option Addr) (c : Nat) (nm : Bs) (w : World) (h : FileIn w fb s A c nm s.size) (hf : fb < w.heap.size) (hnx : s.next < 18446744073709551616) (hl : s.ends.length ≤ 1099511627776) (hli : LiesI w w.heap.size A s.ends) :
    Calls Tryz.prog 17 #[.pointer (some ⟨g, 0, none⟩), .slice (some ⟨fb, 0, none⟩) 1 c0, .slice none 0 0] w (RetB (.int .i64 0) w) := by
  have HSZ := Lib.hid (fun (w' : World) (hb : Below w.heap.size w w') => seg_size_any s A c w' hnx (Nat.le_trans hl (by decide)) ((hli.below hb).more hb.size))
  have HF := Lib.hid h
  have HFB := Lib.hid hf
  clear h hf hnx hl hli
  obtain ⟨z, hz⟩ : ∃ z, z = s.size := ⟨_, rfl⟩
  rw [← hz] at HF HSZ
  clear hz
  go_enter Tryz.func17, Tryz.ntmps17
  go_wp2
  go_loopw [16, 7] (fun i a wr => i = .int .i64 0 ∧ a = .int .i64 0 ∧ wr = w) (fun _ _ _ => 0)
  case atStart => exact ⟨rfl, rfl, rfl⟩
  case round =>
    obtain ⟨rfl, rfl, rfl⟩ := hrel
    go_wp2
    go_loopw [35, 7] (fun i a wx => a = .int .i64 0 ∧ ((i = .int .i64 0 ∧ wx = wr) ∨ (i = .int .i64 1 ∧ Below wr.heap.size wr wx))) (fun i _ _ => 1 - (intOf i).toNat)
    case atStart => exact ⟨rfl, .inl ⟨rfl, rfl⟩⟩
    case round =>
      obtain ⟨rfl, ⟨rfl, rfl⟩ | ⟨rfl, hbx⟩⟩ := hrel
      · obtain ⟨d0, d1, d2, d3, d4, d5⟩ := HF.out
        go_upto_region 13 with fail
        have HC2 := Lib.hid (fileIn_new wr s A c nm z)
        have HB2 := Lib.hid (bAlloc (Below.refl wr.heap.size wr) (.cells (fileC s A c nm z) tFile))
        obtain ⟨x, hx⟩ : ∃ x, x = wr.heap.size := ⟨_, rfl⟩
        have HX := Lib.hid (show x < (wr.alloc (.cells (fileC s A c nm z) tFile)).heap.size by rw [hx, World.size_alloc]; omega)
        rw [← hx] at HC2 ⊢
        clear d0 d1 d2 d3 d4 d5 hx
        dsimp only [fileC] at HC2 HB2 HX
        generalize wr.alloc (.cells #[.int .u64 (s.era : Nat), .int .u64 (s.first : Nat), .bool s.base, .slice A s.ends.length c, .string ⟨nm.toArray⟩, .int .i64 (z : Nat)] 61) = w2 at *
        have HALL := Lib.hid (fun (w' : World) (hb : Below w2.heap.size w2 w') => let k := HC2.out.later HX.out hb; And.intro k.c0 (And.intro k.c1 (And.intro k.c2 (And.intro k.c3 k.c5))))
        dsimp only [segV, segC] at HSZ
        obtain ⟨era, first, base, ends⟩ := s
        dsimp only at HSZ HALL ⊢
        go_region_held3 (fun w' => w'.cell? ⟨x, 0, none⟩ = some (.int .u64 (era : Nat)) ∧ w'.cell? ⟨x, 1, none⟩ = some (.int .u64 (first : Nat)) ∧ w'.cell? ⟨x, 2, none⟩ = some (.bool base) ∧ w'.cell? ⟨x, 3, none⟩ = some (.slice A ends.length c) ∧ w'.cell? ⟨x, 5, none⟩ = some (.int .i64 (z : Nat)))
          (first
            | with_reducible assumption
            | exact HALL.out _ (Below.refl _ _)
            | exact HALL.out _ (Below.refl _ _).drew
            | exact HALL.out _ HB4.out)
          (first
            | (go_at_call 21; refine (HSZ.out _ (By.ext HB2.out (Below.refl _ _).drew)).mono ?_; rintro e w4 ⟨rfl, hb4⟩
               have HB4 := Lib.hid (show Below w2.heap.size w2 w4 from By.ext (Below.refl _ _).drew hb4)
               clear hb4)
            | fail)
        all_goals
          go_wp2
          go_roundw
          case rel => exact ⟨rfl, .inr ⟨rfl, By.ext HB2.out HB4.out⟩⟩
          case measure => simp [intOf]
      · have HBX := Lib.hid hbx
        clear hbx
        go_wp2
        go_ret
        exact ⟨rfl, HBX.out⟩
end Go.Proofs.YtnjifhbooikdbaaGreatDoor.Wa

/-! strings.HasPrefix and strconv.ParseUint of the one name that a new log's file has, as contracts of calls. -/
namespace Go.Proofs.YtnjifhbooikdbaaGreatDoor.Wa
open Go.RowKit Go.Maps By Mp Dk

set_option maxRecDepth 100000 in
set_option maxHeartbeats 1000000 in
theorem has_w (w : World) : Calls Tryz.prog 35 #[.string { data := #[119, 46, 48, 46, 49, 46, 98] }, .string { data := #[119, 46] }] w (RetB (.bool true) w) := by
  have hin : Calls Tryz.prog 62 #[.string { data := #[119, 46, 48, 46, 49, 46, 98] }, .string { data := #[119, 46] }] w (RetB (.bool true) w) := by
    go_enter Tryz.func62, Tryz.ntmps62
    have hx : (({ data := #[119, 46, 48, 46, 49, 46, 98] } : ByteArray).extract 0 2).toList == [119, 46] := by
      rw [ByteArray.toList_eq]
      decide
    go_wp2
    go_ret
    exact ⟨rfl, Below.refl _ _⟩
  have HIN := Lib.hid hin
  clear hin
  go_enter Tryz.func35, Tryz.ntmps35
  go_wp2_with fail
  refine HIN.out.mono ?_
  rintro e w1 ⟨rfl, hb⟩
  have HB := Lib.hid hb
  clear hb
  go_wp2
  go_ret
  exact ⟨rfl, HB.out⟩
theorem conv_one (b : UInt8) (w : World) : ∃ (cap : Nat) (w1 : World), (convert 9 32 (.string { data := #[b] })).run Tryz.prog w = .ok (.slice (some ⟨w.heap.size, 0, none⟩) 1 cap) w1 ∧ w1.cell? ⟨w.heap.size, 0, none⟩ = some (.int .u8 (b.toNat : Int)) ∧ Below w.heap.size w w1 := by
  have h := run_bytes_of_string (P := Tryz.prog) w 9 32 5 { data := #[b] } Tryz.underlying9 Tryz.underlying32 Tryz.underlying5
  refine ⟨_, _, h, ?_, (Below.refl _ _).drew.alloc (Nat.le_refl _) _⟩
  have hr : (w.drew.alloc (.cells (bytesRow { data := #[b] } (grownCap w ({ data := #[b] } : ByteArray).size 0 5)) 5 ((bytesRow { data := #[b] } (grownCap w ({ data := #[b] } : ByteArray).size 0 5)).size, (bytesRow { data := #[b] } (grownCap w ({ data := #[b] } : ByteArray).size 0 5)).size + 1))).heap[w.heap.size]? = some (.cells (bytesRow { data := #[b] } (grownCap w ({ data := #[b] } : ByteArray).size 0 5)) 5 ((bytesRow { data := #[b] } (grownCap w ({ data := #[b] } : ByteArray).size 0 5)).size, (bytesRow { data := #[b] } (grownCap w ({ data := #[b] } : ByteArray).size 0 5)).size + 1)) := heap_alloc_new w.drew _
  rw [cell_of_row _ _ 0 _ _ _ hr]
  exact bytesRow_at ({ data := #[b] } : ByteArray) _ 0 Nat.zero_lt_one
set_option maxRecDepth 100000 in
set_option maxHeartbeats 2000000 in
theorem iparse_0 (w : World) : Calls Tryz.prog 81 #[.string { data := #[48] }, .int .i64 36, .int .i64 64] w (RetB (.tuple #[.int .u64 0, Value.nilIface]) w) := by
  go_enter Tryz.func81, Tryz.ntmps81
  obtain ⟨cap, w1, hcv, hc0, hb⟩ := conv_one 48 w
  have HB := Lib.hid hb
  clear hb
  have hc0 : w1.cell? ⟨w.heap.size, 0, none⟩ = some (.int .u8 48) := hc0
  go_upto_region 35 with fail
  go_wp2
  go_loopw [101, 12, 13] (fun i u n wr => wr = w1 ∧ u = .bool false ∧ ((i = .int .i64 0 ∧ n = .int .u64 0) ∨ (i = .int .i64 1 ∧ n = .int .u64 0))) (fun i _ _ _ => 1 - (intOf i).toNat)
  case atStart => exact ⟨rfl, rfl, .inl ⟨rfl, rfl⟩⟩
  case round =>
    obtain ⟨rfl, rfl, ⟨rfl, rfl⟩ | ⟨rfl, rfl⟩⟩ := hrel
    · go_wp2
      go_roundw
      case rel => exact ⟨trivial, rfl, .inr ⟨rfl, rfl⟩⟩
      case measure => simp [intOf]
    · go_wp2
      go_ret2
      exact ⟨rfl, HB.out⟩
set_option maxHeartbeats 1000000 in
theorem parse_0 (w : World) : Calls Tryz.prog 64 #[.string { data := #[48] }, .int .i64 36, .int .i64 64] w (RetB (.tuple #[.int .u64 0, Value.nilIface]) w) := by
  have HIN := Lib.hid (iparse_0 w)
  go_enter Tryz.func64, Tryz.ntmps64
  go_wp2_with fail
  refine HIN.out.mono ?_
  rintro e w1 ⟨rfl, hb⟩
  have HB := Lib.hid hb
  clear hb
  go_wp2
  go_ret2
  exact ⟨rfl, HB.out⟩
set_option maxRecDepth 100000 in
set_option maxHeartbeats 2000000 in
theorem iparse_1 (w : World) : Calls Tryz.prog 81 #[.string { data := #[49] }, .int .i64 36, .int .i64 64] w (RetB (.tuple #[.int .u64 1, Value.nilIface]) w) := by
  go_enter Tryz.func81, Tryz.ntmps81
  obtain ⟨cap, w1, hcv, hc0, hb⟩ := conv_one 49 w
  have HB := Lib.hid hb
  clear hb
  have hc0 : w1.cell? ⟨w.heap.size, 0, none⟩ = some (.int .u8 49) := hc0
  go_upto_region 35 with fail
  go_wp2
  go_loopw [101, 12, 13] (fun i u n wr => wr = w1 ∧ u = .bool false ∧ ((i = .int .i64 0 ∧ n = .int .u64 0) ∨ (i = .int .i64 1 ∧ n = .int .u64 1))) (fun i _ _ _ => 1 - (intOf i).toNat)
  case atStart => exact ⟨rfl, rfl, .inl ⟨rfl, rfl⟩⟩
  case round =>
    obtain ⟨rfl, rfl, ⟨rfl, rfl⟩ | ⟨rfl, rfl⟩⟩ := hrel
    · go_wp2
      go_roundw
      case rel => exact ⟨trivial, rfl, .inr ⟨rfl, rfl⟩⟩
      case measure => simp [intOf]
    · go_wp2
      go_ret2
      exact ⟨rfl, HB.out⟩
set_option maxHeartbeats 1000000 in
theorem parse_1 (w : World) : Calls Tryz.prog 64 #[.string { data := #[49] }, .int .i64 36, .int .i64 64] w (RetB (.tuple #[.int .u64 1, Value.nilIface]) w) := by
  have HIN := Lib.hid (iparse_1 w)
  go_enter Tryz.func64, Tryz.ntmps64
  go_wp2_with fail
  refine HIN.out.mono ?_
  rintro e w1 ⟨rfl, hb⟩
  have HB := Lib.hid hb
  clear hb
  go_wp2
  go_ret2
  exact ⟨rfl, HB.out⟩
end Go.Proofs.YtnjifhbooikdbaaGreatDoor.Wa

/-! strings.Count and strings.Index of a dot, as contracts of calls. -/
namespace Go.Proofs.YtnjifhbooikdbaaGreatDoor.Wa
open Go.RowKit Go.Maps By Mp Dk

set_option maxRecDepth 100000 in
set_option maxHeartbeats 1000000 in
theorem count_dot (s : ByteArray) (w : World) : Calls Tryz.prog 106 #[.string s, .string { data := #[46] }] w (Ret (.int .i64 (Lib.countByte s.data.toList 46 : Nat)) w) := by
  go_enter Tryz.func106, Tryz.ntmps106
  go_wp2
  rw [run_callFunc_extern Tryz.func127 (by kernel_rfl) (by kernel_rfl) (by kernel_rfl) (e := Extern.BytealgCount.count) (by kernel_rfl), Lib.run_countString]
  simp only [Result.andThen]
  rw [Oper.upon_value]
  go_wp2
  go_ret
  exact ⟨rfl, rfl⟩
set_option maxRecDepth 100000 in
set_option maxHeartbeats 1000000 in
theorem indexByte_dot (s : ByteArray) (w : World) : Calls Tryz.prog 145 #[.string s, .int .u8 46] w (Ret (.int .i64 (Lib.indexByte s.data.toList 46)) w) := by
  go_enter Tryz.func145, Tryz.ntmps145
  go_wp2
  rw [run_callFunc_extern Tryz.func154 (by kernel_rfl) (by kernel_rfl) (by kernel_rfl) (e := Extern.BytealgIndexByte.indexByte) (by kernel_rfl), Lib.run_indexByteString]
  simp only [Result.andThen]
  rw [Oper.upon_value]
  go_wp2
  go_ret
  exact ⟨rfl, rfl⟩
set_option maxRecDepth 100000 in
set_option maxHeartbeats 1000000 in
theorem index_dot (s : ByteArray) (w : World) (hne : ([46] == s.toList) = false) : Calls Tryz.prog 107 #[.string s, .string { data := #[46] }] w (Ret (.int .i64 (Lib.indexByte s.data.toList 46)) w) := by
  have hin : Calls Tryz.prog 128 #[.string s, .string { data := #[46] }] w (Ret (.int .i64 (Lib.indexByte s.data.toList 46)) w) := by
    have HI := Lib.hid (indexByte_dot s w)
    go_enter Tryz.func128, Tryz.ntmps128
    go_wp2_with fail
    refine HI.out.mono ?_
    rintro e w1 ⟨rfl, rfl⟩
    go_wp2
    go_ret
    exact ⟨rfl, rfl⟩
  have HIN := Lib.hid hin
  clear hin
  go_enter Tryz.func107, Tryz.ntmps107
  go_wp2_with fail
  refine HIN.out.mono ?_
  rintro e w1 ⟨rfl, rfl⟩
  go_wp2
  go_ret
  exact ⟨rfl, rfl⟩
end Go.Proofs.YtnjifhbooikdbaaGreatDoor.Wa

/-! strings.Split of the one name that a new log's file has, as a contract of a call. -/
namespace Go.Proofs.YtnjifhbooikdbaaGreatDoor.Wa
open Go.RowKit Go.Maps By Mp Dk

theorem strInfo : (Tryz.prog.info? 9).map (fun i => (i.zero, i.size, i.bytes)) = some (some (.string { data := #[] }), 1, 16) := by kernel_rfl
theorem run_strs4 (w : World) : (Instr.makeSlice 77 (.int .i64 4) (.int .i64 4)).run Tryz.prog w = .ok (.slice (some ⟨w.heap.size, 0, none⟩) 4 4) (w.alloc (.cells #[.string { data := #[] }, .string { data := #[] }, .string { data := #[] }, .string { data := #[] }] 9)) := by
  obtain ⟨i0, hi, hz0, hz1, hz2⟩ := info_parts strInfo
  have h := run_make w 77 9 i0 (.string { data := #[] }) Tryz.underlying77 hi hz0 .i64 .i64 4 4 (by omega) (Int.le_refl _) (by rw [hz2]; omega) (by omega)
  have e : madeCells (Value.cells (.string { data := #[] })) 4 = #[.string { data := #[] }, .string { data := #[] }, .string { data := #[] }, .string { data := #[] }] := by
    apply Array.ext'
    exact toList_madeCells_one _ 4
  rw [h, hz1]
  show Result.ok _ (w.alloc (.cells (madeCells (Value.cells (.string { data := #[] })) 4) 9)) = _
  rw [e]
  rfl
abbrev S0 : ByteArray := { data := #[119, 46, 48, 46, 49, 46, 98] }
abbrev S1 : ByteArray := { data := #[48, 46, 49, 46, 98] }
abbrev S2 : ByteArray := { data := #[49, 46, 98] }
abbrev S3 : ByteArray := { data := #[98] }
/-- Four strings in a block. -/
abbrev rowS (a b c d : ByteArray) : Obj := .cells #[.string a, .string b, .string c, .string d] 9 (0, 0)
def SplitPost (w : World) (e : Ending) (w' : World) : Prop := ∃ r, e = .returned (.slice (some ⟨r, 0, none⟩) 4 4) ∧ w.heap.size ≤ r ∧ w'.heap[r]? = some (rowS { data := #[119] } { data := #[48] } { data := #[49] } { data := #[98] }) ∧ Below w.heap.size w w'
theorem count_S0 : (Lib.countByte S0.data.toList 46 : Nat) = 3 := by decide
theorem idx_S0 : Lib.indexByte S0.data.toList 46 = 1 := by decide
theorem idx_S1 : Lib.indexByte S1.data.toList 46 = 1 := by decide
theorem idx_S2 : Lib.indexByte S2.data.toList 46 = 1 := by decide
theorem ne_S0 : ([46] == S0.toList) = false := by rw [ByteArray.toList_eq]; decide
theorem ne_S1 : ([46] == S1.toList) = false := by rw [ByteArray.toList_eq]; decide
theorem ne_S2 : ([46] == S2.toList) = false := by rw [ByteArray.toList_eq]; decide
theorem ext_a : S0.extract 0 1 = { data := #[119] } := by decide
theorem ext_b : S0.extract 2 7 = S1 := by decide
theorem ext_c : S1.extract 0 1 = { data := #[48] } := by decide
theorem ext_d : S1.extract 2 5 = S2 := by decide
theorem ext_e : S2.extract 0 1 = { data := #[49] } := by decide
theorem ext_f : S2.extract 2 3 = S3 := by decide
set_option maxRecDepth 100000 in
set_option maxHeartbeats 4000000 in
theorem genSplit_w (w : World) : Calls Tryz.prog 80 #[.string { data := #[119, 46, 48, 46, 49, 46, 98] }, .string { data := #[46] }, .int .i64 0, .int .i64 (-1)] w (SplitPost w) := by
  have hct := count_dot S0 w
  rw [count_S0] at hct
  have HCT := Lib.hid hct
  clear hct
  go_enter Tryz.func80, Tryz.ntmps80
  go_wp2_with fail
  refine HCT.out.mono ?_
  rintro e w1 ⟨rfl, rfl⟩
  have q1 := run_strs4
  go_upto_region 8 with fail
  rw [show (min (4 : Int) 8) = 4 from by decide]
  have HNR := Lib.hid (show (w.alloc (rowS { data := #[] } { data := #[] } { data := #[] } { data := #[] })).heap[w.heap.size]? = some (rowS { data := #[] } { data := #[] } { data := #[] } { data := #[] }) from heap_alloc_new w _)
  have HB0 := Lib.hid (bAlloc (Below.refl w.heap.size w) (rowS { data := #[] } { data := #[] } { data := #[] } { data := #[] }))
  go_wp2
  obtain ⟨r, hr⟩ : ∃ r, r = w.heap.size := ⟨_, rfl⟩
  have HRZ := Lib.hid (show w.heap.size ≤ r by rw [hr]; exact Nat.le_refl _)
  rw [← hr] at HNR ⊢
  clear hr
  clear q1
  dsimp only [rowS] at HNR HB0
  generalize w.alloc (.cells #[.string { data := #[] }, .string { data := #[] }, .string { data := #[] }, .string { data := #[] }] 9) = w2 at *
  go_loopw [0, 10] (fun s i wr => Below w.heap.size w wr ∧ ((i = .int .i64 0 ∧ s = .string { data := #[119, 46, 48, 46, 49, 46, 98] } ∧ wr.heap[r]? = some (rowS { data := #[] } { data := #[] } { data := #[] } { data := #[] }))
    ∨ (i = .int .i64 1 ∧ s = .string { data := #[48, 46, 49, 46, 98] } ∧ wr.heap[r]? = some (rowS { data := #[119] } { data := #[] } { data := #[] } { data := #[] }))
    ∨ (i = .int .i64 2 ∧ s = .string { data := #[49, 46, 98] } ∧ wr.heap[r]? = some (rowS { data := #[119] } { data := #[48] } { data := #[] } { data := #[] }))
    ∨ (i = .int .i64 3 ∧ s = .string { data := #[98] } ∧ wr.heap[r]? = some (rowS { data := #[119] } { data := #[48] } { data := #[49] } { data := #[] })))) (fun _ i _ => 3 - (intOf i).toNat)
  case atStart => exact ⟨HB0.out, .inl ⟨rfl, rfl, HNR.out⟩⟩
  case round =>
    obtain ⟨hb, ⟨rfl, rfl, hro⟩ | ⟨rfl, rfl, hro⟩ | ⟨rfl, rfl, hro⟩ | ⟨rfl, rfl, hro⟩⟩ := hrel
    · have f4 : ∀ i, wr.frozen? ⟨r, i, none⟩ = false := fun i => frozen_of_row wr r i _ _ hro
      have d0 : wr.cell? ⟨r, 0, none⟩ = some (.string { data := #[] }) := (cell_of_row wr r 0 _ _ _ hro).trans rfl
      have HRO := Lib.hid hro
      have HB := Lib.hid hb
      have HIX := Lib.hid (show Calls Tryz.prog 107 #[.string { data := #[119, 46, 48, 46, 49, 46, 98] }, .string { data := #[46] }] wr (Ret (.int .i64 1) wr) from by have h := index_dot S0 wr ne_S0; rw [idx_S0] at h; exact h)
      clear hro hb
      go_wp2_with fail
      refine HIX.out.mono ?_
      rintro e w4 ⟨rfl, rfl⟩
      go_wp2
      go_roundw
      case rel => exact ⟨bSet HB.out _ HRZ.out _, .inr (.inl ⟨rfl, congrArg Value.string ext_b, by rw [ext_a]; exact Go.heap_setCell_same _ r 0 _ _ _ HRO.out⟩)⟩
      case measure => simp [intOf]
    · have f4 : ∀ i, wr.frozen? ⟨r, i, none⟩ = false := fun i => frozen_of_row wr r i _ _ hro
      have d0 : wr.cell? ⟨r, 1, none⟩ = some (.string { data := #[] }) := (cell_of_row wr r 1 _ _ _ hro).trans rfl
      have HRO := Lib.hid hro
      have HB := Lib.hid hb
      have HIX := Lib.hid (show Calls Tryz.prog 107 #[.string { data := #[48, 46, 49, 46, 98] }, .string { data := #[46] }] wr (Ret (.int .i64 1) wr) from by have h := index_dot S1 wr ne_S1; rw [idx_S1] at h; exact h)
      clear hro hb
      go_wp2_with fail
      refine HIX.out.mono ?_
      rintro e w4 ⟨rfl, rfl⟩
      go_wp2
      go_roundw
      case rel => exact ⟨bSet HB.out _ HRZ.out _, .inr (.inr (.inl ⟨rfl, congrArg Value.string ext_d, by rw [ext_c]; exact Go.heap_setCell_same _ r 1 _ _ _ HRO.out⟩))⟩
      case measure => simp [intOf]
    · have f4 : ∀ i, wr.frozen? ⟨r, i, none⟩ = false := fun i => frozen_of_row wr r i _ _ hro
      have d0 : wr.cell? ⟨r, 2, none⟩ = some (.string { data := #[] }) := (cell_of_row wr r 2 _ _ _ hro).trans rfl
      have HRO := Lib.hid hro
      have HB := Lib.hid hb
      have HIX := Lib.hid (show Calls Tryz.prog 107 #[.string { data := #[49, 46, 98] }, .string { data := #[46] }] wr (Ret (.int .i64 1) wr) from by have h := index_dot S2 wr ne_S2; rw [idx_S2] at h; exact h)
      clear hro hb
      go_wp2_with fail
      refine HIX.out.mono ?_
      rintro e w4 ⟨rfl, rfl⟩
      go_wp2
      go_roundw
      case rel => exact ⟨bSet HB.out _ HRZ.out _, .inr (.inr (.inr ⟨rfl, congrArg Value.string ext_f, by rw [ext_e]; exact Go.heap_setCell_same _ r 2 _ _ _ HRO.out⟩))⟩
      case measure => simp [intOf]
    · have f4 : ∀ i, wr.frozen? ⟨r, i, none⟩ = false := fun i => frozen_of_row wr r i _ _ hro
      have d0 : wr.cell? ⟨r, 3, none⟩ = some (.string { data := #[] }) := (cell_of_row wr r 3 _ _ _ hro).trans rfl
      have HRO := Lib.hid hro
      have HB := Lib.hid hb
      clear hro hb
      go_wp2
      go_ret
      exact ⟨r, rfl, HRZ.out, Go.heap_setCell_same _ r 3 _ _ _ HRO.out, bSet HB.out _ HRZ.out _⟩
set_option maxRecDepth 100000 in
set_option maxHeartbeats 1000000 in
theorem split_w (w : World) : Calls Tryz.prog 63 #[.string { data := #[119, 46, 48, 46, 49, 46, 98] }, .string { data := #[46] }] w (SplitPost w) := by
  have HIN := Lib.hid (genSplit_w w)
  go_enter Tryz.func63, Tryz.ntmps63
  go_wp2_with fail
  refine HIN.out.mono ?_
  rintro e w1 ⟨r, rfl, h1, h2, h3⟩
  have HF := Lib.hid (And.intro h1 (And.intro h2 h3))
  clear h1 h2 h3
  go_wp2
  go_ret
  exact ⟨r, rfl, HF.out.1, HF.out.2.1, HF.out.2.2⟩
end Go.Proofs.YtnjifhbooikdbaaGreatDoor.Wa
