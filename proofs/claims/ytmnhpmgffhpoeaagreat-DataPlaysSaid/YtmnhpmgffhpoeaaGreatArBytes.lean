/- The contract of Bytes: what it returns, and that nothing that was there is turned. -/
import Derived.Test.YtmnhpmgffhpoeaaGreatArIter
import Derived.RangeFuncNested
import Derived.RangeFuncBound
import Derived.RangeFuncCalls
import Derived.Laws.BytesArg
import Derived.Laws.CopyRow
import Derived.Laws.CopyOwn
namespace Go.Proofs.YtmnhpmgffhpoeaaGreat.Bt
open Go Go.RowKit Go.Shelf
set_option linter.unusedVariables false

attribute [local go_sem] Oper.semAt_some

/-- bytes as a text -/
def strL (l : List UInt8) : ByteArray := ⟨l.toArray⟩
/-- the row that the pieces so far have filled -/
def outV {a n : Nat} (m : Nat → UInt8) (l : List (Pc a n)) : Array Value := ((List.range n).map fun i => Value.int .u8 (((if cov l i then m (a + i) else 0) : UInt8).toNat : Int)).toArray
theorem Tryz.infoByte : (Tryz.prog.info? 5).map (fun i => (i.zero, i.size, i.bytes)) = some (some (.int .u8 0), 1, 1) := by kernel_rfl
theorem made_out {a : Nat} (m : Nat → UInt8) (n : Nat) : madeCells (Value.int .u8 0).cells (n * 1) = outV (a := a) (n := n) m [] := by
  apply Array.ext_getElem?
  intro j
  by_cases hj : j < n
  · simp [madeCells, hj, Value.cells, Nat.mod_one, outV, cov]
  · rw [Array.getElem?_eq_none (by rw [size_madeCells]; omega), Array.getElem?_eq_none (by simp [outV]; omega)]
theorem run_bytes (a n : Nat) (m : Nat → UInt8) (hn : n ≤ 4294967296) (w : World) :
    (Instr.makeSlice 118 (.int .i64 (n : Int)) (.int .i64 (n : Int))).run Tryz.prog w = .ok (.slice (some ⟨w.heap.size, 0, none⟩) n n) (w.alloc (.cells (outV (a := a) (n := n) m []) 5)) := by
  obtain ⟨i0, hi, hz0, hz1, hz2⟩ := info_parts Tryz.infoByte
  have h := run_make (P := Tryz.prog) w 118 5 i0 (.int .u8 0) Tryz.underlying118 hi hz0 .i64 .i64 (n : Int) n (by omega) (Int.le_refl _) (by rw [hz2]; omega) (by omega)
  rw [Int.toNat_natCast, hz1, made_out (a := a) m] at h
  exact h

theorem outV_get {a n : Nat} (m : Nat → UInt8) (l : List (Pc a n)) (i : Nat) (hi : i < n) : (outV m l)[i]? = some (.int .u8 (((if cov l i then m (a + i) else 0) : UInt8).toNat : Int)) := by simp [outV, hi]
theorem outV_size {a n : Nat} (m : Nat → UInt8) (l : List (Pc a n)) : (outV m l).size = n := by simp [outV]
theorem out_skip {a n : Nat} (m : Nat → UInt8) (l : List (Pc a n)) (x : Pc a n) (h : ∀ i, x.1.1 ≤ i → i < x.1.1 + x.1.2 → m (a + i) = 0) : outV m (l ++ [x]) = outV m l := by
  apply Array.ext_getElem?
  intro i
  by_cases hi : i < n
  · rw [outV_get m _ i hi, outV_get m _ i hi, cov_snoc]
    by_cases hx : x.1.1 ≤ i ∧ i < x.1.1 + x.1.2
    · rw [h i hx.1 hx.2]; simp
    · rw [decide_eq_false hx]; simp
  · rw [Array.getElem?_eq_none (by rw [outV_size]; omega), Array.getElem?_eq_none (by rw [outV_size]; omega)]
def srcV (m : Nat → UInt8) (a k : Nat) : List Value := (List.range k).map fun j => Value.int .u8 ((m (a + j)).toNat : Int)
theorem srcV_length (m : Nat → UInt8) (a k : Nat) : (srcV m a k).length = k := by simp [srcV]
theorem out_copy {a n : Nat} (m : Nat → UInt8) (l : List (Pc a n)) (x : Pc a n) :
    ((outV m l).toList.take x.1.1 ++ srcV m (a + x.1.1) x.1.2 ++ (outV m l).toList.drop (x.1.1 + (srcV m (a + x.1.1) x.1.2).length)).toArray = outV m (l ++ [x]) := by
  have hx := x.2
  rw [srcV_length]
  apply Array.ext_getElem?
  intro i
  have hlen : (outV m l).toList.length = n := by simp [outV]
  by_cases hi : i < n
  · rw [outV_get m _ i hi, cov_snoc, List.getElem?_toArray]
    by_cases h1 : i < x.1.1
    · rw [List.append_assoc, List.getElem?_append_left (by rw [List.length_take]; omega), List.getElem?_take, if_pos h1, Array.getElem?_toList, outV_get m l i hi, decide_eq_false (by omega)]
      simp
    · by_cases h2 : i < x.1.1 + x.1.2
      · rw [List.append_assoc, List.getElem?_append_right (by rw [List.length_take]; omega), List.length_take, hlen, List.getElem?_append_left (by rw [srcV_length]; omega), decide_eq_true (by omega)]
        have e : i - min x.1.1 n = i - x.1.1 := by omega
        have e2 : a + x.1.1 + (i - x.1.1) = a + i := by omega
        rw [e]
        simp only [srcV, List.getElem?_map]
        rw [List.getElem?_range (by omega)]
        simp only [Option.map_some, e2, Bool.or_true, if_true]
      · rw [List.getElem?_append_right (by simp only [List.length_append, List.length_take, srcV_length, hlen]; omega)]
        simp only [List.length_append, List.length_take, srcV_length, hlen]
        rw [List.getElem?_drop, Array.getElem?_toList, decide_eq_false (by omega)]
        have e : x.1.1 + x.1.2 + (i - (min x.1.1 n + x.1.2)) = i := by omega
        rw [e, outV_get m l i hi]
        simp
  · rw [Array.getElem?_eq_none (by simp only [List.size_toArray, List.length_append, List.length_take, List.length_drop, srcV_length, hlen]; omega), Array.getElem?_eq_none (by rw [outV_size]; omega)]
theorem page_len : Tryz.prog.underlying 79 = some (.array 4096 5) := by kernel_rfl
theorem slice_page (b lo m : Nat) (hm : 0 < m) (h : lo + m ≤ 4096) (w : World) :
    (Instr.sliceAt 79 (.pointer (some ⟨b, 0, none⟩)) (some (.int .i64 (lo : Int))) (some (.int .i64 ((lo : Int) + m))) none).run Tryz.prog w = .ok (.slice (some ⟨b, lo, none⟩) m (4096 - lo)) w := by
  have hne : ¬ 4096 = lo := by omega
  have h1 : 0 ≤ (lo : Int) + m ∧ (lo : Int) + m ≤ 4096 := by omega
  have h2 : ((lo : Int) + m).toNat = lo + m := by omega
  simp [Instr.sliceAt, Instr.sureAddr, run_underlying page_len, Instr.sliceBounds, Instr.sliceBound, go_sem]
  rw [if_pos h1, h2, if_pos (Nat.le_add_right _ _), if_neg hne, Nat.add_sub_cancel_left]
theorem addr_add (b o j : Nat) : (⟨b, o, none⟩ : Addr).add j = ⟨b, o + j, none⟩ := by simp only [Addr.add]; split <;> simp_all
theorem copy_out {a n : Nat} (mm : Nat → UInt8) (l : List (Pc a n)) (x : Pc a n) (W : World) (O b : Nat) (hO : W.heap[O]? = some (.cells (outV mm l) 5 (0, 0)))
    (hb : ∀ j, j < x.1.2 → W.cell? ⟨b, (a + x.1.1) % 4096 + j, none⟩ = some (.int .u8 ((mm (a + x.1.1 + j)).toNat : Int))) (ty : TypeId) :
    (Builtin.copy_ #[118, 118] ty #[.slice (some ⟨O, x.1.1, none⟩) (n - x.1.1) (n - x.1.1), .slice (some ⟨b, (a + x.1.1) % 4096, none⟩) x.1.2 (4096 - (a + x.1.1) % 4096)]).run Tryz.prog W =
      .ok (goInt x.1.2) (W.setRow O (outV mm (l ++ [x]))) := by
  have hx := x.2
  obtain ⟨i0, hi, hz0, hz1, hz2⟩ := info_parts Tryz.infoByte
  have h := run_copy_row Tryz.prog W 118 118 ty 5 O x.1.1 (n - x.1.1) (n - x.1.1) ⟨b, (a + x.1.1) % 4096, none⟩ x.1.2 (4096 - (a + x.1.1) % 4096) (outV mm l) 5 (srcV mm (a + x.1.1) x.1.2)
    Tryz.underlying118 (by rw [hi]; simp [hz1]) hO (by rw [srcV_length]; exact (Nat.min_eq_left (by omega)).symm)
    (fun j v hj => by
      have hjl : j < x.1.2 := by have := (List.getElem?_eq_some_iff.1 hj).1; rw [srcV_length] at this; exact this
      rw [addr_add, hb j hjl]
      simp only [srcV, List.getElem?_map] at hj
      rw [List.getElem?_range hjl] at hj
      simpa using hj)
    (by rw [srcV_length, outV_size]; omega) (fun v hv => by simp only [srcV, List.mem_map] at hv; obtain ⟨_, _, rfl⟩ := hv; rfl)
  rw [h, srcV_length]
  have e := out_copy mm l x
  rw [srcV_length] at e
  rw [e]
theorem four_new (w : World) (a b c d : Array Value) (ta tb tc td : TypeId) :
    ((((w.alloc (.cells a ta)).alloc (.cells b tb)).alloc (.cells c tc)).alloc (.cells d td)).heap[w.heap.size]? = some (.cells a ta (0, 0)) ∧
    ((((w.alloc (.cells a ta)).alloc (.cells b tb)).alloc (.cells c tc)).alloc (.cells d td)).heap[w.heap.size + 1]? = some (.cells b tb (0, 0)) ∧
    ((((w.alloc (.cells a ta)).alloc (.cells b tb)).alloc (.cells c tc)).alloc (.cells d td)).heap[w.heap.size + 1 + 1]? = some (.cells c tc (0, 0)) ∧
    ((((w.alloc (.cells a ta)).alloc (.cells b tb)).alloc (.cells c tc)).alloc (.cells d td)).heap[w.heap.size + 1 + 1 + 1]? = some (.cells d td (0, 0)) := by
  obtain ⟨h1, h2, h3⟩ := three_new w a b c ta tb tc
  have hs : (((w.alloc (.cells a ta)).alloc (.cells b tb)).alloc (.cells c tc)).heap.size = w.heap.size + 1 + 1 + 1 := by simp
  refine ⟨?_, ?_, ?_, ?_⟩
  · rw [Below.heap_alloc _ _ _ (by omega)]; exact h1
  · rw [Below.heap_alloc _ _ _ (by omega)]; exact h2
  · rw [Below.heap_alloc _ _ _ (by omega)]; exact h3
  · have := heap_new (((w.alloc (.cells a ta)).alloc (.cells b tb)).alloc (.cells c tc)) (.cells d td); rw [hs] at this; exact this
section
variable {A P n cap : Nat} {s : ASt} {ps : List (Option Nat)} {p : Option Addr} {w : World}
def BytesPost (m : Nat → UInt8) (L : Nat) (es : List Nat) (a k : Int) (w : World) (e : Ending) (w' : World) : Prop :=
  e = .returned (.tuple #[.string (if thereE L es a k = 0 then strL (getM m a.toNat k.toNat) else ⟨#[]⟩), .int .i64 (thereE L es a k)]) ∧ Below w.heap.size w w'
set_option maxRecDepth 100000 in
set_option maxHeartbeats 4000000 in
theorem bytes_yes (h : ArX A s P ps p n cap w) (a k : Nat) (hn : thereE s.L s.es a k = 0) :
    CallsIn Fence.wide 4 Tryz.prog 54 #[.pointer (some ⟨A, 0, none⟩), .int .i64 a, .int .i64 k] w (BytesPost s.mm s.L s.es a k w) := by
  have ht : thereB s.L s.es a k = true := by
    unfold thereE at hn
    cases hq : thereB s.L s.es a k with
    | true => rfl
    | false => rw [hq] at hn; cases hn
  obtain ⟨t0, t1, t2, t3⟩ := (there_iff h.good a k).1 ht
  have HM : Hid (∀ i : Int, a ≤ i → i < a + k → mem s.es (i / 4096) = true) := Lib.hid t3
  have hsm := h.good.small
  have hk32 : k ≤ 4294967296 := by omega
  have ha32 : a ≤ 4294967296 := by omega
  have HNU := Lib.hid hn
  have hmk := run_bytes a k s.mm hk32
  have HX := Lib.hid h
  clear t3 hn ht h
  refine callsIn_of_wp_marks Tryz.func54 rfl trivial ?_ rfl
  simp only [Tryz.ntmps54, List.size_toArray, List.length_cons, List.length_nil, Nat.reduceAdd, Nat.reduceSub, Array.replicate_succ, Array.replicate_zero, List.push_toArray, List.append_toArray, List.nil_append, List.cons_append]
  gi_wp2_with fail
  have hxa := HX.out.below ((Below.refl w.heap.size w).alloc (Nat.le_refl _) (.cells #[.pointer (some ⟨A, 0, none⟩)] 26))
  refine ⟨trivial, (callsIn_wide.2 (there_any hxa a k (by omega))).mono ?_⟩
  rintro e w1 ⟨rfl, hb1⟩
  rw [HNU.out]
  have c0 : w1.cell? ⟨w.heap.size, 0, none⟩ = some (.pointer (some ⟨A, 0, none⟩)) := (hb1.cell (p := ⟨w.heap.size, 0, none⟩) (by simp)).trans (by simp)
  have B1 : Below w.heap.size w w1 := ((Below.refl w.heap.size w).alloc (Nat.le_refl _) (.cells #[.pointer (some ⟨A, 0, none⟩)] 26)).trans (hb1.mono (by simp))
  have hs1 : w.heap.size + 1 ≤ w1.heap.size := by have := hb1.size; simpa using this
  clear hb1 hxa
  gi_wp2_with (refine ⟨trivial, ?_⟩; gi_at_call 66; refine (callsIn_wide.2 (pieces_fn a k _)).mono ?_; rintro e w' ⟨rfl, rfl⟩)
  obtain ⟨w2, hw2⟩ : ∃ w2, (((w1.alloc (.cells (outV (a := a) (n := k) s.mm []) 5)).alloc (.cells #[.slice (some ⟨w1.heap.size, 0, none⟩) k k] 118)).alloc (.cells #[.int .i64 (a : Int)] 3)).alloc (.cells #[.int .i64 (k : Int)] 3) = w2 := ⟨_, rfl⟩
  have hsz : w2.heap.size = w1.heap.size + 4 := by rw [← hw2]; simp
  have hB2 : Below w1.heap.size w1 w2 := by rw [← hw2]; exact ((((Below.refl _ w1).alloc (Nat.le_refl _) _).alloc (by simp) _).alloc (by simp; omega) _).alloc (by simp; omega) _
  obtain ⟨h4a, h4b, h4c, h4d⟩ := four_new w1 (outV (a := a) (n := k) s.mm []) #[.slice (some ⟨w1.heap.size, 0, none⟩) k k] #[.int .i64 (a : Int)] #[.int .i64 (k : Int)] 5 118 3 3
  rw [hw2] at h4a h4b h4c h4d
  have hcA := (cell_blk h4c 0).1
  have hcN := (cell_blk h4d 0).1
  rw [hw2]
  clear hw2 hmk
  refine wpIn_rangeFunc_ownH rfl (by omega) (gf := 83) (lb := #[.pointer (some ⟨w1.heap.size + 1 + 1 + 1, 0, none⟩), .pointer (some ⟨w1.heap.size + 1 + 1, 0, none⟩)]) rfl trivial (enters_of Tryz.func83 (by kernel_rfl) rfl)
    (pieces_stops (4 - 1) (w1.heap.size + 1 + 1 + 1) (w1.heap.size + 1 + 1) a k hk32 ha32 w2 (by omega) (by omega) hcN hcA) K2.trans (K2.put (by omega) (by omega)) (Below.refl _ _) (fun _ => rfl)
    (fun pre W => ((W.heap[w1.heap.size]? = some (.cells (outV s.mm pre) 5 (0, 0)) ∧ W.heap[w1.heap.size + 1]? = some (.cells #[.slice (some ⟨w1.heap.size, 0, none⟩) k k] 118 (0, 0))) ∧ Below w1.heap.size w1 W) ∧ w2.heap.size ≤ W.heap.size)
    (fun _ _ _ => False)
    (OwnFrom.and (OwnFrom.and (fun pre X Y row hs hg hr => ⟨(grownBy_keeps_cells hg (fun r e => (hr r e).2) hs.1 rfl).trans hs.1, (grownBy_keeps_cells hg (fun r e => (hr r e).2) hs.2 rfl).trans hs.2⟩) (ownFrom_below (Nat.le_refl _) (by omega))) (fun pre X Y row hs hg hr => Nat.le_trans hs hg.size))
    (fun _ _ _ _ _ hs _ _ => hs)
    ⟨⟨⟨h4a, h4b⟩, hB2⟩, Nat.le_refl _⟩
    (fun x a' W => ∃ V, w2.heap.size ≤ V ∧ a' = { tmps := #[.pointer (some ⟨A, 0, none⟩), .int .i64 a, .int .i64 k, .pointer (some ⟨w.heap.size, 0, none⟩), undef, undef, .string { data := #[] }, .int .i64 0, .int .i64 0, .pointer (some ⟨w1.heap.size + 1, 0, none⟩), .int .i64 (x.1.1 : Int), .pointer (some ⟨V, 0, none⟩), undef, .pointer (some ⟨A, 0, none⟩), .int .i64 a, .int .i64 k, .int .i64 0, .int .i64 0, .bool false, undef, .int .i64 k, .slice (some ⟨w1.heap.size, 0, none⟩) k k, .int .i64 a, .int .i64 k, .func (.func 83) #[] #[.pointer (some ⟨w1.heap.size + 1 + 1 + 1, 0, none⟩), .pointer (some ⟨w1.heap.size + 1 + 1, 0, none⟩)], .int .i64 (x.1.1 : Int), .agg #[.int .i64 (((a + x.1.1) / 4096 : Nat) : Int), .int .i64 (((a + x.1.1) % 4096 : Nat) : Int), .int .i64 (((a + x.1.1) % 4096 + x.1.2 : Nat) : Int)], undef, undef, undef, undef, undef, undef, undef, undef, undef, undef, undef, undef, undef, undef, undef, undef, undef, undef, undef, undef, undef, undef, undef], defers := [] } ∧ W.heap[V]? = some (.cells #[.int .i64 (((a + x.1.1) / 4096 : Nat) : Int), .int .i64 (((a + x.1.1) % 4096 : Nat) : Int), .int .i64 (((a + x.1.1) % 4096 + x.1.2 : Nat) : Int)] 123 (0, 0)))
    (fun x a' _ X Y row hs hg hr => by
      obtain ⟨V, h1, h2, h3⟩ := hs
      exact ⟨V, h1, h2, (grownBy_keeps_cells hg (fun r e => (hr r e).2) h3 rfl).trans h3⟩)
    ?assign ?body ?done ?stop
  case assign =>
    intro l pre x W K hI hK
    simp only [encPc]
    generalize (a + x.1.1) % 4096 + x.1.2 = g3 at *
    generalize (a + x.1.1) / 4096 = g1 at *
    generalize (a + x.1.1) % 4096 = g2 at *
    gi_wp2
    exact hK _ _ ((KeepsOthers.alloc _ _).from _) ⟨Below.heap_alloc _ _ _ (by have := hI.2; omega), Below.heap_alloc _ _ _ (by have := hI.2; omega)⟩
      ⟨⟨⟨(Below.heap_alloc _ _ _ (by have := hI.2; omega)).trans hI.1.1.1, (Below.heap_alloc _ _ _ (by have := hI.2; omega)).trans hI.1.1.2⟩, hI.1.2.alloc hI.1.2.size _⟩, by have := hI.2; simp; omega⟩
      ⟨W.heap.size, hI.2, rfl, heap_new _ _⟩
  case body =>
    rintro l pre x a' W hl hlr ⟨⟨⟨iO, iB⟩, iW⟩, iS⟩ ⟨V, hV, rfl, hcV⟩ hlen
    have hx := x.2
    obtain ⟨hx0, hx1, hx2⟩ := hx
    have hXW := HX.out.below (B1.trans (iW.mono B1.size))
    obtain ⟨_, _, c2, _, _⟩ := hXW.head
    have cb := (iW.cell (p := ⟨w.heap.size, 0, none⟩) (by show w.heap.size < w1.heap.size; omega)).trans c0
    have v0 := (cell_blk hcV 0).1
    have v1 := (cell_blk hcV 1).1
    have v2 := (cell_blk hcV 2).1
    have ob := (cell_blk iB 0).1
    have hi : (a + x.1.1) / 4096 < s.L := by omega
    have hil : (a + x.1.1) / 4096 < ps.length := by rw [HX.out.len]; exact hi
    have HXW := Lib.hid hXW
    clear hXW
    obtain ⟨d, hd⟩ : ∃ d, x.1.1 = d := ⟨_, rfl⟩
    obtain ⟨m, hm⟩ : ∃ m, x.1.2 = m := ⟨_, rfl⟩
    obtain ⟨g1, hg1⟩ : ∃ g1, (a + d) / 4096 = g1 := ⟨_, rfl⟩
    obtain ⟨g2, hg2⟩ : ∃ g2, (a + d) % 4096 = g2 := ⟨_, rfl⟩
    simp only [hd, hm] at hx0 hx1 hx2 hi hil v0 v1 v2 hcV ⊢
    simp only [hg1, hg2] at hx2 hi hil v0 v1 v2 hcV ⊢
    have HD := Lib.hid hd; have HMm := Lib.hid hm; have HG1 := Lib.hid hg1; have HG2 := Lib.hid hg2
    clear hd hm hg1 hg2
    cases hq : ps[g1]? with
    | none => rw [List.getElem?_eq_none_iff] at hq; omega
    | some q =>
      have hsl := HXW.out.slot hq
      cases q with
      | none =>
        simp only [ptrV] at hsl
        have HQ := Lib.hid hq; clear hq
        gi_wp2_with fail
        refine round_still_tail 8 (by kernel_rfl) (by kernel_rfl) (by kernel_rfl) ?_
        simp only [List.take_succ_cons, List.take_zero, List.drop_succ_cons, List.drop_zero]
        repeat still_step
        refine wpStill_nil ?_
        gi_wp2_with fail
        have HS := Lib.hid (out_skip s.mm pre x fun i h1 h2 => by
          rw [HD.out] at h1 h2; rw [HMm.out] at h2
          have hz := HXW.out.no g1 HQ.out (g2 + (i - d)) (by omega)
          have hg1 := HG1.out; have hg2 := HG2.out
          rw [show g1 * 4096 + (g2 + (i - d)) = a + i from by omega] at hz; exact hz)
        exact ⟨(KeepsOthers.drew _).from _, K2.drew _, ⟨⟨by rw [HS.out]; exact iO, iB⟩, iW.drew⟩, iS⟩
      | some b =>
        simp only [ptrV] at hsl
        have HQ := Lib.hid hq; clear hq
        gi_wp2_with fail
        refine round_still_tail 8 (by kernel_rfl) (by kernel_rfl) (by kernel_rfl) ?_
        simp only [List.take_succ_cons, List.take_zero, List.drop_succ_cons, List.drop_zero]
        repeat still_step
        refine wpStill_nil ?_
        have z1 : (d : Int) < k := by omega
        have z2 : ((g2 + m : Nat) : Int) ≤ 4096 := by omega
        have z3 : (g2 : Int) ≤ ((g2 + m : Nat) : Int) := by omega
        have z4 : d ≤ k := by omega
        have z5 : ¬ k = d := by omega
        have HSP := slice_page b g2 m hx0 hx2
        have HCP : ∀ ty, (Builtin.copy_ #[118, 118] ty #[.slice (some ⟨w1.heap.size, d, none⟩) (k - d) (k - d), .slice (some ⟨b, g2, none⟩) m (4096 - g2)]).run Tryz.prog W.drew.drew = .ok (goInt m) (W.drew.drew.setRow w1.heap.size (outV s.mm (pre ++ [x]))) := fun ty => by
          have h := copy_out s.mm pre x W.drew.drew w1.heap.size b iO (fun j hj => by
            rw [HMm.out] at hj
            rw [HD.out, HG2.out]
            have hby := HXW.out.byte HQ.out (show g2 + j < 4096 by omega)
            have hg1 := HG1.out; have hg2 := HG2.out
            rw [show g1 * 4096 + (g2 + j) = a + d + j from by omega] at hby; exact hby) ty
          rw [HD.out, HMm.out, HG2.out] at h
          exact h
        gi_wp2_with fail
        refine round_still_tail 10 (by kernel_rfl) (by kernel_rfl) (by kernel_rfl) ?_
        simp only [List.take_succ_cons, List.take_zero, List.drop_succ_cons, List.drop_zero]
        repeat still_step
        refine wpStill_nil ?_
        gi_wp2_with fail
        have hOlt : w1.heap.size < W.drew.drew.heap.size := by show w1.heap.size < W.heap.size; omega
        refine ⟨?_, ?_, ⟨⟨?_, ?_⟩, ?_⟩, ?_⟩
        · exact ⟨by rw [setRow_size]; exact Nat.le_refl _, fun j o hB hj hc => (setRow_other _ _ _ _ (by omega)).trans hj⟩
        · exact ⟨setRow_other _ _ _ _ (by omega), setRow_other _ _ _ _ (by omega)⟩
        · exact setRow_heap _ _ _ _ _ _ iO
        · exact (setRow_other _ _ _ _ (by omega)).trans iB
        · exact below_setRow iW.drew.drew (Nat.le_refl _) _
        · rw [setRow_size]; exact iS
  case done =>
    rintro D xs W hD hS ⟨⟨⟨iO, iB⟩, iW⟩, iS⟩ hK
    have ob := (cell_blk iB 0).1
    have HCV : (convert 118 9 (.slice (some ⟨w1.heap.size, 0, none⟩) k k)).run Tryz.prog W = .ok (.string (strL (getM s.mm a k))) W := by
      have h := run_convert_bytes_arg (P := Tryz.prog) W 118 5 Tryz.underlying118 Tryz.underlying5 w1.heap.size 0 k k ((List.range k).map fun i => ((s.mm (a + i)).toNat : Int)) (by simp) (fun i hi => by
        rw [(cell_blk iO _).1, Nat.zero_add, outV_get s.mm xs i hi, hS i hi]
        simp [List.getD_eq_getElem?_getD, hi]) 9 Tryz.underlying9
      rw [h]
      congr 2
      simp [strOfNums, strL, getM, Function.comp_def]
    clear iO iB
    gi_wp2_with fail
    refine ⟨by simp, .inl ⟨_, _, rfl, run_takeDeferred hK, ?_⟩⟩
    refine ⟨_, results_tmp2 rfl _ _ _, ?_, ((B1.trans (iW.mono B1.size)).trans ((belowK_b (w := w1) (Nat.le_refl _) W D _ _ (by omega) hK rfl rfl).mono B1.size))⟩
    rw [HNU.out, if_pos rfl, Int.toNat_natCast, Int.toNat_natCast]; rfl
  case stop =>
    rintro D c pre W _ _ h _
    exact h.elim
theorem bytes_no (h : ArX A s P ps p n cap w) (a k : Int) (ha : a ≤ 9223372036854775807) (hn : thereE s.L s.es a k ≠ 0) :
    Calls Tryz.prog 54 #[.pointer (some ⟨A, 0, none⟩), .int .i64 a, .int .i64 k] w (BytesPost s.mm s.L s.es a k w) := by
  have hb0 : (thereE s.L s.es a k != 0) = true := by rw [bne_iff_ne]; exact hn
  have HC := fun w (hw : ArX A s P ps p n cap w) => there_any hw a k ha
  have HNE := Lib.hid hn
  clear hn
  go_enter Tryz.func54, Tryz.ntmps54
  go_wp2_with fail
  refine (HC _ (h.below ((Below.refl w.heap.size w).alloc (Nat.le_refl _) _))).mono ?_
  rintro e w1 ⟨rfl, hb⟩
  have B1 : Below w.heap.size w w1 := ((Below.refl w.heap.size w).alloc (Nat.le_refl _) (.cells #[.pointer (some ⟨A, 0, none⟩)] 26)).trans (hb.mono (by simp))
  clear h HC hb
  go_wp2_with fail
  go_ret2
  refine ⟨?_, B1⟩
  rw [if_neg HNE.out]; rfl
theorem bytes_any (h : ArX A s P ps p n cap w) (a k : Int) (ha : a ≤ 9223372036854775807) :
    Calls Tryz.prog 54 #[.pointer (some ⟨A, 0, none⟩), .int .i64 a, .int .i64 k] w (BytesPost s.mm s.L s.es a k w) := by
  by_cases hn : thereE s.L s.es a k = 0
  · have ht : thereB s.L s.es a k = true := by
      unfold thereE at hn
      cases hq : thereB s.L s.es a k with
      | true => rfl
      | false => rw [hq] at hn; cases hn
    obtain ⟨t0, t1, t2, t3⟩ := (there_iff h.good a k).1 ht
    obtain ⟨an, rfl⟩ : ∃ an : Nat, a = an := ⟨a.toNat, by omega⟩
    obtain ⟨kn, rfl⟩ : ∃ kn : Nat, k = kn := ⟨k.toNat, by omega⟩
    exact callsIn_wide.1 (bytes_yes h an kn hn)
  · exact bytes_no h a k ha hn
theorem bytes_nil (a k : Int) (w : World) : Calls Tryz.prog 54 #[.pointer none, .int .i64 a, .int .i64 k] w fun e w' => e = .returned (.tuple #[.string ⟨#[]⟩, .int .i64 1]) ∧ Below w.heap.size w w' := by
  go_enter Tryz.func54, Tryz.ntmps54
  go_wp2_with fail
  refine (there_nil a k _).mono ?_
  rintro e w1 ⟨rfl, rfl⟩
  go_wp2_with fail
  go_ret2
  exact ⟨rfl, (Below.refl w.heap.size w).alloc (Nat.le_refl _) _⟩
end
end Go.Proofs.YtmnhpmgffhpoeaaGreat.Bt
