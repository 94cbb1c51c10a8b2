/- Several texts in one: HnG; HnH; HnI; HnJ; HnK; HnM; HnO; HnP; HnQ. -/
import Derived.Test.YtllghngjnhbmaaaHnE
import Derived.Laws.CopyRow
import Derived.Laws.MakeOwn
import Derived.Laws.AppendOwn
import Derived.Test.YtllghngjnhbmaaaBitsVar
import Derived.Lib.SmallJoins
import Derived.Deep.Slices
import Derived.Deep.Strs
import Derived.ChangeSame
import Derived.OpenShut
import Derived.WideShapes
import Derived.WalkSmall
import Derived.Maps.OwnOps
import Derived.Maps.Views
import Derived.Carry
import Derived.Laws.OwnMore
import Derived.Maps.RangeWalk
/- The document's table: a row of slots in a block of its own; with, find. (Written by gen_hng.py.) -/
namespace Go.Proofs.Ytllghngjnhbmaaa.Bt
open Go Go.RowKit Go.Shelf
set_option linter.unusedVariables false
set_option linter.unusedSimpArgs false
def slV (q : Nat → Nat × Nat) (i : Nat) : Value := if i % 2 = 0 then .int .i64 ((q (i / 2)).1 : Int) else .int .u64 ((q (i / 2)).2 : Int)
def slC (n : Nat) (q : Nat → Nat × Nat) : Array Value := ((List.range (n * 2)).map (slV q)).toArray
theorem slC_size (n : Nat) (q : Nat → Nat × Nat) : (slC n q).size = n * 2 := by simp [slC]
theorem slC_at (n : Nat) (q : Nat → Nat × Nat) (i : Nat) (hi : i < n * 2) : (slC n q)[i]? = some (slV q i) := by simp [slC, hi]
theorem slC_get (n : Nat) (q : Nat → Nat × Nat) (k : Nat) (hk : k < n) : (slC n q)[k * 2]? = some (.int .i64 ((q k).1 : Int)) ∧ (slC n q)[k * 2 + 1]? = some (.int .u64 ((q k).2 : Int)) := by
  constructor
  · rw [slC_at _ _ _ (by omega)]; unfold slV; rw [if_pos (by omega), show k * 2 / 2 = k by omega]
  · rw [slC_at _ _ _ (by omega)]; unfold slV; rw [if_neg (by omega), show (k * 2 + 1) / 2 = k by omega]
theorem slC_set (n : Nat) (q : Nat → Nat × Nat) (k : Nat) (hk : k < n) (v : Nat × Nat) :
    ((slC n q).setIfInBounds (k * 2) (.int .i64 (v.1 : Int))).setIfInBounds (k * 2 + 1) (.int .u64 (v.2 : Int)) = slC n (upd q k v) := by
  apply Array.ext_getElem?
  intro i
  rw [Array.getElem?_setIfInBounds, Array.getElem?_setIfInBounds]
  by_cases hi : i < n * 2
  · rw [slC_at _ _ _ hi]
    by_cases e1 : k * 2 + 1 = i
    · subst e1
      rw [if_pos rfl, if_pos (by rw [Array.size_setIfInBounds, slC_size]; omega), slC_at _ _ _ (by omega)]
      unfold slV; rw [if_neg (by omega), show (k * 2 + 1) / 2 = k by omega, upd_same]
    · rw [if_neg e1]
      by_cases e0 : k * 2 = i
      · subst e0
        rw [if_pos rfl, if_pos (by rw [slC_size]; omega), slC_at _ _ _ (by omega)]
        unfold slV; rw [if_pos (by omega), show k * 2 / 2 = k by omega, upd_same]
      · rw [if_neg e0, slC_at _ _ _ hi]
        unfold slV
        rw [upd_other (show i / 2 ≠ k by omega)]
  · rw [if_neg (by omega), if_neg (by omega), Array.getElem?_eq_none (by rw [slC_size]; omega), Array.getElem?_eq_none (by rw [slC_size]; omega)]
/-- a row of slots in its own block -/
def SlB (D n : Nat) (q : Nat → Nat × Nat) (w : World) : Prop := w.heap[D]? = some (.cells (slC n q) 72 (0, 0))
theorem SlB.lt {D n : Nat} {q : Nat → Nat × Nat} {w : World} (h : SlB D n q w) : D < w.heap.size := (Array.getElem?_eq_some_iff.1 (show w.heap[D]? = _ from h)).1
theorem SlB.below {D n : Nat} {q : Nat → Nat × Nat} {w z : World} (h : SlB D n q w) (hb : Below w.heap.size w z) : SlB D n q z := (hb.block _ h.lt).trans h
theorem SlB.cells {D n : Nat} {q : Nat → Nat × Nat} {w : World} (h : SlB D n q w) {k : Nat} (hk : k < n) : w.cell? ⟨D, k * 2, none⟩ = some (.int .i64 ((q k).1 : Int)) ∧ w.cell? ⟨D, k * 2 + 1, none⟩ = some (.int .u64 ((q k).2 : Int)) ∧ w.frozen? ⟨D, k * 2, none⟩ = false ∧ w.frozen? ⟨D, k * 2 + 1, none⟩ = false :=
  ⟨(cell_blk h _).1.trans (slC_get n q k hk).1, (cell_blk h _).1.trans (slC_get n q k hk).2, (cell_blk h _).2, (cell_blk h _).2⟩
theorem SlB.set {D n : Nat} {q : Nat → Nat × Nat} {w : World} (h : SlB D n q w) (k : Nat) (hk : k < n) (v : Nat × Nat) : SlB D n (upd q k v) ((w.setCell ⟨D, k * 2, none⟩ (.int .i64 (v.1 : Int))).setCell ⟨D, k * 2 + 1, none⟩ (.int .u64 (v.2 : Int))) := by
  have := heap_set (o := k * 2 + 1) (heap_set (o := k * 2) h (.int .i64 (v.1 : Int))) (.int .u64 (v.2 : Int))
  rw [slC_set n q k hk v] at this
  exact this
theorem Try.infoSl : (Try.prog.info? 72).map (fun i => (i.zero, i.size, i.bytes)) = some (some (.agg #[.int .i64 0, .int .u64 0]), 2, 16) := by kernel_rfl
theorem made_slots (n : Nat) : madeCells (Value.agg #[.int .i64 0, .int .u64 0]).cells (n * 2) = slC n q00 := by
  apply Array.ext_getElem?
  intro i
  by_cases hi : i < n * 2
  · rw [slC_at _ _ _ hi]
    have : i % 2 = 0 ∨ i % 2 = 1 := by omega
    rcases this with h | h <;> simp [madeCells, hi, Value.cells, h, slV, q00]
  · rw [Array.getElem?_eq_none (by rw [size_madeCells]; omega), Array.getElem?_eq_none (by rw [slC_size]; omega)]
theorem run_slots (n : Nat) (hn : n ≤ 2000) (w : World) :
    (Instr.makeSlice 32 (.int .i64 (n : Int)) (.int .i64 (n : Int))).run Try.prog w = .ok (.slice (some ⟨w.heap.size, 0, none⟩) n n) (w.alloc (.cells (slC n q00) 72)) := by
  obtain ⟨i0, hi, hz0, hz1, hz2⟩ := info_parts Try.infoSl
  have h := run_make (P := Try.prog) w 32 72 i0 (.agg #[.int .i64 0, .int .u64 0]) Try.underlying32 hi hz0 .i64 .i64 (n : Int) n (by omega) (Int.le_refl _) (by rw [hz2]; omega) (by omega)
  rw [Int.toNat_natCast, hz1, made_slots] at h
  exact h
theorem run_copy_rowsS (P : Program) (w : World) (dT sT ty elem : TypeId) (g dLen dCap : Nat) (a : Addr) (sLen sCap : Nat) (cur : Array Value) (t : TypeId) (cs : List Value) (sz m : Nat)
    (hu : P.underlying dT = some (.slice elem)) (hs : (P.info? elem).map (·.size) = some sz) (hm : Nat.min sLen dLen = m)
    (hg : w.heap[g]? = some (.cells cur t (0, 0))) (hn : cs.length = m * sz)
    (hsrc : ∀ j v, cs[j]? = some v → w.cell? (a.add j) = some v) (hfit : cs.length = cur.size) (h1 : ∀ v ∈ cs, v.oneCell' = true) :
    (Builtin.copy_ #[dT, sT] ty #[.slice (some ⟨g, 0, none⟩) dLen dCap, .slice (some a) sLen sCap]).run P w = .ok (goInt m) (w.setRow g cs.toArray) := by
  have hl := run_loadCells_list (P := P) w a cs hsrc
  have hst := run_storeCells_at P g 0 t cs 0 cur w hg (by simpa using Nat.le_of_eq hfit) h1
  cases hq : P.info? elem with
  | none => simp [hq] at hs
  | some i =>
    have hi : i.size = sz := by simpa [hq] using hs
    simp [Builtin.copy_, run_underlying hu, Builtin.lenOf, Builtin.firstCells, sizeOf, typeInfo, hq, hi, hm, ← hn, hl, hst]
    rw [hfit, List.drop_of_length_le (by simp), List.append_nil]
theorem copy_slots (x : World) (O N n : Nat) (q q0 : Nat → Nat × Nat) (hO : SlB O n q0 x) (hN : SlB N n q x) (ty : TypeId) :
    (Builtin.copy_ #[32, 32] ty #[.slice (some ⟨O, 0, none⟩) n n, .slice (some ⟨N, 0, none⟩) n n]).run Try.prog x = .ok (goInt n) (x.setRow O (slC n q)) := by
  obtain ⟨i0, hi, hz0, hz1, hz2⟩ := info_parts Try.infoSl
  have h := run_copy_rowsS Try.prog x 32 32 ty 72 O n n ⟨N, 0, none⟩ n n (slC n q0) 72 (slC n q).toList 2 n Try.underlying32 (by rw [hi]; simp [hz1]) (Nat.min_self n) hO (by simp [slC_size])
    (fun j v hj => by
      have hjl : j < n * 2 := by
        have h3 := (List.getElem?_eq_some_iff.1 hj).1
        simpa [slC_size] using h3
      have hj2 : (slC n q)[j]? = some v := by simpa using hj
      rw [addr_add, ← hj2]
      first
      | exact (cell_blk hN j).1
      | (rw [Nat.zero_add]; exact (cell_blk hN j).1)) (by simp [slC_size]) (fun v hv => by
      have hv2 : v ∈ slC n q := by simpa using hv
      simp only [slC, List.mem_toArray, List.mem_map] at hv2
      obtain ⟨j, _, rfl⟩ := hv2
      unfold slV
      split <;> rfl)
  simpa using h
def WiP (n : Nat) (q : Nat → Nat × Nat) (w : World) (e : Ending) (w' : World) : Prop := ∃ O, e = .returned (.slice (some ⟨O, 0, none⟩) n n) ∧ SlB O n q w' ∧ w.heap.size ≤ O ∧ Below w.heap.size w w'
set_option maxRecDepth 100000 in
set_option maxHeartbeats 4000000 in
theorem swith (N n : Nat) (hn : n ≤ 256) (q : Nat → Nat × Nat) (i : Nat) (hi : i < n) (v : Nat × Nat) (w : World) (h : SlB N n q w) :
    Calls Try.prog 31 #[.slice (some ⟨N, 0, none⟩) n n, .int .i64 (i : Int), .agg #[.int .i64 (v.1 : Int), .int .u64 (v.2 : Int)]] w (WiP n (upd q i v) w) := by
  have hb0 := bel1 w (.cells #[.int .i64 (v.1 : Int), .int .u64 (v.2 : Int)] 72)
  have hv0 : (w.alloc (.cells #[.int .i64 (v.1 : Int), .int .u64 (v.2 : Int)] 72)).heap[w.heap.size]? = some (.cells #[.int .i64 (v.1 : Int), .int .u64 (v.2 : Int)] 72 (0, 0)) := heap_new _ _
  have h0 := h.below hb0
  have hi1 : (i : Int) < (n : Int) := by omega
  have hi0 : (0 : Int) ≤ (i : Int) := by omega
  have HW0 := Lib.hid (And.intro hv0 h0)
  have HB0 := Lib.hid hb0
  clear hb0 hv0 h0 h
  go_enter Try.func31, Try.ntmps31
  go_upto_region 1 with fail
  change Code.wp _ _ _ _ (w.alloc (.cells #[.int .i64 (v.1 : Int), .int .u64 (v.2 : Int)] 72))
  obtain ⟨y, hy⟩ : ∃ y, w.alloc (.cells #[.int .i64 (v.1 : Int), .int .u64 (v.2 : Int)] 72) = y := ⟨_, rfl⟩
  obtain ⟨C, hC⟩ : ∃ C, w.heap.size = C := ⟨_, rfl⟩
  have HWC := Lib.hid hC
  have hw0 := HW0.out
  rw [hy, hC] at hw0
  rw [hy] at HB0
  rw [hy, hC]
  obtain ⟨hv0, h0⟩ := hw0
  have hb0 := HB0.out
  clear hy hC HW0
  have hmk := run_slots n (by omega) y
  have hO : SlB y.heap.size n q00 (y.alloc (.cells (slC n q00) 72)) := heap_new _ _
  have hcp := fun ty => copy_slots (y.alloc (.cells (slC n q00) 72)) y.heap.size N n q q00 hO (h0.below (bel1 y _)) ty
  have hsr : SlB y.heap.size n q ((y.alloc (.cells (slC n q00) 72)).setRow y.heap.size (slC n q)) := setRow_heap _ _ _ _ _ _ hO
  have hbr := below_setRow (bel1 y (.cells (slC n q00) 72)) (Nat.le_refl _) (slC n q)
  have HQ : Hid (SlB y.heap.size n q ((y.alloc (.cells (slC n q00) 72)).setRow y.heap.size (slC n q)) ∧ Below y.heap.size y ((y.alloc (.cells (slC n q00) 72)).setRow y.heap.size (slC n q))) := Lib.hid ⟨hsr, hbr⟩
  have HY := Lib.hid (And.intro hb0 hv0)
  clear hO hsr hbr hb0 hv0 h0
  go_upto_region 3 with fail
  obtain ⟨y2, hy2⟩ : ∃ y2, (y.alloc (.cells (slC n q00) 72)).setRow y.heap.size (slC n q) = y2 := ⟨_, rfl⟩
  obtain ⟨O, hO⟩ : ∃ O, y.heap.size = O := ⟨_, rfl⟩
  have HYO := Lib.hid hO
  have hq := HQ.out
  rw [hy2, hO] at hq
  rw [hy2, hO]
  clear hy2 hcp hmk HQ
  have HB2 : Hid (Below w.heap.size w y2 ∧ w.heap.size ≤ O) := Lib.hid ⟨HY.out.1.trans ((hO ▸ hq.2).mono (hO ▸ HY.out.1.size)), hO ▸ HY.out.1.size⟩
  have hvc := (hq.2.block C (by have := (Array.getElem?_eq_some_iff.1 HY.out.2).1; omega)).trans HY.out.2
  have c0 := (cell_blk hvc 0).1; have c1 := (cell_blk hvc 1).1
  obtain ⟨k0, k1, f0, f1⟩ := hq.1.cells hi
  have HST := Lib.hid (hq.1.set i hi v)
  have HBS := Lib.hid ((HB2.out.1.setCell (p := ⟨O, i * 2, none⟩) HB2.out.2 (.int .i64 (v.1 : Int))).setCell (p := ⟨O, i * 2 + 1, none⟩) HB2.out.2 (.int .u64 (v.2 : Int)))
  clear hq hvc hO hi
  go_wp2_with fail
  go_ret
  exact ⟨O, rfl, HST.out, HB2.out.2, HBS.out⟩
open Classical in
/-- what find tells -/
theorem isH_iff {n : Nat} {q : Nat → Nat × Nat} {h j : Nat} (hn : n ≤ 256) (hj : j < n) : (0 < (q j).1 ∧ h = 256 * (q j).2 + j) ↔ (isH n q h ∧ h % 256 = j) := by
  unfold isH
  constructor
  · rintro ⟨a, b⟩
    have e : h % 256 = j := by omega
    rw [e]
    exact ⟨⟨hj, a, by omega⟩, rfl⟩
  · rintro ⟨⟨a, b, c⟩, e⟩
    rw [e] at b c
    exact ⟨b, by omega⟩
def FiP (n : Nat) (q : Nat → Nat × Nat) (h : Nat) (w : World) (e : Ending) (w' : World) : Prop :=
  ((isH n q h ∧ e = .returned (.int .i64 ((h % 256 : Nat) : Int))) ∨ (¬ isH n q h ∧ e = .returned (.int .i64 (-1)))) ∧ Below w.heap.size w w'
set_option maxRecDepth 100000 in
set_option maxHeartbeats 4000000 in
theorem sfind (N n : Nat) (hn : n ≤ 256) (q : Nat → Nat × Nat) (hqb : ∀ i, (q i).1 < 9223372036854775808 ∧ (q i).2 < 72057594037927936) (h : Nat) (w : World) (hr : SlB N n q w) :
    Calls Try.prog 30 #[.slice (some ⟨N, 0, none⟩) n n, .int .u64 (h : Int)] w (FiP n q h w) := by
  have HR := Lib.hid hr
  have HQB := Lib.hid hqb
  have HI := Lib.hid fun j (hj : j < n) => isH_iff (q := q) (h := h) hn hj
  clear hr hqb
  go_enter Try.func30, Try.ntmps30
  go_wp2_with fail
  go_loopw [9] (fun s9 wr => ∃ j : Nat, j ≤ n ∧ s9 = .int .i64 (j : Int) ∧ Hid (∀ k, k < j → ¬ (0 < (q k).1 ∧ h = 256 * (q k).2 + k)) ∧ Hid (Below w.heap.size w wr)) (fun s9 _ => n - (intOf s9).toNat)
  case atStart => exact ⟨0, Nat.zero_le _, rfl, Lib.hid fun k hk => absurd hk (Nat.not_lt_zero k), Lib.hid (Below.refl _ _)⟩
  case round =>
    obtain ⟨j, hj, rfl, HNO, HB⟩ := hrel
    by_cases hjn : j < n
    · have hjn2 : (j : Int) < (n : Int) := by omega
      have hj0 : (0 : Int) ≤ (j : Int) := by omega
      obtain ⟨k0, k1, _, _⟩ := (HR.out.below HB.out).cells hjn
      obtain ⟨b0, b1⟩ := HQB.out j
      have HIJ := Lib.hid (HI.out j hjn)
      obtain ⟨x, hx⟩ : ∃ x, (q j).1 = x := ⟨_, rfl⟩
      obtain ⟨g, hg⟩ : ∃ g, (q j).2 = g := ⟨_, rfl⟩
      rw [hx] at k0 b0
      rw [hg] at k1 b1
      have HXG := Lib.hid (And.intro hx hg)
      have q1 : IntKind.u64.wrap (256 * (g : Int)) = 256 * (g : Int) := by rw [IntKind.wrap_u64]; omega
      have q2 : IntKind.u64.wrap (j : Int) = (j : Int) := by rw [IntKind.wrap_u64]; omega
      have q3 : IntKind.u64.wrap (256 * (g : Int) + (j : Int)) = 256 * (g : Int) + (j : Int) := by rw [IntKind.wrap_u64]; omega
      have HB1 := Lib.hid ((HB.out.alloc HB.out.size (.cells #[.int .i64 (x : Int), .int .u64 (g : Int)] 72)))
      have HJN := Lib.hid (And.intro hjn hn)
      clear hx hg b0 b1 hj hjn
      by_cases hx0 : 0 < x
      · have hx1 : (0 : Int) < (x : Int) := by omega
        by_cases hm : h = 256 * g + j
        · have hm1 : ((h : Int) == 256 * (g : Int) + (j : Int)) = true := beq_iff_eq.2 (by omega)
          have hm2 : (h : Int) = 256 * (g : Int) + (j : Int) := by omega
          have HY := Lib.hid (HIJ.out.1 ⟨by rw [HXG.out.1]; exact hx0, by rw [HXG.out.2]; exact hm⟩)
          clear hm hx0
          go_wp2_with fail
          go_ret
          exact ⟨.inl ⟨HY.out.1, by rw [HY.out.2]; rfl⟩, HB1.out⟩
        · have hm1 : ((h : Int) == 256 * (g : Int) + (j : Int)) = false := beq_eq_false_iff_ne.2 (by omega)
          have hm2 : ¬ ((h : Int) = 256 * (g : Int) + (j : Int)) := by omega
          have HNO2 : Hid (∀ k, k < j + 1 → ¬ (0 < (q k).1 ∧ h = 256 * (q k).2 + k)) := Lib.hid fun k hk => by
            rcases Nat.lt_or_ge k j with c | c
            · exact HNO.out k c
            · obtain rfl : k = j := by omega
              rw [HXG.out.2]; exact fun c => hm c.2
          clear hm hx0
          obtain ⟨hjn, hn⟩ := HJN.out
          go_wp2_with fail
          go_roundw
          case rel => exact ⟨j + 1, by omega, by go_num, HNO2, HB1⟩
          case measure => simp [intOf]; omega
      · have hx1 : ¬ ((0 : Int) < (x : Int)) := by omega
        have HNO2 : Hid (∀ k, k < j + 1 → ¬ (0 < (q k).1 ∧ h = 256 * (q k).2 + k)) := Lib.hid fun k hk => by
          rcases Nat.lt_or_ge k j with c | c
          · exact HNO.out k c
          · obtain rfl : k = j := by omega
            rw [HXG.out.1]; exact fun c => hx0 c.1
        clear hx0
        obtain ⟨hjn, hn⟩ := HJN.out
        go_wp2_with fail
        go_roundw
        case rel => exact ⟨j + 1, by omega, by go_num, HNO2, HB1⟩
        case measure => simp [intOf]; omega
    · obtain rfl : j = n := by omega
      have HNH : Hid (¬ isH j q h) := Lib.hid fun c => by
        have := (HI.out (h % 256) c.1).2 ⟨c, rfl⟩
        exact HNO.out _ c.1 this
      clear hj hjn
      go_wp2_with fail
      go_ret
      exact ⟨.inr ⟨HNH.out, rfl⟩, HB.out⟩
end Go.Proofs.Ytllghngjnhbmaaa.Bt
/- The document's New, Get, Move, Drop. (Written by gen_hnh.py.) -/
namespace Go.Proofs.Ytllghngjnhbmaaa.Bt
open Go Go.RowKit Go.Shelf
set_option linter.unusedVariables false
set_option linter.unusedSimpArgs false
def SvC (F x g : Nat) (w : World) : Prop := w.heap[F]? = some (.cells #[.int .i64 (x : Int), .int .u64 (g : Int)] 72 (0, 0))
theorem SvC.below {F x g : Nat} {w z : World} (h : SvC F x g w) (hb : Below w.heap.size w z) : SvC F x g z := (hb.block _ (Array.getElem?_eq_some_iff.1 (show w.heap[F]? = _ from h)).1).trans h
theorem SvC.all {F x g : Nat} {w : World} (h : SvC F x g w) : w.cell? ⟨F, 0, none⟩ = some (.int .i64 (x : Int)) ∧ w.cell? ⟨F, 1, none⟩ = some (.int .u64 (g : Int)) := ⟨(cell_blk h 0).1, (cell_blk h 1).1⟩
/-- what New does to the slots -/
def AltN (n : Nat) (a : Int) (q q' : Nat → Nat × Nat) (h er : Int) : Prop :=
  (a < 1 ∧ q' = q ∧ h = 0 ∧ er = 2) ∨ (1 ≤ a ∧ (∀ k, k < n → ¬ free q k) ∧ q' = q ∧ h = 0 ∧ er = 10) ∨
     (1 ≤ a ∧ ∃ i, i < n ∧ free q i ∧ (∀ k, k < i → ¬ free q k) ∧ q' = upd q i (a.toNat, (q i).2 + 1) ∧ h = (hOf q i : Int) ∧ er = 0)
theorem AltN.one {n : Nat} {a : Int} {q q1 q2 : Nat → Nat × Nat} {h1 h2 e1 e2 : Int} (h : AltN n a q q1 h1 e1) (k : AltN n a q q2 h2 e2) : q1 = q2 ∧ h1 = h2 ∧ e1 = e2 := by
  rcases h with ⟨a1, rfl, rfl, rfl⟩ | ⟨a1, b1, rfl, rfl, rfl⟩ | ⟨a1, i, c1, d1, f1, rfl, rfl, rfl⟩ <;> rcases k with ⟨a2, rfl, rfl, rfl⟩ | ⟨a2, b2, rfl, rfl, rfl⟩ | ⟨a2, j, c2, d2, f2, rfl, rfl, rfl⟩
  · exact ⟨rfl, rfl, rfl⟩
  · omega
  · omega
  · omega
  · exact ⟨rfl, rfl, rfl⟩
  · exact absurd d2 (b1 j c2)
  · omega
  · exact absurd d1 (b2 i c1)
  · have : i = j := by
      rcases Nat.lt_trichotomy i j with c | c | c
      · exact absurd d1 (f2 i c)
      · exact c
      · exact absurd d2 (f1 j c)
    subst this
    exact ⟨rfl, rfl, rfl⟩
def SNewP (n : Nat) (a : Int) (q : Nat → Nat × Nat) (w : World) (e : Ending) (w' : World) : Prop :=
  ∃ D q' h er, e = .returned (.tuple #[.slice (some ⟨D, 0, none⟩) n n, .int .u64 h, .int .i64 er]) ∧ SlB D n q' w' ∧ Below w.heap.size w w' ∧ AltN n a q q' h er
set_option maxRecDepth 100000 in
set_option maxHeartbeats 8000000 in
theorem sNew (N n : Nat) (hn : n ≤ 256) (q : Nat → Nat × Nat) (hqb : ∀ i, (q i).1 < 9223372036854775808 ∧ (q i).2 < 72057594037927936) (a : Int) (w : World) (hr : SlB N n q w) :
    Calls Try.prog 17 #[.slice (some ⟨N, 0, none⟩) n n, .int .i64 a] w (SNewP n a q w) := by
  have HR := Lib.hid hr
  have HQB := Lib.hid hqb
  have HN2 := Lib.hid hn
  by_cases c : a < 1
  · have HC := Lib.hid c
    clear hr hqb hn
    go_enter Try.func17, Try.ntmps17
    go_wp2_with fail
    exact bodyPost_ret (v := .tuple #[.slice (some ⟨N, 0, none⟩) n n, .int .u64 0, .int .i64 2]) (by simp [results, Try.results17, go_sem]) rfl ⟨N, q, 0, 2, rfl, HR.out, Below.refl _ _, .inl ⟨HC.out, rfl, rfl, rfl⟩⟩
  · obtain ⟨an, rfl⟩ := Int.eq_ofNat_of_zero_le (show 0 ≤ a by omega)
    have HC : Hid (1 ≤ (an : Int)) := Lib.hid (by omega)
    have HWI0 := Lib.hid fun j (hj : j < n) g X (hX : SlB N n q X) => swith N n hn q j hj (an, g) X hX
    clear hr hqb
    go_enter Try.func17, Try.ntmps17
    go_wp2_with fail
    go_loopw [14] (fun s14 wr => ∃ j : Nat, j ≤ n ∧ s14 = .int .i64 (j : Int) ∧ Hid (∀ k, k < j → ¬ free q k) ∧ Hid (Below w.heap.size w wr)) (fun s14 _ => n - (intOf s14).toNat)
    case atStart => exact ⟨0, Nat.zero_le _, rfl, Lib.hid fun k hk => absurd hk (Nat.not_lt_zero k), Lib.hid (Below.refl _ _)⟩
    case round =>
      obtain ⟨j, hj, rfl, HNO, HB⟩ := hrel
      by_cases hjn : j < n
      · have hjn2 : (j : Int) < (n : Int) := by omega
        have hj0 : (0 : Int) ≤ (j : Int) := by omega
        obtain ⟨k0, k1, _, _⟩ := (HR.out.below HB.out).cells hjn
        obtain ⟨b0, b1⟩ := HQB.out j
        obtain ⟨x, hx⟩ : ∃ x, (q j).1 = x := ⟨_, rfl⟩
        obtain ⟨g, hg⟩ : ∃ g, (q j).2 = g := ⟨_, rfl⟩
        rw [hx] at k0 b0
        rw [hg] at k1 b1
        have HXG := Lib.hid (And.intro hx hg)
        have HJN := Lib.hid (And.intro hjn hn)
        have hb1 := HB.out.alloc HB.out.size (.cells #[.int .i64 (x : Int), .int .u64 (g : Int)] 72)
        have hsv : SvC wr.heap.size x g (wr.alloc (.cells #[.int .i64 (x : Int), .int .u64 (g : Int)] 72)) := heap_new _ _
        have HBS := Lib.hid (And.intro hb1 hsv)
        clear hx hg b0 hj hjn hb1 hsv
        go_upto_region 6 with fail
        change Code.wp _ _ _ _ (wr.alloc (.cells #[.int .i64 (x : Int), .int .u64 (g : Int)] 72))
        obtain ⟨w2, hw2⟩ : ∃ y, wr.alloc (.cells #[.int .i64 (x : Int), .int .u64 (g : Int)] 72) = y := ⟨_, rfl⟩
        obtain ⟨F, hF⟩ : ∃ F, wr.heap.size = F := ⟨_, rfl⟩
        have hbs := HBS.out
        rw [hw2] at hbs
        have HB2 := Lib.hid hbs.1
        have hsv := hbs.2
        rw [hF] at hsv
        have HSV := Lib.hid hsv
        rw [hw2, hF]
        obtain ⟨s0, s1⟩ := hsv.all
        have HR2 := Lib.hid (HR.out.below HB2.out)
        clear hw2 hF hbs hsv HBS k0 k1
        by_cases hx0 : x = 0
        · by_cases hgl : g < 72057594037927935
          · have hgl2 : decide ((g : Int) < 72057594037927935) = true := decide_eq_true (by omega)
            have hgl3 : (g : Int) < 72057594037927935 := by omega
            have HFR : Hid (free q j) := Lib.hid ⟨by rw [HXG.out.1]; exact hx0, by rw [HXG.out.2]; exact hgl⟩
            have HWG : Hid (IntKind.u64.wrap ((g : Int) + 1) = ((g + 1 : Nat) : Int) ∧ IntKind.u64.wrap (256 * ((g + 1 : Nat) : Int)) = ((256 * (g + 1) : Nat) : Int) ∧ IntKind.u64.wrap (j : Int) = (j : Int) ∧ IntKind.u64.wrap (((256 * (g + 1) : Nat) : Int) + (j : Int)) = ((256 * (g + 1) + j : Nat) : Int) ∧ IntKind.u64.wrap (256 * ((g : Int) + 1)) = 256 * ((g : Int) + 1) ∧ IntKind.u64.wrap (256 * ((g : Int) + 1) + (j : Int)) = 256 * ((g : Int) + 1) + (j : Int)) := Lib.hid (by have := HJN.out; refine ⟨?_, ?_, ?_, ?_, ?_, ?_⟩ <;> (rw [IntKind.wrap_u64]; omega))
            have HWI : Hid (∀ X, SlB N n q X → Calls Try.prog 31 #[.slice (some ⟨N, 0, none⟩) n n, .int .i64 (j : Int), .agg #[.int .i64 (an : Int), .int .u64 ((g + 1 : Nat) : Int)]] X (WiP n (upd q j (an, g + 1)) X)) := Lib.hid fun X hX => HWI0.out j HJN.out.1 (g + 1) X hX
            subst hx0
            clear hgl b1 hn
            go_upto_region 7 with fail
            clear s0 s1
            refine wp_region_held_drew (S := SvC F 0 g) (by kernel_rfl) (HSV.out.below (Below.refl w2.heap.size w2).drew) (fun hHeld => ?_)
            have HS3 := Lib.hid (HSV.out.below (Below.refl w2.heap.size w2).drew)
            have HR3 := Lib.hid (HR2.out.below (Below.refl w2.heap.size w2).drew)
            have HB3 := Lib.hid (HB2.out.trans ((Below.refl w2.heap.size w2).drew.mono HB2.out.size))
            clear HSV HR2 HB2
            generalize w2.drew = x0 at *
            refine wpAnyH_take (i := 0) (v := (.slice (some ⟨N, 0, none⟩) n n)) rfl (by kernel_rfl) (by kernel_rfl) (by kernel_rfl) (fun _ _ _ h => h) (Or.inl ⟨by rfl, fun X hS => ?_⟩) hHeld ?_
            · obtain ⟨s0, s1⟩ := SvC.all hS
              go_simp
            try simp only [Act.put, List.getElem_toArray, List.getElem_cons_zero, List.getElem_cons_succ, List.setIfInBounds_toArray, List.set_cons_zero, List.set_cons_succ]
            refine wpAnyH_take (i := 1) (v := (.int .i64 (j : Int))) rfl (by kernel_rfl) (by kernel_rfl) (by kernel_rfl) (fun _ _ _ h => h) (Or.inl ⟨by rfl, fun X hS => ?_⟩) hHeld ?_
            · obtain ⟨s0, s1⟩ := SvC.all hS
              go_simp
            try simp only [Act.put, List.getElem_toArray, List.getElem_cons_zero, List.getElem_cons_succ, List.setIfInBounds_toArray, List.set_cons_zero, List.set_cons_succ]
            refine wpAnyH_take (i := 2) (v := (.int .i64 (an : Int))) rfl (by kernel_rfl) (by kernel_rfl) (by kernel_rfl) (fun _ _ _ h => h) (Or.inl ⟨by rfl, fun X hS => ?_⟩) hHeld ?_
            · obtain ⟨s0, s1⟩ := SvC.all hS
              go_simp
            try simp only [Act.put, List.getElem_toArray, List.getElem_cons_zero, List.getElem_cons_succ, List.setIfInBounds_toArray, List.set_cons_zero, List.set_cons_succ]
            refine wpAnyH_take (i := 3) (v := (.pointer (some ⟨F, 1, none⟩))) rfl (by kernel_rfl) (by kernel_rfl) (by kernel_rfl) (fun _ _ _ h => h) (Or.inl ⟨by rfl, fun X hS => ?_⟩) hHeld ?_
            · obtain ⟨s0, s1⟩ := SvC.all hS
              go_simp
            try simp only [Act.put, List.getElem_toArray, List.getElem_cons_zero, List.getElem_cons_succ, List.setIfInBounds_toArray, List.set_cons_zero, List.set_cons_succ]
            refine wpAnyH_take (i := 4) (v := (.int .u64 (g : Int))) rfl (by kernel_rfl) (by kernel_rfl) (by kernel_rfl) (fun _ _ _ h => h) (Or.inl ⟨by rfl, fun X hS => ?_⟩) hHeld ?_
            · obtain ⟨s0, s1⟩ := SvC.all hS
              go_simp
            try simp only [Act.put, List.getElem_toArray, List.getElem_cons_zero, List.getElem_cons_succ, List.setIfInBounds_toArray, List.set_cons_zero, List.set_cons_succ]
            refine wpAnyH_take (i := 5) (v := (.int .u64 ((g + 1 : Nat) : Int))) rfl (by kernel_rfl) (by kernel_rfl) (by kernel_rfl) (fun _ _ _ h => h) (Or.inl ⟨by rfl, fun X hS => ?_⟩) hHeld ?_
            · obtain ⟨s0, s1⟩ := SvC.all hS
              have hw := HWG.out.1
              go_simp
            try simp only [Act.put, List.getElem_toArray, List.getElem_cons_zero, List.getElem_cons_succ, List.setIfInBounds_toArray, List.set_cons_zero, List.set_cons_succ]
            refine wpAnyH_take (i := 6) (v := (.agg #[.int .i64 (an : Int), .int .u64 ((g + 1 : Nat) : Int)])) rfl (by kernel_rfl) (by kernel_rfl) (by kernel_rfl) (fun _ _ _ h => h) (Or.inl ⟨by rfl, fun X hS => ?_⟩) hHeld ?_
            · obtain ⟨s0, s1⟩ := SvC.all hS
              go_simp
            try simp only [Act.put, List.getElem_toArray, List.getElem_cons_zero, List.getElem_cons_succ, List.setIfInBounds_toArray, List.set_cons_zero, List.set_cons_succ]
            refine wpAnyH_take (i := 8) (v := (.pointer (some ⟨F, 1, none⟩))) rfl (by kernel_rfl) (by kernel_rfl) (by kernel_rfl) (fun _ _ _ h => h) (Or.inl ⟨by rfl, fun X hS => ?_⟩) hHeld ?_
            · obtain ⟨s0, s1⟩ := SvC.all hS
              go_simp
            try simp only [Act.put, List.getElem_toArray, List.getElem_cons_zero, List.getElem_cons_succ, List.setIfInBounds_toArray, List.set_cons_zero, List.set_cons_succ]
            refine wpAnyH_take (i := 9) (v := (.int .u64 (g : Int))) rfl (by kernel_rfl) (by kernel_rfl) (by kernel_rfl) (fun _ _ _ h => h) (Or.inl ⟨by rfl, fun X hS => ?_⟩) hHeld ?_
            · obtain ⟨s0, s1⟩ := SvC.all hS
              go_simp
            try simp only [Act.put, List.getElem_toArray, List.getElem_cons_zero, List.getElem_cons_succ, List.setIfInBounds_toArray, List.set_cons_zero, List.set_cons_succ]
            refine wpAnyH_take (i := 10) (v := (.int .u64 ((g + 1 : Nat) : Int))) rfl (by kernel_rfl) (by kernel_rfl) (by kernel_rfl) (fun _ _ _ h => h) (Or.inl ⟨by rfl, fun X hS => ?_⟩) hHeld ?_
            · obtain ⟨s0, s1⟩ := SvC.all hS
              have hw := HWG.out.1
              go_simp
            try simp only [Act.put, List.getElem_toArray, List.getElem_cons_zero, List.getElem_cons_succ, List.setIfInBounds_toArray, List.set_cons_zero, List.set_cons_succ]
            refine wpAnyH_take (i := 11) (v := (.int .u64 ((256 * (g + 1) : Nat) : Int))) rfl (by kernel_rfl) (by kernel_rfl) (by kernel_rfl) (fun _ _ _ h => h) (Or.inl ⟨by rfl, fun X hS => ?_⟩) hHeld ?_
            · obtain ⟨s0, s1⟩ := SvC.all hS
              have hw := HWG.out.2.1
              have hw2 := HWG.out.2.2.2.2.1
              go_simp
            try simp only [Act.put, List.getElem_toArray, List.getElem_cons_zero, List.getElem_cons_succ, List.setIfInBounds_toArray, List.set_cons_zero, List.set_cons_succ]
            refine wpAnyH_take (i := 12) (v := (.int .i64 (j : Int))) rfl (by kernel_rfl) (by kernel_rfl) (by kernel_rfl) (fun _ _ _ h => h) (Or.inl ⟨by rfl, fun X hS => ?_⟩) hHeld ?_
            · obtain ⟨s0, s1⟩ := SvC.all hS
              go_simp
            try simp only [Act.put, List.getElem_toArray, List.getElem_cons_zero, List.getElem_cons_succ, List.setIfInBounds_toArray, List.set_cons_zero, List.set_cons_succ]
            refine wpAnyH_take (i := 13) (v := (.int .u64 (j : Int))) rfl (by kernel_rfl) (by kernel_rfl) (by kernel_rfl) (fun _ _ _ h => h) (Or.inl ⟨by rfl, fun X hS => ?_⟩) hHeld ?_
            · obtain ⟨s0, s1⟩ := SvC.all hS
              have hw := HWG.out.2.2.1
              go_simp
            try simp only [Act.put, List.getElem_toArray, List.getElem_cons_zero, List.getElem_cons_succ, List.setIfInBounds_toArray, List.set_cons_zero, List.set_cons_succ]
            refine wpAnyH_take (i := 14) (v := (.int .u64 ((256 * (g + 1) + j : Nat) : Int))) rfl (by kernel_rfl) (by kernel_rfl) (by kernel_rfl) (fun _ _ _ h => h) (Or.inl ⟨by rfl, fun X hS => ?_⟩) hHeld ?_
            · obtain ⟨s0, s1⟩ := SvC.all hS
              have hw := HWG.out.2.2.2.1
              have hw2 := HWG.out.2.2.2.2.2
              go_simp
            try simp only [Act.put, List.getElem_toArray, List.getElem_cons_zero, List.getElem_cons_succ, List.setIfInBounds_toArray, List.set_cons_zero, List.set_cons_succ]
            refine wpAnyH_ready (rs := [7]) (by kernel_rfl) (by simp) (AllReadyH.cons rfl (fun K1 hK1 => ?_) AllReadyH.nil)
            go_simp
            have HH := Lib.hid hHeld
            clear hHeld
            refine (HWI.out _ HR3.out).mono ?_
            rintro e x1 ⟨O, rfl, hso, _, hb⟩
            have HSO := Lib.hid hso
            have HS4 := Lib.hid (HS3.out.below hb)
            have HB4 := Lib.hid (HB3.out.trans (hb.mono HB3.out.size))
            have hrb := HS4.out
            clear HH hb hso HS3 HB3 HR3
            refine hK1.out _ _ hrb (fun hHeld => ?_)
            clear hK1
            try simp only [Act.put, List.getElem_toArray, List.getElem_cons_zero, List.getElem_cons_succ, List.setIfInBounds_toArray, List.set_cons_zero, List.set_cons_succ]
            refine wpAnyH_take (i := 15) (v := (.slice (some ⟨O, 0, none⟩) n n)) rfl (by kernel_rfl) (by kernel_rfl) (by kernel_rfl) (fun _ _ _ h => h) (Or.inl ⟨by rfl, fun X hS => ?_⟩) hHeld ?_
            · obtain ⟨s0, s1⟩ := SvC.all hS
              go_simp
            try simp only [Act.put, List.getElem_toArray, List.getElem_cons_zero, List.getElem_cons_succ, List.setIfInBounds_toArray, List.set_cons_zero, List.set_cons_succ]
            refine wpAnyH_take (i := 16) (v := (.int .u64 ((256 * (g + 1) + j : Nat) : Int))) rfl (by kernel_rfl) (by kernel_rfl) (by kernel_rfl) (fun _ _ _ h => h) (Or.inl ⟨by rfl, fun X hS => ?_⟩) hHeld ?_
            · obtain ⟨s0, s1⟩ := SvC.all hS
              go_simp
            try simp only [Act.put, List.getElem_toArray, List.getElem_cons_zero, List.getElem_cons_succ, List.setIfInBounds_toArray, List.set_cons_zero, List.set_cons_succ]
            refine wpAnyH_take (i := 17) (v := (.int .i64 0)) rfl (by kernel_rfl) (by kernel_rfl) (by kernel_rfl) (fun _ _ _ h => h) (Or.inl ⟨by rfl, fun X hS => ?_⟩) hHeld ?_
            · obtain ⟨s0, s1⟩ := SvC.all hS
              go_simp
            try simp only [Act.put, List.getElem_toArray, List.getElem_cons_zero, List.getElem_cons_succ, List.setIfInBounds_toArray, List.set_cons_zero, List.set_cons_succ]
            refine wpAnyH_done (by kernel_rfl) ?_ _
            clear hHeld

            go_wp2_with fail
            exact bodyPost_ret (v := .tuple #[.slice (some ⟨O, 0, none⟩) n n, .int .u64 ((256 * (g + 1) + j : Nat) : Int), .int .i64 0]) (by simp [results, Try.results17, go_sem]) rfl ⟨O, _, _, 0, rfl, HSO.out, HB4.out, .inr (.inr ⟨HC.out, j, HJN.out.1, HFR.out, HNO.out, by rw [HXG.out.2]; rfl, by unfold hOf; rw [HXG.out.2], rfl⟩)⟩
          · have hgl2 : decide ((g : Int) < 72057594037927935) = false := decide_eq_false (by omega)
            have HNO2 : Hid (∀ k, k < j + 1 → ¬ free q k) := Lib.hid fun k hk => by
              rcases Nat.lt_or_ge k j with c | c
              · exact HNO.out k c
              · obtain rfl : k = j := by omega
                unfold free; rw [HXG.out.2]; omega
            subst hx0
            clear hgl b1 hn
            obtain ⟨hjn, hn⟩ := HJN.out
            go_wp2_with fail
            go_roundw
            case rel => exact ⟨j + 1, by omega, by go_num, HNO2, HB2⟩
            case measure => simp [intOf]; omega
        · have hx1 : ¬ ((x : Int) = 0) := by omega
          have HNO2 : Hid (∀ k, k < j + 1 → ¬ free q k) := Lib.hid fun k hk => by
            rcases Nat.lt_or_ge k j with c | c
            · exact HNO.out k c
            · obtain rfl : k = j := by omega
              unfold free; rw [HXG.out.1]; omega
          clear hx0 b1 hn
          obtain ⟨hjn, hn⟩ := HJN.out
          go_wp2_with fail
          go_roundw
          case rel => exact ⟨j + 1, by omega, by go_num, HNO2, HB2⟩
          case measure => simp [intOf]; omega
      · obtain rfl : j = n := by omega
        clear hj hjn
        go_wp2_with fail
        exact bodyPost_ret (v := .tuple #[.slice (some ⟨N, 0, none⟩) j j, .int .u64 0, .int .i64 10]) (by simp [results, Try.results17, go_sem]) rfl ⟨N, q, 0, 10, rfl, HR.out.below HB.out, HB.out, .inr (.inl ⟨HC.out, HNO.out, rfl, rfl, rfl⟩)⟩
/-- what Drop and Move do -/
def AltT (n : Nat) (hh an : Nat) (q q' : Nat → Nat × Nat) (er : Int) : Prop := (isH n q hh ∧ er = 0 ∧ q' = upd q (hh % 256) (an, (q (hh % 256)).2)) ∨ (¬ isH n q hh ∧ er = 6 ∧ q' = q)
theorem AltT.one {n hh an : Nat} {q q1 q2 : Nat → Nat × Nat} {e1 e2 : Int} (h : AltT n hh an q q1 e1) (k : AltT n hh an q q2 e2) : q1 = q2 ∧ e1 = e2 := by
  rcases h with ⟨a, rfl, rfl⟩ | ⟨a, rfl, rfl⟩ <;> rcases k with ⟨b, rfl, rfl⟩ | ⟨b, rfl, rfl⟩
  · exact ⟨rfl, rfl⟩
  · exact absurd a b
  · exact absurd b a
  · exact ⟨rfl, rfl⟩
def STurnP (n : Nat) (hh an : Nat) (q : Nat → Nat × Nat) (w : World) (e : Ending) (w' : World) : Prop :=
  ∃ D q' er, e = .returned (.tuple #[.slice (some ⟨D, 0, none⟩) n n, .int .i64 er]) ∧ SlB D n q' w' ∧ Below w.heap.size w w' ∧ AltT n hh an q q' er
def SGetP (n : Nat) (hh : Nat) (q : Nat → Nat × Nat) (w : World) (e : Ending) (w' : World) : Prop :=
  ((isH n q hh ∧ e = .returned (.tuple #[.int .i64 ((q (hh % 256)).1 : Int), .int .i64 0])) ∨ (¬ isH n q hh ∧ e = .returned (.tuple #[.int .i64 0, .int .i64 6]))) ∧ Below w.heap.size w w'
section
variable {N n : Nat} {q : Nat → Nat × Nat} {w : World}
theorem sGet (hn : n ≤ 256) (hqb : ∀ i, (q i).1 < 9223372036854775808 ∧ (q i).2 < 72057594037927936) (hh : Nat) (hr : SlB N n q w) : Calls Try.prog 15 #[.slice (some ⟨N, 0, none⟩) n n, .int .u64 (hh : Int)] w (SGetP n hh q w) := by
  have HF := Lib.hid (sfind N n hn q hqb hh w hr)
  have HR := Lib.hid hr
  clear hr hqb
  go_enter Try.func15, Try.ntmps15
  go_wp2_with fail
  refine HF.out.mono ?_
  rintro e w1 ⟨⟨hi, rfl⟩ | ⟨hi, rfl⟩, hb⟩
  · have HI := Lib.hid hi
    have HB := Lib.hid hb
    obtain ⟨i, hii⟩ : ∃ i, hh % 256 = i := ⟨_, rfl⟩
    have hin : i < n := by rw [← hii]; exact hi.1
    have h1 : (i : Int) < (n : Int) := by omega
    have h0 : (0 : Int) ≤ (i : Int) := by omega
    obtain ⟨k0, k1, _, _⟩ := (HR.out.below hb).cells hin
    have HII := Lib.hid hii
    rw [hii]
    clear hi hb hii hin
    go_wp2_with fail
    go_ret2
    exact ⟨.inl ⟨HI.out, by rw [HII.out]; rfl⟩, HB.out⟩
  · have HI := Lib.hid hi
    have HB := Lib.hid hb
    clear hi hb
    go_wp2_with fail
    go_ret2
    exact ⟨.inr ⟨HI.out, rfl⟩, HB.out⟩
theorem sDrop (hn : n ≤ 256) (hqb : ∀ i, (q i).1 < 9223372036854775808 ∧ (q i).2 < 72057594037927936) (hh : Nat) (hr : SlB N n q w) : Calls Try.prog 11 #[.slice (some ⟨N, 0, none⟩) n n, .int .u64 (hh : Int)] w (STurnP n hh 0 q w) := by
  have HF := Lib.hid (sfind N n hn q hqb hh w hr)
  have HR := Lib.hid hr
  have HWI0 := Lib.hid fun j (hj : j < n) g X (hX : SlB N n q X) => swith N n hn q j hj (0, g) X hX
  clear hr hqb
  go_enter Try.func11, Try.ntmps11
  go_wp2_with fail
  refine HF.out.mono ?_
  rintro e w1 ⟨⟨hi, rfl⟩ | ⟨hi, rfl⟩, hb⟩
  · have HI := Lib.hid hi
    have HB := Lib.hid hb
    obtain ⟨i, hii⟩ : ∃ i, hh % 256 = i := ⟨_, rfl⟩
    have hin : i < n := by rw [← hii]; exact hi.1
    have h1 : (i : Int) < (n : Int) := by omega
    have h0 : (0 : Int) ≤ (i : Int) := by omega
    obtain ⟨g, hg⟩ : ∃ g, (q i).2 = g := ⟨_, rfl⟩
    obtain ⟨k0, k1, _, _⟩ := (HR.out.below hb).cells hin
    rw [hg] at k1
    have HWI : Hid (∀ X, SlB N n q X → Calls Try.prog 31 #[.slice (some ⟨N, 0, none⟩) n n, .int .i64 (i : Int), .agg #[.int .i64 0, .int .u64 (g : Int)]] X (WiP n (upd q i (0, g)) X)) := Lib.hid fun X hX => HWI0.out i hin g X hX
    have HII := Lib.hid (And.intro hii hg)
    rw [hii]
    clear hi hb hii hin hg
    go_wp2_with fail
    refine (HWI.out _ (HR.out.below HB.out)).mono ?_
    rintro e w2 ⟨O, rfl, hso, _, hb⟩
    have HSO := Lib.hid hso
    have HB2 := Lib.hid (HB.out.trans (hb.mono HB.out.size))
    clear hso hb k0 k1
    go_wp2_with fail
    go_ret2
    exact ⟨O, _, 0, rfl, HSO.out, HB2.out, .inl ⟨HI.out, rfl, by rw [HII.out.1, HII.out.2]⟩⟩
  · have HI := Lib.hid hi
    have HB := Lib.hid hb
    clear hi hb
    go_wp2_with fail
    go_ret2
    exact ⟨N, q, 6, rfl, HR.out.below HB.out, HB.out, .inr ⟨HI.out, rfl, rfl⟩⟩
theorem sMove_arg (hr : SlB N n q w) (hh a : Int) (c : a < 1) : Calls Try.prog 13 #[.slice (some ⟨N, 0, none⟩) n n, .int .u64 hh, .int .i64 a] w (Gives (.tuple #[.slice (some ⟨N, 0, none⟩) n n, .int .i64 2]) w) := by
  go_enter Try.func13, Try.ntmps13
  go_wp2_with fail
  go_ret2
  exact ⟨rfl, Below.refl _ _⟩
theorem sMove (hn : n ≤ 256) (hqb : ∀ i, (q i).1 < 9223372036854775808 ∧ (q i).2 < 72057594037927936) (hh an : Nat) (h1an : 1 ≤ an) (hr : SlB N n q w) : Calls Try.prog 13 #[.slice (some ⟨N, 0, none⟩) n n, .int .u64 (hh : Int), .int .i64 (an : Int)] w (STurnP n hh an q w) := by
  have HF := Lib.hid (sfind N n hn q hqb hh w hr)
  have HR := Lib.hid hr
  have HWI0 := Lib.hid fun j (hj : j < n) g X (hX : SlB N n q X) => swith N n hn q j hj (an, g) X hX
  have ha1 : ¬ ((an : Int) < 1) := by omega
  clear hr hqb h1an
  go_enter Try.func13, Try.ntmps13
  go_wp2_with fail
  refine HF.out.mono ?_
  rintro e w1 ⟨⟨hi, rfl⟩ | ⟨hi, rfl⟩, hb⟩
  · have HI := Lib.hid hi
    have HB := Lib.hid hb
    obtain ⟨i, hii⟩ : ∃ i, hh % 256 = i := ⟨_, rfl⟩
    have hin : i < n := by rw [← hii]; exact hi.1
    have h1 : (i : Int) < (n : Int) := by omega
    have h0 : (0 : Int) ≤ (i : Int) := by omega
    obtain ⟨g, hg⟩ : ∃ g, (q i).2 = g := ⟨_, rfl⟩
    obtain ⟨k0, k1, _, _⟩ := (HR.out.below hb).cells hin
    rw [hg] at k1
    have HWI : Hid (∀ X, SlB N n q X → Calls Try.prog 31 #[.slice (some ⟨N, 0, none⟩) n n, .int .i64 (i : Int), .agg #[.int .i64 (an : Int), .int .u64 (g : Int)]] X (WiP n (upd q i (an, g)) X)) := Lib.hid fun X hX => HWI0.out i hin g X hX
    have HII := Lib.hid (And.intro hii hg)
    rw [hii]
    clear hi hb hii hin hg
    go_wp2_with fail
    refine (HWI.out _ (HR.out.below HB.out)).mono ?_
    rintro e w2 ⟨O, rfl, hso, _, hb⟩
    have HSO := Lib.hid hso
    have HB2 := Lib.hid (HB.out.trans (hb.mono HB.out.size))
    clear hso hb k0 k1
    go_wp2_with fail
    go_ret2
    exact ⟨O, _, 0, rfl, HSO.out, HB2.out, .inl ⟨HI.out, rfl, by rw [HII.out.1, HII.out.2]⟩⟩
  · have HI := Lib.hid hi
    have HB := Lib.hid hb
    clear hi hb
    go_wp2_with fail
    go_ret2
    exact ⟨N, q, 6, rfl, HR.out.below HB.out, HB.out, .inr ⟨HI.out, rfl, rfl⟩⟩
end
end Go.Proofs.Ytllghngjnhbmaaa.Bt
/- All: the handles of a table, the program's and the document's. (Written by gen_hni.py.) -/
namespace Go.Proofs.Ytllghngjnhbmaaa.Bt
open Go Go.RowKit Go.Shelf
set_option linter.unusedVariables false
set_option linter.unusedSimpArgs false
/-- the handles of the first k slots -/
def hL (q : Nat → Nat × Nat) : Nat → List Nat
  | 0 => []
  | k + 1 => if 0 < (q k).1 then hL q k ++ [256 * (q k).2 + k] else hL q k
theorem hL_len (q : Nat → Nat × Nat) : ∀ k, (hL q k).length ≤ k
  | 0 => Nat.le_refl _
  | k + 1 => by
    have := hL_len q k
    unfold hL
    split
    · rw [List.length_append]; simp; omega
    · omega
theorem hL_mem {q : Nat → Nat × Nat} {h : Nat} : ∀ {k : Nat}, h ∈ hL q k → ∃ j, j < k ∧ 0 < (q j).1 ∧ h = 256 * (q j).2 + j
  | 0, hm => by cases hm
  | k + 1, hm => by
    unfold hL at hm
    split at hm
    · rcases List.mem_append.1 hm with c | c
      · obtain ⟨j, h1, h2, h3⟩ := hL_mem c; exact ⟨j, by omega, h2, h3⟩
      · rw [List.mem_singleton] at c; exact ⟨k, by omega, by assumption, c⟩
    · obtain ⟨j, h1, h2, h3⟩ := hL_mem hm; exact ⟨j, by omega, h2, h3⟩
def hV (l : List Nat) : List Value := l.map fun (x : Nat) => Value.int .u64 (x : Int)
/-- a row of handles, grown by append -/
structure HGr (b0 : Nat) (T : TypeId) (w : World) (l : List Nat) (v : Value) (x : World) : Prop where
  ow : x.ownsRow b0 T 1 v l.length (hV l)
  be : Below b0 w x
  sz : b0 ≤ x.heap.size
theorem own_below {x z : World} {b0 n k : Nat} {T : TypeId} {v : Value} {xs : List Value} (h : x.ownsRow b0 T k v n xs) (hb : Below x.heap.size x z) : z.ownsRow b0 T k v n xs := by
  refine ⟨h.1, ?_⟩
  rcases h.2 with c | ⟨g, cap, cur, h1, h2, h3, h4⟩
  · exact .inl c
  · exact .inr ⟨g, cap, cur, h1, h2, (hb.block _ (Array.getElem?_eq_some_iff.1 h3).1).trans h3, h4⟩
theorem HGr.below {b0 : Nat} {T : TypeId} {w : World} {l : List Nat} {v : Value} {x z : World} (h : HGr b0 T w l v x) (hb : Below x.heap.size x z) : HGr b0 T w l v z :=
  ⟨own_below h.ow hb, h.be.trans (hb.mono h.sz), Nat.le_trans h.sz hb.size⟩
theorem hn_grow {W w1 w : World} {base n k : Nat} {e : TypeId} {v : Value} {xs : List Value} (hrow : W.ownsRow base e k v n xs) (hgrow : W.grownBy w1 v.ownBlock) (hs : base ≤ W.heap.size) (hb : Below base w W) : Below base w w1 :=
  hb.grown hgrow (by omega) fun j ej => by
    rcases hrow.2 with ⟨rfl, _⟩ | ⟨g, cap, cur, rfl, h, _⟩
    · simp [Value.ownBlock] at ej
    · obtain rfl : g = j := by simpa [Value.ownBlock] using ej
      exact h
/-- such a row, to be read -/
def HrA (v : Value) (l : List Nat) (x : World) : Prop := ∃ p cap, v = .slice p l.length cap ∧ (l = [] ∨ ∃ g, p = some ⟨g, 0, none⟩ ∧ g < x.heap.size ∧ ∀ j, j < l.length → x.cell? ⟨g, j, none⟩ = some (.int .u64 ((l.getD j 0 : Nat) : Int)))
theorem HGr.row {b0 : Nat} {T : TypeId} {w : World} {l : List Nat} {v : Value} {x : World} (h : HGr b0 T w l v x) : HrA v l x := by
  rcases h.ow.2 with ⟨rfl, h0⟩ | ⟨g, cap, cur, rfl, _, hg, hnc, _, hcs, htk⟩
  · exact ⟨none, 0, by rw [h0], .inl (List.eq_nil_of_length_eq_zero h0)⟩
  · refine ⟨_, cap, rfl, .inr ⟨g, rfl, (Array.getElem?_eq_some_iff.1 hg).1, fun j hj => ?_⟩⟩
    rw [(cell_blk hg _).1]
    have h1 : (hV l)[j]? = some (.int .u64 ((l.getD j 0 : Nat) : Int)) := by unfold hV; rw [List.getElem?_map, List.getElem?_eq_getElem hj, List.getD_eq_getElem?_getD, List.getElem?_eq_getElem hj]; rfl
    rw [← h1, ← htk, List.getElem?_take, if_pos (by omega)]; simp
theorem HrA.below {v : Value} {l : List Nat} {x z : World} (h : HrA v l x) (hb : Below x.heap.size x z) : HrA v l z := by
  obtain ⟨p, cap, e, c | ⟨g, e2, hg, hc⟩⟩ := h
  · exact ⟨p, cap, e, .inl c⟩
  · exact ⟨p, cap, e, .inr ⟨g, e2, Nat.lt_of_lt_of_le hg hb.size, fun j hj => (hb.cell (p := ⟨g, j, none⟩) hg).trans (hc j hj)⟩⟩
def AllP (l : List Nat) (w : World) (e : Ending) (w' : World) : Prop := ∃ v, e = .returned v ∧ HrA v l w' ∧ Below w.heap.size w w'
def RoT (v : Value) (x : World) : Prop := ∀ g n c, v = .slice (some ⟨g, 0, none⟩) n c → ∃ cur, x.heap[g]? = some (.cells cur 34 (0, 0))
theorem HGr.rot {b0 : Nat} {w : World} {l : List Nat} {v : Value} {x : World} (h : HGr b0 34 w l v x) : RoT v x := fun g n c e => by
  rcases h.ow.2 with ⟨rfl, h0⟩ | ⟨g', cap, cur, rfl, _, hg, _⟩
  · cases e
  · simp only [Value.slice.injEq, Option.some.injEq, Addr.mk.injEq] at e
    obtain ⟨⟨rfl, _⟩, _⟩ := e
    exact ⟨cur, hg⟩
def AllT (l : List Nat) (w : World) (e : Ending) (w' : World) : Prop := ∃ v, e = .returned v ∧ HrA v l w' ∧ RoT v w' ∧ Below w.heap.size w w'
theorem Try.infoU64 : (Try.prog.info? 33).map (fun i => (i.zero, i.size, i.bytes)) = some (some (.int .u64 0), 1, 8) := by kernel_rfl
theorem Try.infoHd : (Try.prog.info? 34).map (fun i => (i.zero, i.size, i.bytes)) = some (some (.int .u64 0), 1, 8) := by kernel_rfl
set_option maxRecDepth 100000 in
set_option maxHeartbeats 8000000 in
theorem sAll (N n : Nat) (hn : n ≤ 256) (q : Nat → Nat × Nat) (hqb : ∀ i, (q i).1 < 9223372036854775808 ∧ (q i).2 < 72057594037927936) (w : World) (hr : SlB N n q w) :
    Calls Try.prog 28 #[.slice (some ⟨N, 0, none⟩) n n] w (AllP (hL q n) w) := by
  obtain ⟨i0, hi0, hz0, hz1, hz2⟩ := info_parts Try.infoU64
  have HI := Lib.hid hi0; have HZ0 := Lib.hid hz0; have HZ1 := Lib.hid hz1; have HZ2 := Lib.hid hz2
  have HR := Lib.hid hr
  have HQB := Lib.hid hqb
  obtain ⟨b0, hb0⟩ : ∃ b0, w.heap.size = b0 := ⟨_, rfl⟩
  have HBW := Lib.hid hb0
  have HG0 : Hid (HGr b0 33 w (hL q 0) (.slice none 0 0) w) := Lib.hid ⟨World.ownsRow_nil _ _ _ _, by rw [← hb0]; exact Below.refl _ _, by omega⟩
  clear hi0 hz0 hz1 hz2 hr hqb hb0
  go_enter Try.func28, Try.ntmps28
  go_wp2_with fail
  go_loopw [3, 8] (fun v s8 wr => ∃ j : Nat, j ≤ n ∧ s8 = .int .i64 (j : Int) ∧ Hid (HGr b0 33 w (hL q j) v wr)) (fun _ s8 _ => n - (intOf s8).toNat)
  case atStart => exact ⟨0, Nat.zero_le _, rfl, HG0⟩
  case round =>
    clear HG0
    obtain ⟨j, hj, rfl, HRG⟩ := hrel
    have HWr : Hid (Below w.heap.size w wr) := Lib.hid (by rw [HBW.out]; exact HRG.out.be)
    by_cases hjn : j < n
    · have hjn2 : (j : Int) < (n : Int) := by omega
      have hj0 : (0 : Int) ≤ (j : Int) := by omega
      obtain ⟨k0, k1, _, _⟩ := (HR.out.below HWr.out).cells hjn
      obtain ⟨bd0, bd1⟩ := HQB.out j
      have HSU : Hid (hL q (j + 1) = if 0 < (q j).1 then hL q j ++ [256 * (q j).2 + j] else hL q j) := Lib.hid rfl
      obtain ⟨x, hx⟩ : ∃ x, (q j).1 = x := ⟨_, rfl⟩
      obtain ⟨g, hg⟩ : ∃ g, (q j).2 = g := ⟨_, rfl⟩
      rw [hx] at k0 bd0 HSU
      rw [hg] at k1 bd1 HSU
      have q1 : IntKind.u64.wrap (256 * (g : Int)) = 256 * (g : Int) := by rw [IntKind.wrap_u64]; omega
      have q2 : IntKind.u64.wrap (j : Int) = (j : Int) := by rw [IntKind.wrap_u64]; omega
      have q3 : IntKind.u64.wrap (256 * (g : Int) + (j : Int)) = ((256 * g + j : Nat) : Int) := by rw [IntKind.wrap_u64]; omega
      have HLJ : Hid ((hL q j).length ≤ 256) := Lib.hid (Nat.le_trans (hL_len q j) (by omega))
      clear hx hg bd0 bd1
      by_cases hx0 : 0 < x
      · have hx1 : (0 : Int) < (x : Int) := by omega
        rw [if_pos hx0] at HSU
        obtain ⟨he, hhe⟩ : ∃ he, 256 * g + j = he := ⟨_, rfl⟩
        rw [hhe] at q3 HSU
        have hb2 := (HRG.out.be.alloc HRG.out.sz (.cells #[.int .i64 (x : Int), .int .u64 (g : Int)] 72)).alloc (by have := HRG.out.sz; simp; omega) (.cells #[.int .u64 (he : Int)] 33)
        have HB2 := Lib.hid hb2
        have hrow2 := (HRG.out.ow.alloc (.cells #[.int .i64 (x : Int), .int .u64 (g : Int)] 72)).alloc (.cells #[.int .u64 (he : Int)] 33)
        have HR2 := Lib.hid hrow2
        have hln := HLJ.out
        have hsz2 := HRG.out.sz
        have hcn : ∀ j' u', [Value.int .u64 (he : Int)][j']? = some u' → ((wr.alloc (.cells #[.int .i64 (x : Int), .int .u64 (g : Int)] 72)).alloc (.cells #[.int .u64 (he : Int)] 33)).cell? ((⟨wr.heap.size + 1, 0, none⟩ : Addr).add j') = some u' := by
          have := cell_one_new (wr.alloc (.cells #[.int .i64 (x : Int), .int .u64 (g : Int)] 72)) (.int .u64 (he : Int)) 33
          rw [show (wr.alloc (.cells #[.int .i64 (x : Int), .int .u64 (g : Int)] 72)).heap.size = wr.heap.size + 1 from by simp] at this
          exact this
        have HCN := Lib.hid hcn
        clear hcn hb2 hhe
        go_wp2_with (at_builtin; refine wpList_append_own _ rfl _ _ 67 rfl b0 33 i0 (.int .u64 0) 1 8 Try.underlying67 HI.out HZ0.out HZ1.out HZ2.out rfl (by decide) _ _ _ rfl hrow2 ⟨_, 0, none⟩ 1 1 [.int .u64 (he : Int)] rfl rfl HCN.out (by simp [Value.oneCell']) (by unfold maxLen; omega) (by omega) (by simp; omega) ?_; intro v' w3 hown' hgrow _; have hhgrow := hgrow.size; simp at hhgrow)
        have HNX : Hid (HGr b0 33 w (hL q (j + 1)) v' w3) := Lib.hid ⟨by rw [HSU.out]; unfold hV; rw [List.map_append, List.length_append]; simpa [hV] using hown', hn_grow HR2.out hgrow (by simp; omega) HB2.out, by omega⟩
        clear hrow2 hown' hgrow hhgrow
        go_wp2_with fail
        go_roundw
        case rel => exact ⟨j + 1, by omega, by go_num, HNX⟩
        case measure => simp [intOf]; omega
      · have hx1 : ¬ ((0 : Int) < (x : Int)) := by omega
        rw [if_neg hx0] at HSU
        have HNX : Hid (HGr b0 33 w (hL q (j + 1)) _ (wr.alloc (.cells #[.int .i64 (x : Int), .int .u64 (g : Int)] 72))) := Lib.hid ⟨by rw [HSU.out]; exact HRG.out.ow.alloc _, HRG.out.be.alloc HRG.out.sz _, by have := HRG.out.sz; simp; omega⟩
        go_wp2_with fail
        go_roundw
        case rel => exact ⟨j + 1, by omega, by go_num, HNX⟩
        case measure => simp [intOf]; omega
    · obtain rfl : j = n := by omega
      go_wp2_with fail
      go_ret
      exact ⟨_, rfl, HRG.out.row, HWr.out⟩
section
variable {A vs : Nat} {m : Nat → UInt8} {q : Nat → Nat × Nat} {w : World}
set_option maxRecDepth 100000 in
set_option maxHeartbeats 8000000 in
theorem hAllT (h : On A (hS m) w) (hv : vs ≤ 5000) (hd : Hd m (nS vs) q) : Calls Try.prog 23 #[vwV A 16 vs] w (AllT (hL q (nS vs)) w) := by
  obtain ⟨i0, hi0, hz0, hz1, hz2⟩ := info_parts Try.infoHd
  have HI := Lib.hid hi0; have HZ0 := Lib.hid hz0; have HZ1 := Lib.hid hz1; have HZ2 := Lib.hid hz2
  have hns : nS vs ≤ vs / 16 := Nat.min_le_left _ _
  have hn2 : nS vs ≤ 256 := Nat.min_le_right _ _
  have HLE := Lib.hid fun X => hlen (some ⟨A, 0, none⟩) 16 vs hv X
  obtain ⟨n, hn⟩ : ∃ n, nS vs = n := ⟨_, rfl⟩
  rw [hn] at hns hn2 hd HLE
  rw [hn]
  have HSL := Lib.hid fun X (hX : On A (hS m) X) i (hi : i < n) => hslot_in hX hv i (by omega)
  have HTE := Lib.hid fun X (hX : On A (hS m) X) i (hi : i < n) => htell_in hX (16 + 16 * i) (q i).1 (q i).2 (by omega) (hd.a i hi) (hd.g i hi) (hd.b i).1
  have HQB := Lib.hid hd.b
  clear hns hn hd hi0 hz0 hz1 hz2
  have HBB := Lib.hid (bel1 w (.cells #[.pointer (some ⟨A, 0, none⟩), .int .i64 16, .int .i64 (vs : Int)] 29))
  have HX0 := Lib.hid (BxS.start (vs := vs) h)
  go_enter Try.func23, Try.ntmps23
  go_upto_region 1 with fail
  change Code.wp _ _ _ _ (w.alloc (.cells #[.pointer (some ⟨A, 0, none⟩), .int .i64 16, .int .i64 (vs : Int)] 29))
  obtain ⟨y, hy⟩ : ∃ y, w.alloc (.cells #[.pointer (some ⟨A, 0, none⟩), .int .i64 16, .int .i64 (vs : Int)] 29) = y := ⟨_, rfl⟩
  obtain ⟨C, hC⟩ : ∃ C, w.heap.size = C := ⟨_, rfl⟩
  have hx0 := HX0.out
  rw [hy] at HBB
  rw [hy, hC] at hx0
  rw [hy, hC]
  have HX := Lib.hid hx0
  clear hy hC hx0 HX0
  obtain ⟨c0, c1, c2⟩ := HX.out.all
  go_wp2_with fail
  refine (HLE.out _).mono ?_
  rintro e w1 ⟨rfl, hb⟩
  have HX1 := Lib.hid (HX.out.below hb)
  have HB1 := Lib.hid (HBB.out.trans (hb.mono HBB.out.size))
  obtain ⟨b0, hb0⟩ : ∃ b0, w1.heap.size = b0 := ⟨_, rfl⟩
  have HBW := Lib.hid hb0
  have HG0 : Hid (HGr b0 34 w1 (hL q 0) (.slice none 0 0) w1) := Lib.hid ⟨World.ownsRow_nil _ _ _ _, by rw [← hb0]; exact Below.refl _ _, by omega⟩
  clear hb hb0 HX c0 c1 c2 HLE HBB
  go_wp2_with fail
  go_loopw [3, 11] (fun s3 s11 wr => ∃ (j : Nat) (v : Value), j ≤ n ∧ v = s3 ∧ s11 = .int .i64 (j : Int) ∧ Hid (HGr b0 34 w1 (hL q j) v wr)) (fun _ s11 _ => n - (intOf s11).toNat)
  case atStart => exact ⟨0, _, Nat.zero_le _, rfl, rfl, HG0⟩
  case round =>
    clear HG0
    obtain ⟨j, v, hj, rfl, rfl, HRG⟩ := hrel
    have HWr : Hid (Below w1.heap.size w1 wr) := Lib.hid (by rw [HBW.out]; exact HRG.out.be)
    by_cases hjn : j < n
    · have hjn2 : (j : Int) < (n : Int) := by omega
      have HSJ := Lib.hid fun X (hX : On A (hS m) X) => HSL.out X hX j hjn
      have HTJ := Lib.hid fun X (hX : On A (hS m) X) => HTE.out X hX j hjn
      obtain ⟨bd0, bd1⟩ := HQB.out j
      have HSU : Hid (hL q (j + 1) = if 0 < (q j).1 then hL q j ++ [256 * (q j).2 + j] else hL q j) := Lib.hid rfl
      have HNM := Lib.hid fun X => hname j (q j).2 (by omega) bd1 X
      obtain ⟨x, hx⟩ : ∃ x, (q j).1 = x := ⟨_, rfl⟩
      obtain ⟨g, hg⟩ : ∃ g, (q j).2 = g := ⟨_, rfl⟩
      rw [hx, hg] at HTJ HSU
      rw [hg] at HNM
      have HLJ : Hid ((hL q j).length ≤ 256) := Lib.hid (Nat.le_trans (hL_len q j) (by omega))
      have HJN := Lib.hid (And.intro hjn hn2)
      have HXr := Lib.hid (HX1.out.below HWr.out)
      obtain ⟨c0, c1, c2⟩ := HXr.out.all
      clear hx hg bd0 bd1 hj hjn hn2 HWr
      go_wp2_with fail
      refine (HSJ.out _ HXr.out.on).mono ?_
      rintro e w2 ⟨rfl, hb⟩
      have HXs := Lib.hid (HXr.out.below hb)
      have HGs := Lib.hid (HRG.out.below hb)
      clear hb HXr HRG c0 c1 c2 HSJ
      go_upto_region 6 with fail
      have HX2 : Hid ((BxS C A vs m w (w2.alloc (.cells #[.pointer (some ⟨A, 0, none⟩), .int .i64 ((16 + 16 * j : Nat) : Int), .int .i64 16] 27)) ∧ HGr b0 34 w1 (hL q j) v (w2.alloc (.cells #[.pointer (some ⟨A, 0, none⟩), .int .i64 ((16 + 16 * j : Nat) : Int), .int .i64 16] 27))) ∧ VwC w2.heap.size A (16 + 16 * j) (w2.alloc (.cells #[.pointer (some ⟨A, 0, none⟩), .int .i64 ((16 + 16 * j : Nat) : Int), .int .i64 16] 27))) := Lib.hid ⟨⟨HXs.out.below (bel1 _ _), HGs.out.below (bel1 _ _)⟩, heap_new _ _⟩
      change Code.wp _ _ _ _ (w2.alloc (.cells #[.pointer (some ⟨A, 0, none⟩), .int .i64 ((16 + 16 * j : Nat) : Int), .int .i64 16] 27))
      obtain ⟨w3, hw3⟩ : ∃ y, w2.alloc (.cells #[.pointer (some ⟨A, 0, none⟩), .int .i64 ((16 + 16 * j : Nat) : Int), .int .i64 16] 27) = y := ⟨_, rfl⟩
      obtain ⟨F, hF⟩ : ∃ F, w2.heap.size = F := ⟨_, rfl⟩
      rw [hw3, hF] at HX2
      rw [hw3, hF]
      clear hw3 hF HXs HGs
      obtain ⟨v0, v1, v2⟩ := HX2.out.2.all
      go_wp2_with fail
      refine (HTJ.out _ HX2.out.1.1.on).mono ?_
      rintro e w4 ⟨rfl, hb⟩
      have HG4 := Lib.hid (HX2.out.1.2.below hb)
      clear hb HX2 v0 v1 v2 HTJ
      by_cases hx0 : 0 < x
      · have hx1 : ¬ ((x : Int) = 0) := by omega
        rw [if_pos hx0] at HSU
        obtain ⟨he, hhe⟩ : ∃ he, 256 * g + j = he := ⟨_, rfl⟩
        rw [hhe] at HSU HNM
        clear hx0 hhe
        go_wp2_with fail
        refine (HNM.out _).mono ?_
        rintro e w5 ⟨rfl, hb⟩
        have HG5 := Lib.hid (HG4.out.below hb)
        clear hb HG4
        have HB2 := Lib.hid (HG5.out.be.alloc HG5.out.sz (.cells #[.int .u64 (he : Int)] 34))
        have hrow2 := HG5.out.ow.alloc (.cells #[.int .u64 (he : Int)] 34)
        have HR2 := Lib.hid hrow2
        have hln := HLJ.out
        have hsz2 := HG5.out.sz
        have HCN := Lib.hid (cell_one_new w5 (.int .u64 (he : Int)) 34)
        obtain ⟨hjn, hn2⟩ := HJN.out
        go_wp2_with (at_builtin; refine wpList_append_own _ rfl _ _ 60 rfl b0 34 i0 (.int .u64 0) 1 8 Try.underlying60 HI.out HZ0.out HZ1.out HZ2.out rfl (by decide) _ _ _ rfl hrow2 ⟨_, 0, none⟩ 1 1 [.int .u64 (he : Int)] rfl rfl HCN.out (by simp [Value.oneCell']) (by unfold maxLen; omega) (by omega) (by simp; omega) ?_; intro v' w3 hown' hgrow _; have hhgrow := hgrow.size; simp at hhgrow)
        have HNX : Hid (HGr b0 34 w1 (hL q (j + 1)) v' w3) := Lib.hid ⟨by rw [HSU.out]; unfold hV; rw [List.map_append, List.length_append]; simpa [hV] using hown', hn_grow HR2.out hgrow (by simp; omega) HB2.out, by omega⟩
        clear hrow2 hown' hgrow hhgrow
        go_wp2_with fail
        go_roundw
        case rel => exact ⟨j + 1, _, by omega, rfl, by go_num, HNX⟩
        case measure => simp [intOf]; omega
      · obtain rfl : x = 0 := by omega
        rw [if_neg hx0] at HSU
        have HNX : Hid (HGr b0 34 w1 (hL q (j + 1)) v w4) := Lib.hid (by rw [HSU.out]; exact HG4.out)
        clear HG4 hx0
        obtain ⟨hjn, hn2⟩ := HJN.out
        go_wp2_with fail
        go_roundw
        case rel => exact ⟨j + 1, _, by omega, rfl, by go_num, HNX⟩
        case measure => simp [intOf]; omega
    · obtain rfl : j = n := by omega
      go_wp2_with fail
      go_ret
      exact ⟨_, rfl, HRG.out.row, HRG.out.rot, HB1.out.trans (HWr.out.mono HB1.out.size)⟩
theorem hAll (h : On A (hS m) w) (hv : vs ≤ 5000) (hd : Hd m (nS vs) q) : Calls Try.prog 23 #[vwV A 16 vs] w (AllP (hL q (nS vs)) w) :=
  (hAllT h hv hd).mono fun e w' ⟨v, h1, h2, _, h4⟩ => ⟨v, h1, h2, h4⟩
end
end Go.Proofs.Ytllghngjnhbmaaa.Bt
/- The statements' told. (Written by gen_hnj.py.) -/
namespace Go.Proofs.Ytllghngjnhbmaaa.Bt
open Go Go.RowKit Go.Shelf
set_option linter.unusedVariables false
set_option linter.unusedSimpArgs false
theorem hL_is {q : Nat → Nat × Nat} {n h : Nat} (hn : n ≤ 256) (hqb : ∀ i, (q i).1 < 9223372036854775808 ∧ (q i).2 < 72057594037927936) (hm : h ∈ hL q n) : isH n q h ∧ h < 18446744073709551616 := by
  obtain ⟨j, h1, h2, h3⟩ := hL_mem hm
  have := (hqb j).2
  exact ⟨((isH_iff hn h1).1 ⟨h2, h3⟩).1, by omega⟩
set_option maxRecDepth 100000 in
set_option maxHeartbeats 8000000 in
theorem told_ok {A vs N n : Nat} {m : Nat → UInt8} {q : Nat → Nat × Nat} {w : World} (hnn : nS vs = n) (h : On A (hS m) w) (hv : vs ≤ 5000) (hd : Hd m n q) (hr : SlB N n q w) :
    Calls Try.prog 19 #[vwV A 16 vs, .slice (some ⟨N, 0, none⟩) n n] w (Gives (.bool true) w) := by
  have hn2 : n ≤ 256 := by rw [← hnn]; exact Nat.min_le_right _ _
  have HAL := Lib.hid fun X (hX : On A (hS m) X) => hnn ▸ hAll hX hv (hnn.symm ▸ hd)
  have HSA := Lib.hid fun X (hX : SlB N n q X) => sAll N n hn2 q hd.b X hX
  have HLE : Hid (∀ X, Calls Try.prog 24 #[vwV A 16 vs] X (Gives (.int .i64 (n : Int)) X)) := Lib.hid fun X => hnn ▸ hlen (some ⟨A, 0, none⟩) 16 vs hv X
  have HGP := Lib.hid fun hh (hb : hh < 18446744073709551616) (hi : isH n q hh) X (hX : On A (hS m) X) => hGet_yes (q := q) hX hv (hnn.symm ▸ hd) hh hb (hnn.symm ▸ hi)
  have HGD := Lib.hid fun hh X (hX : SlB N n q X) => sGet (N := N) hn2 hd.b hh hX
  have HIS := Lib.hid fun h (hm : h ∈ hL q n) => hL_is hn2 hd.b hm
  have HSL := Lib.hid hr
  have HLL : Hid ((hL q n).length ≤ 256) := Lib.hid (Nat.le_trans (hL_len q n) hn2)
  have HBB := Lib.hid (bel1 w (.cells #[.pointer (some ⟨A, 0, none⟩), .int .i64 16, .int .i64 (vs : Int)] 29))
  have HX0 := Lib.hid (BxS.start (vs := vs) h)
  clear hr hd hn2 hnn
  go_enter Try.func19, Try.ntmps19
  go_upto_region 1 with fail
  change Code.wp _ _ _ _ (w.alloc (.cells #[.pointer (some ⟨A, 0, none⟩), .int .i64 16, .int .i64 (vs : Int)] 29))
  obtain ⟨y, hy⟩ : ∃ y, w.alloc (.cells #[.pointer (some ⟨A, 0, none⟩), .int .i64 16, .int .i64 (vs : Int)] 29) = y := ⟨_, rfl⟩
  obtain ⟨C, hC⟩ : ∃ C, w.heap.size = C := ⟨_, rfl⟩
  have hx0 := HX0.out
  rw [hy] at HBB
  rw [hy, hC] at hx0
  rw [hy, hC]
  have HX := Lib.hid hx0
  have HRS := Lib.hid (HSL.out.below HBB.out)
  clear hy hC hx0 HX0 HSL
  obtain ⟨c0, c1, c2⟩ := HX.out.all
  go_wp2_with fail
  refine (HAL.out _ HX.out.on).mono ?_
  rintro e w1 ⟨va, rfl, hra, hb⟩
  have HS1 := Lib.hid (And.intro (HX.out.below hb) (And.intro (HRS.out.below hb) (HBB.out.trans (hb.mono HBB.out.size))))
  have HRA := Lib.hid hra
  clear hb hra HX HRS HBB c0 c1 c2 HAL
  obtain ⟨c0, c1, c2⟩ := HS1.out.1.all
  go_wp2_with fail
  refine (HSA.out _ HS1.out.2.1).mono ?_
  rintro e w2 ⟨vb, rfl, hrb, hb⟩
  have HS2 := Lib.hid (And.intro (HS1.out.1.below hb) (And.intro (HS1.out.2.1.below hb) (HS1.out.2.2.trans (hb.mono HS1.out.2.2.size))))
  have HRA2 := Lib.hid (HRA.out.below hb)
  have HRB2 := Lib.hid hrb
  clear hb hrb HRA HS1 c0 c1 c2 HSA
  obtain ⟨l, hl⟩ : ∃ l, hL q n = l := ⟨_, rfl⟩
  rw [hl] at HRA2 HRB2 HIS HLL
  obtain ⟨pa, ca, rfl, hca⟩ := HRA2.out
  obtain ⟨pb, cb, rfl, hcb⟩ := HRB2.out
  have HCA := Lib.hid hca; have HCB := Lib.hid hcb
  obtain ⟨nl, hnl⟩ : ∃ nl, l.length = nl := ⟨_, rfl⟩
  have HNL := Lib.hid hnl
  rw [hnl] at HLL
  rw [hnl]
  have hn256 := HLL.out
  clear hl hca hcb hnl HRA2 HRB2
  obtain ⟨c0, c1, c2⟩ := HS2.out.1.all
  go_wp2_with fail
  refine (HLE.out _).mono ?_
  rintro e w3 ⟨rfl, hb⟩
  have HS3 := Lib.hid (And.intro (HS2.out.1.below hb) (And.intro (HS2.out.2.1.below hb) (HS2.out.2.2.trans (hb.mono HS2.out.2.2.size))))
  have HB3 := Lib.hid hb
  clear hb HS2 c0 c1 c2 HLE
  go_wp2_with fail
  go_loopw [31] (fun s31 wr => ∃ j : Nat, j ≤ nl ∧ s31 = .int .i64 (j : Int) ∧ Hid (Below w3.heap.size w3 wr)) (fun s31 _ => nl - (intOf s31).toNat)
  case atStart => exact ⟨0, Nat.zero_le _, rfl, Lib.hid (Below.refl _ _)⟩
  case round =>
    obtain ⟨j, hj, rfl, HBr⟩ := hrel
    by_cases hjn : j < nl
    · have hjn2 : (j : Int) < (nl : Int) := by omega
      have hj0 : (0 : Int) ≤ (j : Int) := by omega
      have hjl : j < l.length := by rw [HNL.out]; exact hjn
      have hmem : l.getD j 0 ∈ l := by rw [List.getD_eq_getElem?_getD, List.getElem?_eq_getElem hjl]; exact List.getElem_mem hjl
      obtain ⟨hi, hb64⟩ := HIS.out _ hmem
      rcases HCA.out with e | ⟨ga, rfl, hga, hra⟩
      · rw [e] at hjl; simp at hjl
      rcases HCB.out with e | ⟨gb, rfl, hgb, hrb⟩
      · rw [e] at hjl; simp at hjl
      have ka := (((HB3.out.trans (HBr.out.mono HB3.out.size)).cell (p := ⟨ga, j, none⟩) hga)).trans (hra j hjl)
      have KB : ∀ X, Below w2.heap.size w2 X → Hid (X.cell? ⟨gb, j, none⟩ = some (.int .u64 ((l.getD j 0 : Nat) : Int))) := fun X hX => Lib.hid ((hX.cell (p := ⟨gb, j, none⟩) hgb).trans (hrb j hjl))
      obtain ⟨hh, hhh⟩ : ∃ hh, l.getD j 0 = hh := ⟨_, rfl⟩
      rw [hhh] at ka hi hb64
      simp only [hhh] at KB
      have HI := Lib.hid (And.intro hi hb64)
      have HGP1 := Lib.hid (HGP.out hh hb64 hi)
      have HJN := Lib.hid (And.intro hjn HLL.out)
      have HS4 := Lib.hid (And.intro (HS3.out.1.below HBr.out) (And.intro (HS3.out.2.1.below HBr.out) (HB3.out.trans (HBr.out.mono HB3.out.size))))
      obtain ⟨c0, c1, c2⟩ := HS4.out.1.all
      obtain ⟨x, hx⟩ : ∃ x, (q (hh % 256)).1 = x := ⟨_, rfl⟩
      have HXX := Lib.hid hx
      rw [hx] at HGP1
      clear hhh hmem hi hb64 hra hrb hga hgb hjl hj hjn hx
      go_wp2_with fail
      refine (HGP1.out _ HS4.out.1.on).mono ?_
      rintro e w5 ⟨rfl, hb⟩
      have HS5 := Lib.hid (And.intro (HS4.out.1.below hb) (And.intro (HS4.out.2.1.below hb) (HS4.out.2.2.trans (hb.mono HS4.out.2.2.size))))
      have HB5 := Lib.hid (HBr.out.trans (hb.mono HBr.out.size))
      clear hb HS4 c0 c1 c2 HGP1 ka
      have kb := (KB _ HS5.out.2.2).out
      go_wp2_with fail
      refine (HGD.out hh _ HS5.out.2.1).mono ?_
      rintro e w6 ⟨⟨_, rfl⟩ | ⟨hno, _⟩, hb⟩
      rotate_left
      · exact absurd HI.out.1 hno
      rw [HXX.out]
      have HB6 := Lib.hid (HB5.out.trans (hb.mono HB5.out.size))
      have kb2 := (KB _ (HS5.out.2.2.trans (hb.mono HS5.out.2.2.size))).out
      clear hb HS5 kb KB HB5
      obtain ⟨hjn, hn256⟩ := HJN.out
      go_wp2_with fail
      try go_region
      try go_wp2_with fail
      go_roundw
      case rel => exact ⟨j + 1, by omega, by go_num, HB6⟩
      case measure => simp [intOf]; omega
    · clear hj
      have hjn3 : ¬ ((j : Int) < (nl : Int)) := by omega
      clear hjn
      go_wp2_with fail
      go_ret
      exact ⟨rfl, HS3.out.2.2.trans (HBr.out.mono HS3.out.2.2.size)⟩
end Go.Proofs.Ytllghngjnhbmaaa.Bt
/- The statements' acts; name. (Written by gen_hnk.py.) -/
namespace Go.Proofs.Ytllghngjnhbmaaa.Bt
open Go Go.RowKit Go.Shelf Go.Deep
open Go.ChangeShapes Go.WideShapes Go.ChangeAt
set_option linter.unusedVariables false
set_option linter.unusedSimpArgs false
structure Act17 where
  d : Int
  n : Int
  a : Int
  h : Int
  o : Bool
structure Act17.ok (a : Act17) : Prop where
  dB : 0 ≤ a.d ∧ a.d ≤ 255
  nB : -9223372036854775808 ≤ a.n ∧ a.n ≤ 9223372036854775807
  aB : -9223372036854775808 ≤ a.a ∧ a.a ≤ 9223372036854775807
  hB : 0 ≤ a.h ∧ a.h < 18446744073709551616
def acC (a : Act17) : Array Value := #[.int .u8 a.d, .int .i64 a.n, .int .i64 a.a, .int .u64 a.h, .bool a.o]
def Act17Cells (w : World) (b off : Nat) (a : Act17) : Prop :=
  w.cell? ⟨b, off, none⟩ = some (.int .u8 a.d) ∧ w.cell? ⟨b, off + 1, none⟩ = some (.int .i64 a.n) ∧ w.cell? ⟨b, off + 2, none⟩ = some (.int .i64 a.a) ∧ w.cell? ⟨b, off + 3, none⟩ = some (.int .u64 a.h) ∧ w.cell? ⟨b, off + 4, none⟩ = some (.bool a.o)
def Acts17At (w : World) (p : Option Addr) (acts : List Act17) : Prop :=
  (acts = []) ∨ ∃ b off, p = some ⟨b, off, none⟩ ∧ b < w.heap.size ∧ ∀ i (h : i < acts.length), Act17Cells w b (off + i * 5) acts[i] ∧ acts[i].ok
theorem Try.cellsAct17 : Try.prog.cellsOf 36 = 5 := by kernel_rfl
theorem Try.cellsU8h : Try.prog.cellsOf 5 = 1 := by kernel_rfl
theorem Try.cellsInth : Try.prog.cellsOf 3 = 1 := by kernel_rfl
theorem Try.cellsHdh : Try.prog.cellsOf 34 = 1 := by kernel_rfl
theorem Try.cellsBoolh : Try.prog.cellsOf 4 = 1 := by kernel_rfl
theorem u64_bounds {n : Int} (h : (Lit.int .u64 n).wf = true) : 0 ≤ n ∧ n < 18446744073709551616 := by
  have h2 : IntKind.u64.min ≤ n ∧ n ≤ IntKind.u64.max := by simpa [Lit.wf] using h
  have e1 : IntKind.u64.min = 0 := by decide
  have e2 : IntKind.u64.max = 18446744073709551615 := by decide
  omega
section
variable {H : Type} {enc : TypeId × Value → H} {P : Program} {w : World} {base : Nat} {spare : Nat → Bool} {held : Bool}
theorem trod_struct5 {t : TypeId} {f0 f1 f2 f3 f4 : Field} {fuel : Nat} {cs : List Value} {x : DataW H × List MemPlace} (ht : P.underlying t = some (.struct #[f0, f1, f2, f3, f4])) (h : DataW.trod enc P w base spare held fuel t cs = some x) :
    ∃ y0 y1 y2 y3 y4 n, cs.length = P.cellsOf t ∧ DataW.trod enc P w base spare held n f0.type ((cs.drop f0.offset).take (P.cellsOf f0.type)) = some y0 ∧
      DataW.trod enc P w base spare held n f1.type ((cs.drop f1.offset).take (P.cellsOf f1.type)) = some y1 ∧ DataW.trod enc P w base spare held n f2.type ((cs.drop f2.offset).take (P.cellsOf f2.type)) = some y2 ∧
      DataW.trod enc P w base spare held n f3.type ((cs.drop f3.offset).take (P.cellsOf f3.type)) = some y3 ∧ DataW.trod enc P w base spare held n f4.type ((cs.drop f4.offset).take (P.cellsOf f4.type)) = some y4 := by
  obtain ⟨xs, n, _, rfl, hl, hlen, hf⟩ := DataW.trod_struct ht h
  match xs, hlen with
  | [y0, y1, y2, y3, y4], _ => exact ⟨y0, y1, y2, y3, y4, n, hl, by simpa using hf 0 f0 rfl, by simpa using hf 1 f1 rfl, by simpa using hf 2 f2 rfl, by simpa using hf 3 f3 rfl, by simpa using hf 4 f4 rfl⟩
end
set_option maxRecDepth 100000 in
theorem acts17_open {H : Type} {enc : TypeId × Value → H} {w : World} {fuel : Nat} {v : Value} {x : DataW H × List MemPlace} {a : Option Addr} {len cap : Nat} (hv : v = .slice a len cap)
    (h : DataW.trod enc Try.prog w 0 (fun _ => true) true fuel 23 v.cells.toList = some x) : ∃ acts : List Act17, acts.length = len ∧ len ≤ 9223372036854775807 ∧ Acts17At w a acts := by
  subst hv
  rcases open_slice Try.underlying23 h with ⟨h1, _⟩ | ⟨ad, len', cap', m, n, D, Pl, h1, _, hl, hm, hmm, _, hi⟩
  · simp [Value.cells] at h1
    exact ⟨[], by simp [h1.2.1], by omega, .inl rfl⟩
  · simp [Value.cells] at h1
    obtain ⟨rfl, rfl, rfl⟩ := h1
    unfold maxLen at hm
    have hlm : len ≤ m := by rw [hmm]; simp; omega
    have key : ∀ i, i < len → ∃ act : Act17, act.ok ∧ w.cell? (ad.add (i * 5)) = some (.int .u8 act.d) ∧ w.cell? (ad.add (i * 5 + 1)) = some (.int .i64 act.n) ∧ w.cell? (ad.add (i * 5 + 2)) = some (.int .i64 act.a) ∧ w.cell? (ad.add (i * 5 + 3)) = some (.int .u64 act.h) ∧ w.cell? (ad.add (i * 5 + 4)) = some (.bool act.o) := by
      intro i hilt
      obtain ⟨cs', hc, ht⟩ := hi i (by omega)
      rw [Try.cellsAct17] at hc
      obtain ⟨_, hcl, hat⟩ := World.cells?_some hc
      obtain ⟨y0, y1, y2, y3, y4, k, _, e0, e1, e2, e3, e4⟩ := trod_struct5 Try.underlying36 ht
      match cs', hcl with
      | [c0, c1, c2, c3, c4], _ =>
        simp only [Try.cellsInth, Try.cellsU8h, Try.cellsHdh, Try.cellsBoolh, List.drop_zero, List.drop_succ_cons, List.take_succ_cons, List.take_zero] at e0 e1 e2 e3 e4
        obtain ⟨d, hd, _, wd⟩ := DataW.trod_int Try.underlying5 e0
        obtain ⟨f, hf, _, wf⟩ := DataW.trod_int Try.underlying3 e1
        obtain ⟨g, hg, _, wg⟩ := DataW.trod_int Try.underlying3 e2
        obtain ⟨hh, hhh, _, wh⟩ := DataW.trod_int Try.underlying34 e3
        obtain ⟨bb, hb, _⟩ := DataW.trod_bool Try.underlying4 e4
        simp only [List.cons.injEq, and_true] at hd hf hg hhh hb
        subst hd hf hg hhh hb
        have b0 := bounds_u8 wd
        have b1 := bounds_i64 wf
        have b2 := bounds_i64 wg
        have b3 := u64_bounds wh
        have a0 := hat 0 (by omega)
        have a1 := hat 1 (by omega)
        have a2 := hat 2 (by omega)
        have a3 := hat 3 (by omega)
        have a4 := hat 4 (by omega)
        rw [add_add] at a0 a1 a2 a3 a4
        exact ⟨⟨d, f, g, hh, bb⟩, ⟨b0, b1, b2, b3⟩, by simpa using a0, by simpa using a1, by simpa using a2, by simpa using a3, by simpa using a4⟩
    refine ⟨(List.range len).attach.map fun i => Classical.choose (key i.1 (List.mem_range.1 i.2)), by simp, by omega, ?_⟩
    by_cases h0 : len = 0
    · subst h0; exact .inl rfl
    · have k0 := (Classical.choose_spec (key 0 (by omega))).2.1
      obtain ⟨b, off, spot⟩ := ad
      have hspot : spot = none := by simpa [Addr.add] using World.cell?_spot k0
      subst hspot
      refine .inr ⟨b, off, rfl, World.block_lt_of_cell? _ _ (by simpa [Addr.add] using k0), fun i hil => ?_⟩
      have hil' : i < len := by simpa using hil
      have ks := Classical.choose_spec (key i hil')
      have eA : ∀ j, (⟨b, off, none⟩ : Addr).add j = ⟨b, off + j, none⟩ := fun j => by
        simp only [Addr.add]; split <;> simp_all
      simp only [List.getElem_map, List.getElem_attach, List.getElem_range]
      exact ⟨⟨(congrArg w.cell? (eA _).symm).trans ks.2.1, (congrArg w.cell? (eA (i * 5 + 1)).symm).trans ks.2.2.1, (congrArg w.cell? (eA (i * 5 + 2)).symm).trans ks.2.2.2.1, (congrArg w.cell? (eA (i * 5 + 3)).symm).trans ks.2.2.2.2.1, (congrArg w.cell? (eA (i * 5 + 4)).symm).trans ks.2.2.2.2.2⟩, ks.1⟩
theorem Acts17At.below {p : Option Addr} {l : List Act17} {w y : World} (h : Acts17At w p l) (hb : Below w.heap.size w y) : Acts17At y p l := by
  rcases h with e | ⟨b, off, e, hl, hc⟩
  · exact .inl e
  · have k : ∀ j, y.cell? ⟨b, j, none⟩ = w.cell? ⟨b, j, none⟩ := fun j => World.cell?_of_block (hb.block _ hl)
    refine .inr ⟨b, off, e, Nat.lt_of_lt_of_le hl hb.size, fun i hi => ⟨?_, (hc i hi).2⟩⟩
    obtain ⟨c0, c1, c2, c3, c4⟩ := (hc i hi).1
    exact ⟨(k _).trans c0, (k _).trans c1, (k _).trans c2, (k _).trans c3, (k _).trans c4⟩
/-- an act in a variable -/
def AcV (D : Nat) (a : Act17) (x : World) : Prop := x.heap[D]? = some (.cells (acC a) 36 (0, 0))
theorem AcV.below {D : Nat} {a : Act17} {x z : World} (h : AcV D a x) (hb : Below x.heap.size x z) : AcV D a z := (hb.block _ (Array.getElem?_eq_some_iff.1 (show x.heap[D]? = _ from h)).1).trans h
theorem AcV.all {D : Nat} {a : Act17} {x : World} (h : AcV D a x) : x.cell? ⟨D, 0, none⟩ = some (.int .u8 a.d) ∧ x.cell? ⟨D, 1, none⟩ = some (.int .i64 a.n) ∧ x.cell? ⟨D, 2, none⟩ = some (.int .i64 a.a) ∧ x.cell? ⟨D, 3, none⟩ = some (.int .u64 a.h) ∧ x.cell? ⟨D, 4, none⟩ = some (.bool a.o) := by
  refine ⟨?_, ?_, ?_, ?_, ?_⟩ <;> (rw [(cell_blk h _).1]; rfl)
def NameP (w : World) (e : Ending) (w' : World) : Prop := ∃ h : Nat, h < 18446744073709551616 ∧ e = .returned (.int .u64 (h : Int)) ∧ Below w.heap.size w w'
set_option maxRecDepth 100000 in
set_option maxHeartbeats 4000000 in
theorem name_any {N n : Nat} {q : Nat → Nat × Nat} {w : World} (hn : n ≤ 256) (hqb : ∀ i, (q i).1 < 9223372036854775808 ∧ (q i).2 < 72057594037927936) (hr : SlB N n q w) (a : Act17) (hok : a.ok) :
    Calls Try.prog 9 #[.slice (some ⟨N, 0, none⟩) n n, .agg (acC a)] w (NameP w) := by
  have hb0 := bel1 w (.cells (acC a) 36)
  have ha0 : AcV w.heap.size a (w.alloc (.cells (acC a) 36)) := heap_new _ _
  have HB0 := Lib.hid hb0; have HA0 := Lib.hid ha0
  have HSA := Lib.hid (sAll N n hn q hqb _ (hr.below hb0))
  have HIS := Lib.hid fun h (hm : h ∈ hL q n) => hL_is hn hqb hm
  have HLL : Hid ((hL q n).length ≤ 256) := Lib.hid (Nat.le_trans (hL_len q n) hn)
  have HOK := Lib.hid hok
  clear hb0 ha0 hr hqb
  go_enter Try.func9, Try.ntmps9
  go_upto_region 1 with fail
  change Code.wp _ _ _ _ (w.alloc (.cells (acC a) 36))
  obtain ⟨y, hy⟩ : ∃ y, w.alloc (.cells (acC a) 36) = y := ⟨_, rfl⟩
  obtain ⟨D, hD⟩ : ∃ D, w.heap.size = D := ⟨_, rfl⟩
  have ha0 := HA0.out
  rw [hy] at HB0 HSA
  rw [hy, hD] at ha0
  rw [hy, hD]
  have HA := Lib.hid ha0
  clear hy hD ha0 HA0
  go_wp2_with fail
  refine HSA.out.mono ?_
  rintro e w1 ⟨v, rfl, hrv, hb⟩
  have HA1 := Lib.hid (HA.out.below hb)
  have HB1 := Lib.hid (HB0.out.trans (hb.mono HB0.out.size))
  obtain ⟨l, hl⟩ : ∃ l, hL q n = l := ⟨_, rfl⟩
  rw [hl] at hrv HIS HLL
  obtain ⟨p, cp, rfl, hc⟩ := hrv
  have HC := Lib.hid hc
  obtain ⟨nl, hnl⟩ : ∃ nl, l.length = nl := ⟨_, rfl⟩
  have HNL := Lib.hid hnl
  rw [hnl]
  rw [hnl] at HLL
  have hll := HLL.out
  obtain ⟨d0, d1, d2, d3, d4⟩ := HA1.out.all
  have HR1 : Hid (∃ h : Nat, h < 18446744073709551616 ∧ a.h = (h : Int)) := Lib.hid ⟨a.h.toNat, by have := HOK.out.hB; omega, by have := HOK.out.hB; omega⟩
  have hnb := HOK.out.nB
  clear hl hc hnl hb HSA HA
  obtain ⟨an, han⟩ : ∃ an, a.n = an := ⟨_, rfl⟩
  rw [han] at hnb d1
  cases hold : a.o with
  | true =>
    rw [hold] at d4
    obtain ⟨h, hh1, hh2⟩ := HR1.out
    rw [hh2] at d3
    go_wp2_with fail
    go_ret
    exact ⟨h, hh1, rfl, HB1.out⟩
  | false =>
    rw [hold] at d4
    by_cases h0 : nl = 0
    · subst h0
      obtain ⟨h, hh1, hh2⟩ := HR1.out
      rw [hh2] at d3
      go_wp2_with fail
      go_ret
      exact ⟨h, hh1, rfl, HB1.out⟩
    · have hn0 : ¬ ((nl : Int) = 0) := by omega
      obtain ⟨z, hz⟩ : ∃ z : Nat, max 0 an = (z : Int) := ⟨(max 0 an).toNat, by omega⟩
      have hzz : (if 0 < an then an else 0) = (z : Int) := by rw [← hz]; split <;> omega
      have hr : Int.tmod (z : Int) (nl : Int) = ((z % nl : Nat) : Int) := by rw [Int.tmod_eq_emod_of_nonneg (by omega)]; rfl
      have hlt := Nat.mod_lt z (show 0 < nl by omega)
      obtain ⟨d, hd⟩ : ∃ d, z % nl = d := ⟨_, rfl⟩
      rw [hd] at hr hlt
      have hdl : d < l.length := by rw [HNL.out]; exact hlt
      rcases HC.out with e | ⟨gp, rfl, hg, hcc⟩
      · have := HNL.out; rw [e] at this; exact absurd this.symm h0
      have hcell := hcc d hdl
      have hmem : l.getD d 0 ∈ l := by rw [List.getD_eq_getElem?_getD, List.getElem?_eq_getElem hdl]; exact List.getElem_mem hdl
      obtain ⟨x, hx⟩ : ∃ x, l.getD d 0 = x := ⟨_, rfl⟩
      have HX : Hid (x < 18446744073709551616) := Lib.hid (by rw [← hx]; exact (HIS.out _ hmem).2)
      rw [hx] at hcell
      have hd2 : (d : Int) < (nl : Int) := by omega
      have hd0 : (0 : Int) ≤ (d : Int) := by omega
      clear hcc hg hmem hx hdl hd hz han
      go_wp2_with fail
      go_ret
      exact ⟨x, HX.out, rfl, HB1.out⟩
end Go.Proofs.Ytllghngjnhbmaaa.Bt
/- Maps beside an arena; what HandleMoves needs of a table. (Written by gen_hnm.py.) -/
namespace Go.Proofs.Ytllghngjnhbmaaa.Bt
open Go Go.RowKit Go.Shelf Go.Maps
set_option linter.unusedVariables false
set_option linter.unusedSimpArgs false
/-! an arena, when a block is turned that is none of its cells -/
theorem arx_grown {A P n cap l : Nat} {s : ASt} {ps : List (Option Nat)} {p : Option Addr} {x z : World} {o : Obj} (h : ArX A s P ps p n cap x) (hl : x.heap[l]? = some o) (ho : o.isCells = false) (hg : x.grownBy z (some l)) : ArX A s P ps p n cap z := by
  have ne : ∀ {k : Nat} {c : Array Value} {T : TypeId} {fr : Nat × Nat}, x.heap[k]? = some (.cells c T fr) → z.heap[k]? = some (.cells c T fr) := fun {k c T fr} hk =>
    (hg.block k (Array.getElem?_eq_some_iff.1 hk).1 (fun e => by
      obtain rfl : k = l := by simpa using e
      rw [hl] at hk; cases hk; cases ho)).trans hk
  exact { h with
    hd := ne h.hd
    row := ne h.row
    pg := fun i b hb => ne (h.pg i b hb)
    edges := by
      rcases h.edges with h1 | ⟨b, off, h1, h2, h3⟩
      · exact .inl h1
      · refine .inr ⟨b, off, h1, Nat.lt_of_lt_of_le h2 hg.size, fun k hk => ?_⟩
        have h4 := h3 k hk
        obtain ⟨o2, ho2, hc2⟩ := cells_of_cell h4
        rw [World.cell?_of_block (w := x) (a := ⟨b, off + k, none⟩) (hg.block b h2 (fun e => by
          obtain rfl : b = l := by simpa using e
          rw [hl] at ho2; cases ho2; rw [ho] at hc2; cases hc2))]
        exact h4 }
theorem on_grown {A l : Nat} {s : ASt} {x z : World} {o : Obj} (h : On A s x) (hl : x.heap[l]? = some o) (ho : o.isCells = false) (hg : x.grownBy z (some l)) : On A s z := by
  obtain ⟨P, ps, p, n, cap, h⟩ := h; exact ⟨P, ps, p, n, cap, arx_grown h hl ho hg⟩
theorem base_grown {A l : Nat} {s : ASt} {w x z : World} {o : Obj} (k : Base A w x) (h : On A s x) (hl : x.heap[l]? = some o) (ho : o.isCells = false) (hg : x.grownBy z (some l)) (hw : w.heap.size ≤ l) : Base A w z := by
  obtain ⟨P, ps, p, n, cap, h⟩ := h
  have h2 := arx_grown h hl ho hg
  exact ⟨k.bel.grown hg k.bel.size (fun j hj => by obtain rfl : l = j := by simpa using hj
                                                   exact hw), fun i hi => k.own i ((ownW_iff h i).2 ((ownW_iff h2 i).1 hi)), fun i hi => k.edg i ((edgW_iff h i).2 ((edgW_iff h2 i).1 hi))⟩
theorem TvS.grown {C A vs l : Nat} {m : Nat → UInt8} {w x z : World} {o : Obj} (h : TvS C A vs m w x) (hl : x.heap[l]? = some o) (ho : o.isCells = false) (hg : x.grownBy z (some l)) (hw : w.heap.size ≤ l) : TvS C A vs m w z :=
  ⟨(hg.block C (Array.getElem?_eq_some_iff.1 h.c).1 (fun e => by
      obtain rfl : C = l := by simpa using e
      have hc := h.c
      rw [hl] at hc; cases hc; cases ho)).trans h.c, on_grown h.on hl ho hg, base_grown h.bs h.on hl ho hg hw⟩
theorem HrA.grown {v : Value} {r : List Nat} {l : Nat} {x z : World} {o : Obj} (h : HrA v r x) (hl : x.heap[l]? = some o) (ho : o.isCells = false) (hg : x.grownBy z (some l)) : HrA v r z := by
  obtain ⟨p, cap, e, c | ⟨g, e2, hgl, hc⟩⟩ := h
  · exact ⟨p, cap, e, .inl c⟩
  · refine ⟨p, cap, e, .inr ⟨g, e2, Nat.lt_of_lt_of_le hgl hg.size, fun j hj => ?_⟩⟩
    have h4 := hc j hj
    obtain ⟨o2, ho2, hc2⟩ := cells_of_cell h4
    exact (World.cell?_of_block (w := x) (a := ⟨g, j, none⟩) (hg.block g hgl (fun e => by
      obtain rfl : g = l := by simpa using e
      rw [hl] at ho2; cases ho2; rw [ho] at hc2; cases hc2))).trans h4
/-! the map of the statement -/
theorem lawH : Keyed Try.prog 34 := int_keyed Try.underlying34
theorem zeroI (w : World) : (zeroValue 3).run Try.prog w = .ok (.int .i64 0) w := by kernel_rfl
/-- the map in block b reads F at the keys of L -/
structure MpS (b k : Nat) (L : List Nat) (F : Nat → Nat) (x : World) (D : DataW Unit) : Prop where
  own : x.ownsMap Try.prog 34 (plainElem Try.prog 3) b k D
  map : IsMap D
  rd : ∀ h, h ∈ L → D.atKey (.int .u64 (h : Int)) (.lit (.int .i64 0)) = .lit (.int .i64 (F h : Int))
theorem u64_wf {h : Nat} (hb : h < 18446744073709551616) : (Lit.int .u64 (h : Int)).wf = true := by
  have e1 : IntKind.u64.min = 0 := by decide
  have e2 : IntKind.u64.max = 18446744073709551615 := by decide
  simp only [Lit.wf, e1, e2]
  simp; omega
theorem i64_wf {a : Nat} (ha : a < 9223372036854775808) : (Lit.int .i64 (a : Int)).wf = true := by
  have e1 : IntKind.i64.min = -9223372036854775808 := by decide
  have e2 : IntKind.i64.max = 9223372036854775807 := by decide
  simp only [Lit.wf, e1, e2]
  simp; omega
theorem MpS.block {b k : Nat} {L : List Nat} {F : Nat → Nat} {x : World} {D : DataW Unit} (h : MpS b k L F x D) : ∃ o, x.heap[b]? = some o ∧ o.isCells = false := by
  obtain ⟨es, cl, hb, _⟩ := h.own
  exact ⟨_, hb, rfl⟩
theorem MpS.below {b k : Nat} {L : List Nat} {F : Nat → Nat} {x z : World} {D : DataW Unit} (h : MpS b k L F x D) (hb : Below x.heap.size x z) : MpS b k L F z D :=
  ⟨h.own.kept (show x.grownBy z none from ⟨hb.os, hb.tape, hb.output, hb.size, fun k hk _ => hb.block k hk⟩) (by simp), h.map, h.rd⟩
theorem MpS.went {b k A : Nat} {s : ASt} {L : List Nat} {F : Nat → Nat} {x z : World} {D : DataW Unit} (h : MpS b k L F x D) (hx : On A s x) (hg : Went A x z) : MpS b k L F z D := by
  obtain ⟨es, cl, hb, hF, hs, hD⟩ := h.own
  refine ⟨⟨es, cl, ?_, hF, hs, hD⟩, h.map, h.rd⟩
  rw [hg.block b (Array.getElem?_eq_some_iff.1 hb).1 (fun ho => ?_)]
  · exact hb
  · obtain ⟨P, ps, p, n, cap, hx⟩ := hx
    rcases (ownW_iff hx b).1 ho with rfl | rfl | ⟨i, hi⟩
    · have := hx.hd; rw [hb] at this; cases this
    · have := hx.row; rw [hb] at this; cases this
    · have := hx.pg i b hi; rw [hb] at this; cases this
/-- a number is laid at a key -/
theorem MpS.put {b k : Nat} {L : List Nat} {F : Nat → Nat} {x : World} {D : DataW Unit} (h : MpS b k L F x D) (hk : k < 1000) (t : TypeId) (ht : Try.prog.underlying t = some (.map 34 3)) (hh v : Nat) (hb : hh < 18446744073709551616) (hv : v < 9223372036854775808) :
    ∃ z, (Instr.mapUpdate t (.map (some b)) (.int .u64 (hh : Int)) (.int .i64 (v : Int))).run Try.prog x = .ok () z ∧ x.grownBy z (some b) ∧ MpS b (k + 1) (hh :: L) (fun y => if y = hh then v else F y) z (D.put (.int .u64 (hh : Int)) (.lit (.int .i64 (v : Int)))) := by
  obtain ⟨z, h1, h2, h3⟩ := h.own.update lawH ht (by unfold maxLen; omega) (keyOf_int_mk Try.underlying34 (u64_wf hb)) (plainElem_int Try.underlying3 (i64_wf hv))
  refine ⟨z, h1, h3, h2, ?_, fun y hy => ?_⟩
  · obtain ⟨es, rfl⟩ := h.map
    exact ⟨_, rfl⟩
  · by_cases e : y = hh
    · subst e
      rw [if_pos rfl, atKey_put_same h.map (by trivial)]
    · have ne : (Lit.int .u64 (y : Int)) ≠ (Lit.int .u64 (hh : Int)) := fun c => e (by
        have h9 : (y : Int) = (hh : Int) := by simpa using c
        omega)
      rw [if_neg e, atKey_put_other ne]
      rcases List.mem_cons.1 hy with c | c
      · exact absurd c e
      · exact h.rd y c
theorem MpS.look {b k : Nat} {L : List Nat} {F : Nat → Nat} {x : World} {D : DataW Unit} (h : MpS b k L F x D) (t : TypeId) (ht : Try.prog.underlying t = some (.map 34 3)) (hh : Nat) (hb : hh < 18446744073709551616) (hm : hh ∈ L) :
    (Instr.lookup t (.map (some b)) (.int .u64 (hh : Int)) false).run Try.prog x = .ok (.int .i64 (F hh : Int)) x := by
  obtain ⟨c, h1, h2, h3⟩ := h.own.lookup_int lawH ht Try.underlying3 (zeroI x) (keyOf_int_mk Try.underlying34 (u64_wf hb))
  rw [h.rd hh hm] at h2
  have e : c = (F hh : Int) := by
    simp only [DataW.lit.injEq, Lit.int.injEq, true_and] at h2
    exact h2.symm
  rw [e] at h1
  exact h1
theorem MpS.made (x : World) : MpS x.heap.size 0 [] (fun _ => 0) (x.alloc (.map #[] 0)) (.map []) := ⟨World.ownsMap_made _ _ _ _, ⟨_, rfl⟩, fun h hm => by cases hm⟩
/-! tables alike -/
theorem hL_congr {q q' : Nat → Nat × Nat} : ∀ n, (∀ i, i < n → (0 < (q i).1 ↔ 0 < (q' i).1) ∧ (q i).2 = (q' i).2) → hL q n = hL q' n
  | 0, _ => rfl
  | n + 1, h => by
    obtain ⟨h1, h2⟩ := h n (by omega)
    unfold hL
    rw [hL_congr n fun i hi => h i (by omega), h2]
    by_cases c : 0 < (q n).1
    · rw [if_pos c, if_pos (h1.1 c)]
    · rw [if_neg c, if_neg (fun d => c (h1.2 d))]
theorem ntp_one {n : Nat} {q q' : Nat → Nat × Nat} (hf : ∀ k, k < n → (free q k ↔ free q' k)) (hh : ∀ k, free q k → hOf q k = hOf q' k) {w w' y y' : World} {e e' : Ending} (h : NtP n q w e y) (h' : NtP n q' w' e' y') : e = e' := by
  rcases h.1 with ⟨i, hi, h1, h2, rfl⟩ | ⟨h2, rfl⟩ <;> rcases h'.1 with ⟨j, hj, k1, k2, rfl⟩ | ⟨k2, rfl⟩
  · have : i = j := by
      rcases Nat.lt_trichotomy i j with c | c | c
      · exact absurd ((hf i hi).1 h1) (k2 i c)
      · exact c
      · exact absurd ((hf j hj).2 k1) (h2 j c)
    subst this
    rw [hh i h1]
  · exact absurd ((hf i hi).1 h1) (k2 i hi)
  · exact absurd ((hf j hj).2 k1) (h2 j hj)
  · rfl
end Go.Proofs.Ytllghngjnhbmaaa.Bt
/- A row that grows by append beside an arena; what HandleNever needs of a table. -/
namespace Go.Proofs.Ytllghngjnhbmaaa.Bt
open Go Go.RowKit Go.Shelf Go.Maps
set_option linter.unusedVariables false
set_option linter.unusedSimpArgs false
/-! an arena, when a block is turned that is none of its own -/
theorem arx_mine {A P n cap l : Nat} {s : ASt} {ps : List (Option Nat)} {p : Option Addr} {x z : World} (h : ArX A s P ps p n cap x) (hm : Mine A l x) (hg : x.grownBy z (some l)) : ArX A s P ps p n cap z :=
  h.kept hg.size (hg.block A h.ltA fun e => hm.own ((ownW_iff h l).2 (.inl (by simpa using e.symm)))) (hg.block P h.ltP fun e => hm.own ((ownW_iff h l).2 (.inr (.inl (by simpa using e.symm)))))
    (fun i b hb => hg.block b (h.ltG hb) fun e => hm.own ((ownW_iff h l).2 (.inr (.inr ⟨i, by
      obtain rfl : b = l := by simpa using e
      exact hb⟩))))
    (fun b off ep => hg.block b (h.ltE ep) fun e => hm.edg ((edgW_iff h l).2 ⟨off, by
      obtain rfl : b = l := by simpa using e
      exact ep⟩))
theorem on_mine {A l : Nat} {s : ASt} {x z : World} (h : On A s x) (hm : Mine A l x) (hg : x.grownBy z (some l)) : On A s z := by
  obtain ⟨P, ps, p, n, cap, h⟩ := h; exact ⟨P, ps, p, n, cap, arx_mine h hm hg⟩
theorem own_mine {A l : Nat} {s : ASt} {x z : World} (h : On A s x) (hm : Mine A l x) (hg : x.grownBy z (some l)) (k : Nat) : (OwnW A z k ↔ OwnW A x k) ∧ (EdgW A z k ↔ EdgW A x k) := by
  obtain ⟨P, ps, p, n, cap, h⟩ := h
  have h2 := arx_mine h hm hg
  exact ⟨(ownW_iff h2 k).trans (ownW_iff h k).symm, (edgW_iff h2 k).trans (edgW_iff h k).symm⟩
theorem Mine.mine {A l R : Nat} {s : ASt} {x z : World} (h : On A s x) (hm : Mine A l x) (hR : Mine A R x) (hg : x.grownBy z (some l)) : Mine A R z :=
  ⟨Nat.lt_of_lt_of_le hR.lt hg.size, fun ho => hR.own ((own_mine h hm hg R).1.1 ho), fun ho => hR.edg ((own_mine h hm hg R).2.1 ho)⟩
theorem base_mine {A l : Nat} {s : ASt} {w x z : World} (k : Base A w x) (h : On A s x) (hm : Mine A l x) (hl : w.heap.size ≤ l) (hg : x.grownBy z (some l)) : Base A w z :=
  ⟨k.bel.grown hg k.bel.size (fun j hj => by obtain rfl : l = j := by simpa using hj
                                             exact hl), fun i hi => k.own i ((own_mine h hm hg i).1.1 hi), fun i hi => k.edg i ((own_mine h hm hg i).2.1 hi)⟩
/-- a new block is no arena's -/
theorem Mine.late {A g : Nat} {s : ASt} {x z : World} (h : On A s x) (hb : Below x.heap.size x z) (h1 : x.heap.size ≤ g) (h2 : g < z.heap.size) : Mine A g z := by
  obtain ⟨P, ps, p, n, cap, h⟩ := h
  have k := h.below hb
  refine ⟨h2, fun ho => ?_, fun ho => ?_⟩
  · rcases (ownW_iff k g).1 ho with h3 | h3 | ⟨i, h3⟩
    · have := h.ltA; omega
    · have := h.ltP; omega
    · have := h.ltG h3; omega
  · obtain ⟨off, h3⟩ := (edgW_iff k g).1 ho
    have := h.ltE h3; omega
theorem below_of_grown {x z : World} (hg : x.grownBy z none) : Below x.heap.size x z := ⟨hg.os, hg.tape, hg.output, hg.size, fun k hk => hg.block k hk (by simp)⟩
/-! the row of the living -/
structure LvR (A b0 : Nat) (v : Value) (l : List Nat) (x : World) : Prop where
  ow : x.ownsRow b0 34 1 v l.length (hV l)
  mi : ∀ g, v.ownBlock = some g → Mine A g x
theorem LvR.nil (A b0 : Nat) (x : World) : LvR A b0 (.slice none 0 0) [] x := ⟨World.ownsRow_nil _ _ _ _, fun g e => by simp [Value.ownBlock] at e⟩
theorem LvR.below {A b0 : Nat} {s : ASt} {v : Value} {l : List Nat} {x z : World} (h : LvR A b0 v l x) (ho : On A s x) (hb : Below x.heap.size x z) : LvR A b0 v l z :=
  ⟨own_below h.ow hb, fun g e => (h.mi g e).went (Went.of_below ho hb)⟩
theorem LvR.went {A b0 : Nat} {v : Value} {l : List Nat} {x z : World} (h : LvR A b0 v l x) (hg : Went A x z) : LvR A b0 v l z := by
  refine ⟨⟨h.ow.1, ?_⟩, fun g e => (h.mi g e).went hg⟩
  rcases h.ow.2 with c | ⟨g, cap, cur, rfl, h2, h3, h4⟩
  · exact .inl c
  · exact .inr ⟨g, cap, cur, rfl, h2, (h.mi g rfl).at hg h3, h4⟩
/-- another row, map or variable is turned -/
theorem LvR.other {A b0 l0 : Nat} {s : ASt} {v : Value} {l : List Nat} {x z : World} (h : LvR A b0 v l x) (ho : On A s x) (hm : Mine A l0 x) (hg : x.grownBy z (some l0)) (hne : v.ownBlock ≠ some l0) : LvR A b0 v l z :=
  ⟨h.ow.kept hg (.inr hne), fun g e => Mine.mine ho hm (h.mi g e) hg⟩
theorem LvR.hd {A b0 : Nat} {v : Value} {l : List Nat} {x : World} (h : LvR A b0 v l x) : HrA v l x := by
  rcases h.ow.2 with ⟨rfl, h0⟩ | ⟨g, cap, cur, rfl, _, hg, hnc, _, hcs, htk⟩
  · exact ⟨none, 0, by rw [h0], .inl (List.eq_nil_of_length_eq_zero h0)⟩
  · refine ⟨_, cap, rfl, .inr ⟨g, rfl, (Array.getElem?_eq_some_iff.1 hg).1, fun j hj => ?_⟩⟩
    rw [(cell_blk hg _).1]
    have h1 : (hV l)[j]? = some (.int .u64 ((l.getD j 0 : Nat) : Int)) := by unfold hV; rw [List.getElem?_map, List.getElem?_eq_getElem hj, List.getD_eq_getElem?_getD, List.getElem?_eq_getElem hj]; rfl
    rw [← h1, ← htk, List.getElem?_take, if_pos (by omega)]; simp
theorem LvR.rot {A b0 : Nat} {v : Value} {l : List Nat} {x : World} (h : LvR A b0 v l x) : RoT v x := fun g n c e => by
  rcases h.ow.2 with ⟨rfl, h0⟩ | ⟨g', cap, cur, rfl, _, hg, _⟩
  · cases e
  · simp only [Value.slice.injEq, Option.some.injEq, Addr.mk.injEq] at e
    obtain ⟨⟨rfl, _⟩, _⟩ := e
    exact ⟨cur, hg⟩
/-- cells of another row are appended -/
theorem LvR.append {A b0 : Nat} {s : ASt} {v : Value} {l news : List Nat} {x : World} (h : LvR A b0 v l x) (ho : On A s x) (hn : l.length + news.length ≤ 1000) (hb : b0 ≤ x.heap.size) (ty : TypeId) (ad : Addr) (m c : Nat) (hm : news.length = m)
    (hc : ∀ j u, (hV news)[j]? = some u → x.cell? (ad.add j) = some u) :
    ∃ v' z, (Builtin.append_ #[60, 60] ty #[v, .slice (some ad) m c]).run Try.prog x = .ok v' z ∧ LvR A b0 v' (l ++ news) z ∧ x.grownBy z v.ownBlock := by
  obtain ⟨i0, hi0, hz⟩ : ∃ i0, Try.prog.info? 34 = some i0 ∧ i0.zero = some (.int .u64 0) ∧ i0.size = 1 ∧ i0.bytes = 8 := by
    have := Try.infoHd
    cases hh : Try.prog.info? 34 with
    | none => rw [hh] at this; cases this
    | some i => rw [hh] at this; simp at this; exact ⟨i, rfl, this.1, this.2.1, this.2.2⟩
  obtain ⟨hz0, hz1, hz2⟩ := hz
  have hnl : (hV news).length = m * 1 := by unfold hV; rw [List.length_map, hm, Nat.mul_one]
  have h1 : ∀ u ∈ hV news, u.oneCell' = true := fun u hu => by
    unfold hV at hu; obtain ⟨y, _, rfl⟩ := List.mem_map.1 hu; simp [Value.oneCell']
  obtain ⟨v', z, hr, how, hg, _⟩ := run_append_own (P := Try.prog) x b0 60 ty 34 i0 (.int .u64 0) 1 8 Try.underlying60 hi0 hz0 hz1 hz2 rfl (by decide) v l.length (hV l) h.ow ad m c (hV news) hnl hc h1 (by unfold maxLen; omega) (by omega) hb
  refine ⟨v', z, hr, ⟨?_, ?_⟩, hg⟩
  · rw [List.length_append, hm]
    have e : hV (l ++ news) = hV l ++ hV news := by unfold hV; rw [List.map_append]
    rw [e]; exact how
  intro g eg
  rcases h.ow.2 with ⟨rfl, h0⟩ | ⟨g0, cap, cur, rfl, hbg, hg0, hnc, hcm, hcs, htk⟩
  · obtain rfl : l = [] := List.eq_nil_of_length_eq_zero h0
    obtain ⟨v2, z2, hr2, how2, hg2, _⟩ := run_append_own (P := Try.prog) x x.heap.size 60 ty 34 i0 (.int .u64 0) 1 8 Try.underlying60 hi0 hz0 hz1 hz2 rfl (by decide) (.slice none 0 0) 0 [] (World.ownsRow_nil _ _ _ _) ad m c (hV news) hnl hc h1 (by unfold maxLen; omega) (by omega) (Nat.le_refl _)
    rw [hr] at hr2
    simp only [Result.ok.injEq] at hr2
    obtain ⟨rfl, rfl⟩ := hr2
    obtain ⟨k1, k2⟩ := how2.lt g eg
    exact Mine.late ho (below_of_grown hg2) k1 k2
  · by_cases hroom : l.length + m ≤ cap
    · obtain ⟨z2, hr2, how2, hg2⟩ := run_append_fits (P := Try.prog) (w := x) b0 60 ty 34 i0 1 Try.underlying60 hi0 hz1 g0 l.length cap (hV l) h.ow ad m c (hV news) hnl hc h1 hroom
      rw [hr] at hr2
      simp only [Result.ok.injEq] at hr2
      obtain ⟨rfl, rfl⟩ := hr2
      simp only [Value.ownBlock, Option.some.injEq] at eg
      subst eg
      exact Mine.mine ho (h.mi g0 rfl) (h.mi g0 rfl) hg2
    · have hr2 := run_append_grow (P := Try.prog) x 60 ty 34 i0 (.int .u64 0) Try.underlying60 hi0 hz0 ⟨g0, 0, none⟩ l.length cap (hV l) (by rw [hz1]; exact h.ow.1) (h.ow.cells (g := g0) rfl) ad m c (hV news) (by rw [hz1]; exact hnl) hc (by omega) (by omega) (growslice_fits (by omega) (by rw [hz2]; omega))
      rw [hr] at hr2
      simp only [Result.ok.injEq] at hr2
      obtain ⟨rfl, rfl⟩ := hr2
      simp only [Value.ownBlock, Option.some.injEq] at eg
      subst eg
      exact Mine.late ho (((Below.refl x.heap.size x).drew).alloc (by simp) _) (Nat.le_refl _) (by simp)
/-- what stands beside such a row, when it is turned -/
theorem TvS.mine {C A vs l : Nat} {m : Nat → UInt8} {w x z : World} (h : TvS C A vs m w x) (hm : Mine A l x) (hg : x.grownBy z (some l)) (hw : w.heap.size ≤ l) (hC : C ≠ l) : TvS C A vs m w z :=
  ⟨(hg.block C (Array.getElem?_eq_some_iff.1 h.c).1 (fun e => hC (by simpa using e))).trans h.c, on_mine h.on hm hg, base_mine h.bs h.on hm hw hg⟩
end Go.Proofs.Ytllghngjnhbmaaa.Bt
/- HandleNever: what was told, what is gone, and what lies there between two acts. -/
namespace Go.Proofs.Ytllghngjnhbmaaa.Bt
open Go Go.RowKit Go.Shelf Go.Maps
set_option linter.unusedVariables false
set_option linter.unusedSimpArgs false
/-- the handle was told by New -/
def Tq (n : Nat) (q : Nat → Nat × Nat) (h : Nat) : Prop := h % 256 < n ∧ 1 ≤ h / 256 ∧ h / 256 ≤ (q (h % 256)).2
theorem new_told {n i a : Nat} {q : Nat → Nat × Nat} (hn : n ≤ 256) (hi : i < n) (hf : free q i) (ha : 1 ≤ a) :
    ¬ Tq n q (hOf q i) ∧ hOf q i < 18446744073709551616 ∧ (∀ x, Tq n (upd q i (a, (q i).2 + 1)) x ↔ Tq n q x ∨ x = hOf q i) ∧ (∀ x, isH n (upd q i (a, (q i).2 + 1)) x ↔ isH n q x ∨ x = hOf q i) ∧ ¬ isH n q (hOf q i) := by
  obtain ⟨h1, h2⟩ := hf
  obtain ⟨g, hg⟩ : ∃ g, (q i).2 = g := ⟨_, rfl⟩
  unfold Tq isH hOf
  rw [hg] at h2 ⊢
  have e1 : (256 * (g + 1) + i) % 256 = i := by omega
  have e2 : (256 * (g + 1) + i) / 256 = g + 1 := by omega
  rw [e1, e2, hg, h1]
  refine ⟨by omega, by omega, fun x => ?_, fun x => ?_, by omega⟩
  · by_cases e : x % 256 = i
    · rw [e, upd_same, hg]; simp only; omega
    · rw [upd_other e]; omega
  · by_cases e : x % 256 = i
    · rw [e, upd_same, hg, h1]; simp only; omega
    · rw [upd_other e]; omega
theorem drop_told {n hh : Nat} {q : Nat → Nat × Nat} (hi : isH n q hh) :
    (∀ x, Tq n (upd q (hh % 256) (0, (q (hh % 256)).2)) x ↔ Tq n q x) ∧ (∀ x, isH n (upd q (hh % 256) (0, (q (hh % 256)).2)) x ↔ isH n q x ∧ x ≠ hh) := by
  obtain ⟨j, hj⟩ : ∃ j, hh % 256 = j := ⟨_, rfl⟩
  unfold isH at hi
  unfold Tq isH
  rw [hj] at hi ⊢
  obtain ⟨i1, i2, i3⟩ := hi
  refine ⟨fun x => ?_, fun x => ?_⟩
  · by_cases e : x % 256 = j
    · rw [e, upd_same]
    · rw [upd_other e]
  · by_cases e : x % 256 = j
    · rw [e, upd_same]; simp only; omega
    · rw [upd_other e]
      constructor
      · exact fun c => ⟨c, fun d => e (d ▸ hj)⟩
      · exact fun c => c.1
theorem hL_nodup (q : Nat → Nat × Nat) : ∀ n, n ≤ 256 → (hL q n).Nodup
  | 0, _ => List.nodup_nil
  | n + 1, hn => by
    unfold hL
    split
    · refine List.nodup_append.2 ⟨hL_nodup q n (by omega), by simp, fun a ha b hb => ?_⟩
      obtain ⟨j, h1, h2, h3⟩ := hL_mem ha
      rw [List.mem_singleton] at hb
      omega
    · exact hL_nodup q n (by omega)
theorem hL_has {q : Nat → Nat × Nat} : ∀ {n j}, j < n → 0 < (q j).1 → 256 * (q j).2 + j ∈ hL q n
  | 0, j, h, _ => by omega
  | n + 1, j, h, h2 => by
    unfold hL
    by_cases e : j = n
    · subst e; rw [if_pos h2]; exact List.mem_append_right _ (List.mem_singleton.2 rfl)
    · have := hL_has (n := n) (by omega) h2
      split
      · exact List.mem_append_left _ this
      · exact this
theorem nodup_len : ∀ (a b : List Nat), a.Nodup → (∀ x, x ∈ a → x ∈ b) → a.length ≤ b.length
  | [], _, _, _ => Nat.zero_le _
  | x :: a, b, hd, hs => by
    rw [List.nodup_cons] at hd
    have hx := hs x List.mem_cons_self
    have h1 := nodup_len a (b.erase x) hd.2 fun y hy => (List.mem_erase_of_ne (by rintro rfl; exact hd.1 hy)).2 (hs y (List.mem_cons_of_mem _ hy))
    rw [List.length_erase_of_mem hx] at h1
    have := List.length_pos_of_mem hx
    rw [List.length_cons]; omega
theorem live_len {n : Nat} {q : Nat → Nat × Nat} {l : List Nat} (hn : n ≤ 256) (hqb : ∀ i, (q i).1 < 9223372036854775808 ∧ (q i).2 < 72057594037927936) (hd : l.Nodup) (hm : ∀ h, h ∈ l ↔ isH n q h) : (hL q n).length = l.length := by
  apply Nat.le_antisymm
  · exact nodup_len _ _ (hL_nodup q n hn) fun h hh => (hm h).2 (hL_is hn hqb hh).1
  · refine nodup_len _ _ hd fun h hh => ?_
    obtain ⟨h1, h2, h3⟩ := (hm h).1 hh
    have := hL_has h1 h2
    rw [h3] at this
    have e : 256 * (h / 256) + h % 256 = h := by omega
    rwa [e] at this
theorem erase_mem {l : List Nat} {d h : Nat} (hd : l.Nodup) (hl : d < l.length) (hh : l.getD d 0 = h) : (l.take d ++ l.drop (d + 1)).Nodup ∧ ∀ x, x ∈ l.take d ++ l.drop (d + 1) ↔ x ∈ l ∧ x ≠ h := by
  have e0 : l[d] = h := by rw [List.getD_eq_getElem?_getD, List.getElem?_eq_getElem hl] at hh; exact hh
  have e : l = l.take d ++ h :: l.drop (d + 1) := by
    rw [← e0, ← List.drop_eq_getElem_cons hl, List.take_append_drop]
  obtain ⟨a, ha⟩ : ∃ a, l.take d = a := ⟨_, rfl⟩
  obtain ⟨b, hb⟩ : ∃ b, l.drop (d + 1) = b := ⟨_, rfl⟩
  rw [ha, hb] at e ⊢
  rw [e] at hd ⊢
  rw [List.nodup_append] at hd
  obtain ⟨h1, h2, h3⟩ := hd
  rw [List.nodup_cons] at h2
  refine ⟨List.nodup_append.2 ⟨h1, h2.2, fun x hx y hy => h3 x hx y (List.mem_cons_of_mem _ hy)⟩, fun x => ?_⟩
  simp only [List.mem_append, List.mem_cons]
  constructor
  · rintro (c | c)
    · exact ⟨.inl c, fun k => h3 x c h List.mem_cons_self k⟩
    · exact ⟨.inr (.inr c), fun k => h2.1 (k ▸ c)⟩
  · rintro ⟨c | c | c, k⟩
    · exact .inl c
    · exact absurd c k
    · exact .inr c
/-- what holds of the numbers between two acts -/
structure NvP (n : Nat) (m : Nat → UInt8) (q : Nat → Nat × Nat) (l : List Nat) (Dt Dg : DataW Unit) : Prop where
  hd : Hd m n q
  gp : ∀ i, 0 < (q i).1 → 1 ≤ (q i).2
  tm : IsMap Dt
  gm : IsMap Dg
  tr : ∀ h : Nat, ∀ zd, (Tq n q h → Dt.atKey (.int .u64 (h : Int)) zd = .lit (.int .i64 1)) ∧ (¬ Tq n q h → Dt.atKey (.int .u64 (h : Int)) zd = zd)
  gr : ∀ h : Nat, ∀ zd, (Tq n q h ∧ ¬ isH n q h → Dg.atKey (.int .u64 (h : Int)) zd = .lit (.int .i64 1)) ∧ (¬ (Tq n q h ∧ ¬ isH n q h) → Dg.atKey (.int .u64 (h : Int)) zd = zd)
  nd : l.Nodup
  me : ∀ h, h ∈ l ↔ isH n q h
theorem u64_ne {y hh : Nat} (e : y ≠ hh) : (Lit.int .u64 (y : Int)) ≠ (Lit.int .u64 (hh : Int)) := fun c => e (by
  have h9 : (y : Int) = (hh : Int) := by simpa using c
  omega)
theorem NvP.start (n : Nat) : NvP n (fun _ => 0) q00 [] (.map []) (.map []) :=
  ⟨hd_new n, fun i h => absurd h (by simp [q00]), ⟨_, rfl⟩, ⟨_, rfl⟩, fun h zd => ⟨fun c => by have := c.2.1; have := c.2.2; simp only [q00] at this; omega, fun _ => rfl⟩, fun h zd => ⟨fun c => by have := c.1.2.1; have := c.1.2.2; simp only [q00] at this; omega, fun _ => rfl⟩,
    List.nodup_nil, fun h => ⟨fun c => absurd c List.not_mem_nil, fun c => by have := c.2.1; simp only [q00] at this; omega⟩⟩
theorem NvP.new {n i a : Nat} {m m' : Nat → UInt8} {q : Nat → Nat × Nat} {l : List Nat} {Dt Dg : DataW Unit} (h : NvP n m q l Dt Dg) (hn : n ≤ 256) (hi : i < n) (hf : free q i) (ha : 1 ≤ a) (hd : Hd m' n (upd q i (a, (q i).2 + 1))) :
    NvP n m' (upd q i (a, (q i).2 + 1)) (l ++ [hOf q i]) (Dt.put (.int .u64 (hOf q i : Int)) (.lit (.int .i64 1))) Dg := by
  obtain ⟨k1, k2, k3, k4, k5⟩ := new_told hn hi hf ha
  refine ⟨hd, fun j hj => ?_, ?_, h.gm, fun x zd => ?_, fun x zd => ?_, ?_, fun x => ?_⟩
  · by_cases e : j = i
    · subst e; rw [upd_same]; simp
    · rw [upd_other e] at hj ⊢; exact h.gp j hj
  · obtain ⟨es, rfl⟩ := h.tm; exact ⟨_, rfl⟩
  · rw [k3 x]
    by_cases e : x = hOf q i
    · subst e
      rw [atKey_put_same h.tm (by trivial)]
      exact ⟨fun _ => rfl, fun c => absurd (.inr rfl) c⟩
    · rw [atKey_put_other (u64_ne e)]
      have := h.tr x zd
      exact ⟨fun c => this.1 (c.resolve_right e), fun c => this.2 fun d => c (.inl d)⟩
  · have := h.gr x zd
    rw [k3 x, k4 x]
    by_cases e : x = hOf q i
    · subst e
      exact ⟨fun c => absurd (.inr rfl) c.2, fun _ => this.2 fun d => k1 d.1⟩
    · exact ⟨fun c => this.1 ⟨c.1.resolve_right e, fun d => c.2 (.inl d)⟩, fun c => this.2 fun d => c ⟨.inl d.1, fun k => d.2 (k.resolve_right e)⟩⟩
  · refine List.nodup_append.2 ⟨h.nd, by simp, fun y hy b hb => ?_⟩
    rw [List.mem_singleton] at hb
    subst hb
    exact fun e => k5 ((h.me _).1 (e ▸ hy))
  · rw [List.mem_append, List.mem_singleton, h.me, k4]
theorem NvP.drop {n d hh : Nat} {m m' : Nat → UInt8} {q : Nat → Nat × Nat} {l : List Nat} {Dt Dg : DataW Unit} (h : NvP n m q l Dt Dg) (hl : d < l.length) (hx : l.getD d 0 = hh) (hd : Hd m' n (upd q (hh % 256) (0, (q (hh % 256)).2))) :
    NvP n m' (upd q (hh % 256) (0, (q (hh % 256)).2)) (l.take d ++ l.drop (d + 1)) Dt (Dg.put (.int .u64 (hh : Int)) (.lit (.int .i64 1))) ∧ Dg.atKey (.int .u64 (hh : Int)) (.lit (.int .i64 0)) = .lit (.int .i64 0) := by
  have hm : hh ∈ l := by rw [← hx, List.getD_eq_getElem?_getD, List.getElem?_eq_getElem hl]; exact List.getElem_mem hl
  have hi := (h.me hh).1 hm
  have htq : Tq n q hh := ⟨hi.1, by have := h.gp _ hi.2.1; rw [← hi.2.2]; exact this, Nat.le_of_eq hi.2.2.symm⟩
  obtain ⟨k1, k2⟩ := drop_told hi
  obtain ⟨e1, e2⟩ := erase_mem h.nd hl hx
  refine ⟨⟨hd, fun j hj => ?_, h.tm, ?_, fun x zd => ?_, fun x zd => ?_, e1, fun x => ?_⟩, (h.gr hh _).2 fun c => c.2 hi⟩
  · by_cases e : j = hh % 256
    · subst e; rw [upd_same] at hj; simp at hj
    · rw [upd_other e] at hj ⊢; exact h.gp j hj
  · obtain ⟨es, rfl⟩ := h.gm; exact ⟨_, rfl⟩
  · rw [k1 x]; exact h.tr x zd
  · rw [k1 x, k2 x]
    by_cases e : x = hh
    · subst e
      rw [atKey_put_same h.gm (by trivial)]
      exact ⟨fun _ => rfl, fun c => absurd ⟨htq, fun k => k.2 rfl⟩ c⟩
    · rw [atKey_put_other (u64_ne e)]
      have := h.gr x zd
      exact ⟨fun c => this.1 ⟨c.1, fun k => c.2 ⟨k, e⟩⟩, fun c => this.2 fun k => c ⟨k.1, fun j => k.2 j.1⟩⟩
  · rw [e2, h.me, k2]
end Go.Proofs.Ytllghngjnhbmaaa.Bt
/- HandleNever: what lies there between two acts. -/
namespace Go.Proofs.Ytllghngjnhbmaaa.Bt
open Go Go.RowKit Go.Shelf Go.Maps
set_option linter.unusedVariables false
set_option linter.unusedSimpArgs false
theorem lawM : Keyed Try.prog 34 := lawH
theorem ownsMap_block {x z : World} {b k : Nat} {D : DataW Unit} (h : x.ownsMap Try.prog 34 (plainElem Try.prog 3) b k D) (e : z.heap[b]? = x.heap[b]?) : z.ownsMap Try.prog 34 (plainElem Try.prog 3) b k D := by
  obtain ⟨es, cl, hb, hF, hs, hD⟩ := h
  exact ⟨es, cl, e.trans hb, hF, hs, hD⟩
structure NvS (C A b0 bt bg kt kg : Nat) (m : Nat → UInt8) (v : Value) (l : List Nat) (Dt Dg : DataW Unit) (w x : World) : Prop where
  tv : TvS C A 100 m w x
  lv : LvR A b0 v l x
  tm : x.ownsMap Try.prog 34 (plainElem Try.prog 3) bt kt Dt
  gm : x.ownsMap Try.prog 34 (plainElem Try.prog 3) bg kg Dg
  mt : Mine A bt x
  mg : Mine A bg x
  o1 : w.heap.size ≤ C ∧ C < b0 ∧ b0 ≤ bt ∧ b0 ≤ bg ∧ bt ≠ bg ∧ b0 ≤ x.heap.size
section
variable {C A b0 bt bg kt kg : Nat} {m m' : Nat → UInt8} {v : Value} {l : List Nat} {Dt Dg : DataW Unit} {w x z : World}
theorem NvS.ne (h : NvS C A b0 bt bg kt kg m v l Dt Dg w x) : v.ownBlock ≠ some bt ∧ v.ownBlock ≠ some bg := by
  rcases h.lv.ow.2 with ⟨rfl, _⟩ | ⟨g, cap, cur, rfl, _, hg, _⟩
  · simp [Value.ownBlock]
  · obtain ⟨es, cl, hb, _⟩ := h.tm
    obtain ⟨es2, cl2, hb2, _⟩ := h.gm
    simp only [Value.ownBlock, ne_eq, Option.some.injEq]
    constructor
    · rintro rfl; rw [hb] at hg; cases hg
    · rintro rfl; rw [hb2] at hg; cases hg
theorem NvS.below (h : NvS C A b0 bt bg kt kg m v l Dt Dg w x) (hb : Below x.heap.size x z) : NvS C A b0 bt bg kt kg m v l Dt Dg w z :=
  ⟨h.tv.below hb, h.lv.below h.tv.on hb, ownsMap_block h.tm (hb.block _ h.mt.lt), ownsMap_block h.gm (hb.block _ h.mg.lt), h.mt.went (Went.of_below h.tv.on hb), h.mg.went (Went.of_below h.tv.on hb),
    ⟨h.o1.1, h.o1.2.1, h.o1.2.2.1, h.o1.2.2.2.1, h.o1.2.2.2.2.1, Nat.le_trans h.o1.2.2.2.2.2 hb.size⟩⟩
theorem NvS.went (h : NvS C A b0 bt bg kt kg m v l Dt Dg w x) (ho : On A (hS m') z) (hg : Went A x z) : NvS C A b0 bt bg kt kg m' v l Dt Dg w z :=
  ⟨h.tv.went ho hg, h.lv.went hg, ownsMap_block h.tm (h.mt.same hg), ownsMap_block h.gm (h.mg.same hg), h.mt.went hg, h.mg.went hg,
    ⟨h.o1.1, h.o1.2.1, h.o1.2.2.1, h.o1.2.2.2.1, h.o1.2.2.2.2.1, Nat.le_trans h.o1.2.2.2.2.2 hg.size⟩⟩
theorem NvS.size (h : NvS C A b0 bt bg kt kg m v l Dt Dg w x) (hg : x.heap.size ≤ z.heap.size) : w.heap.size ≤ C ∧ C < b0 ∧ b0 ≤ bt ∧ b0 ≤ bg ∧ bt ≠ bg ∧ b0 ≤ z.heap.size :=
  ⟨h.o1.1, h.o1.2.1, h.o1.2.2.1, h.o1.2.2.2.1, h.o1.2.2.2.2.1, Nat.le_trans h.o1.2.2.2.2.2 hg⟩
/-- a block beside all of it is turned -/
theorem NvS.side (h : NvS C A b0 bt bg kt kg m v l Dt Dg w x) {r : Nat} (hm : Mine A r x) (hr : b0 ≤ r) (h1 : r ≠ bt) (h2 : r ≠ bg) (h3 : v.ownBlock ≠ some r) (hg : x.grownBy z (some r)) : NvS C A b0 bt bg kt kg m v l Dt Dg w z :=
  ⟨h.tv.mine hm hg (by have := h.o1; omega) (by have := h.o1; omega), h.lv.other h.tv.on hm hg h3, ownsMap_block h.tm (hg.block _ h.mt.lt (by simpa using h1.symm)), ownsMap_block h.gm (hg.block _ h.mg.lt (by simpa using h2.symm)),
    Mine.mine h.tv.on hm h.mt hg, Mine.mine h.tv.on hm h.mg hg, h.size hg.size⟩
/-- the row is another -/
theorem NvS.row (h : NvS C A b0 bt bg kt kg m v l Dt Dg w x) {v' : Value} {l' : List Nat} (hl : LvR A b0 v' l' z) (hg : x.grownBy z v.ownBlock) : NvS C A b0 bt bg kt kg m v' l' Dt Dg w z := by
  cases hv : v.ownBlock with
  | none =>
    rw [hv] at hg
    have k := h.below (below_of_grown hg)
    exact ⟨k.tv, hl, k.tm, k.gm, k.mt, k.mg, k.o1⟩
  | some r =>
    rw [hv] at hg
    have hne := h.ne
    rw [hv] at hne
    have hm := h.lv.mi r hv
    have hr := (h.lv.ow.lt r hv).1
    simp only [ne_eq, Option.some.injEq] at hne
    exact ⟨h.tv.mine hm hg (by have := h.o1; omega) (by have := h.o1; omega), hl, ownsMap_block h.tm (hg.block _ h.mt.lt (by simpa using fun e => hne.1 e.symm)), ownsMap_block h.gm (hg.block _ h.mg.lt (by simpa using fun e => hne.2 e.symm)),
      Mine.mine h.tv.on hm h.mt hg, Mine.mine h.tv.on hm h.mg hg, h.size hg.size⟩
/-- a number is laid at a key of told -/
theorem NvS.putT (h : NvS C A b0 bt bg kt kg m v l Dt Dg w x) (hk : kt < 1000) (t : TypeId) (ht : Try.prog.underlying t = some (.map 34 3)) (hh a : Nat) (hb : hh < 18446744073709551616) (ha : a < 9223372036854775808) :
    ∃ z, (Instr.mapUpdate t (.map (some bt)) (.int .u64 (hh : Int)) (.int .i64 (a : Int))).run Try.prog x = .ok () z ∧ NvS C A b0 bt bg (kt + 1) kg m v l (Dt.put (.int .u64 (hh : Int)) (.lit (.int .i64 (a : Int)))) Dg w z := by
  obtain ⟨z, h1, h2, hg⟩ := h.tm.update lawH ht (by unfold maxLen; omega) (keyOf_int_mk Try.underlying34 (u64_wf hb)) (plainElem_int Try.underlying3 (i64_wf ha))
  exact ⟨z, h1, h.tv.mine h.mt hg (by have := h.o1; omega) (by have := h.o1; omega), h.lv.other h.tv.on h.mt hg h.ne.1, h2, ownsMap_block h.gm (hg.block _ h.mg.lt (by simpa using h.o1.2.2.2.2.1.symm)),
    Mine.mine h.tv.on h.mt h.mt hg, Mine.mine h.tv.on h.mt h.mg hg, h.size hg.size⟩
theorem NvS.putG (h : NvS C A b0 bt bg kt kg m v l Dt Dg w x) (hk : kg < 1000) (t : TypeId) (ht : Try.prog.underlying t = some (.map 34 3)) (hh a : Nat) (hb : hh < 18446744073709551616) (ha : a < 9223372036854775808) :
    ∃ z, (Instr.mapUpdate t (.map (some bg)) (.int .u64 (hh : Int)) (.int .i64 (a : Int))).run Try.prog x = .ok () z ∧ NvS C A b0 bt bg kt (kg + 1) m v l Dt (Dg.put (.int .u64 (hh : Int)) (.lit (.int .i64 (a : Int)))) w z := by
  obtain ⟨z, h1, h2, hg⟩ := h.gm.update lawH ht (by unfold maxLen; omega) (keyOf_int_mk Try.underlying34 (u64_wf hb)) (plainElem_int Try.underlying3 (i64_wf ha))
  exact ⟨z, h1, h.tv.mine h.mg hg (by have := h.o1; omega) (by have := h.o1; omega), h.lv.other h.tv.on h.mg hg h.ne.2, ownsMap_block h.tm (hg.block _ h.mt.lt (by simpa using h.o1.2.2.2.2.1)), h2,
    Mine.mine h.tv.on h.mg h.mt hg, Mine.mine h.tv.on h.mg h.mg hg, h.size hg.size⟩
end
theorem map_look {x : World} {b k : Nat} {D : DataW Unit} (h : x.ownsMap Try.prog 34 (plainElem Try.prog 3) b k D) (t : TypeId) (ht : Try.prog.underlying t = some (.map 34 3)) (hh : Nat) (hb : hh < 18446744073709551616) (a : Int)
    (ha : D.atKey (.int .u64 (hh : Int)) (.lit (.int .i64 0)) = .lit (.int .i64 a)) : (Instr.lookup t (.map (some b)) (.int .u64 (hh : Int)) false).run Try.prog x = .ok (.int .i64 a) x := by
  obtain ⟨c, h1, h2, h3⟩ := h.lookup_int lawH ht Try.underlying3 (zeroI x) (keyOf_int_mk Try.underlying34 (u64_wf hb))
  rw [ha] at h2
  have e : c = a := by
    simp only [DataW.lit.injEq, Lit.int.injEq, true_and] at h2
    exact h2.symm
  rw [e] at h1
  exact h1
theorem NvS.start {C A : Nat} {m : Nat → UInt8} {w y : World} (h : TvS C A 100 m w y) (hC : C < y.heap.size) (hw : w.heap.size ≤ C) : NvS C A y.heap.size y.heap.size (y.heap.size + 1) 0 0 m (.slice none 0 0) [] (.map []) (.map []) w ((y.alloc (.map #[] 0)).alloc (.map #[] 0)) := by
  have hb : Below y.heap.size y ((y.alloc (.map #[] 0)).alloc (.map #[] 0)) := (bel1 y _).alloc (by simp) _
  have e : (y.alloc (.map #[] 0)).heap.size = y.heap.size + 1 := by simp
  refine ⟨h.below hb, LvR.nil _ _ _, ?_, ?_, Mine.late h.on hb (Nat.le_refl _) (by simp; omega), Mine.late h.on hb (by omega) (by simp), ⟨hw, hC, Nat.le_refl _, by omega, by omega, by simp; omega⟩⟩
  · exact ownsMap_block (World.ownsMap_made y _ _ _) ((bel1 (y.alloc (.map #[] 0)) (.map #[] 0)).block _ (by simp))
  · have := World.ownsMap_made (H := Unit) (P := Try.prog) (k := 34) (R := plainElem Try.prog 3) (y.alloc (.map #[] 0))
    rw [e] at this
    exact this
theorem NvS.swap {C A b0 bt bg kt kg : Nat} {m : Nat → UInt8} {v v' : Value} {l l' : List Nat} {Dt Dg : DataW Unit} {w x : World} (h : NvS C A b0 bt bg kt kg m v l Dt Dg w x) (hl : LvR A b0 v' l' x) : NvS C A b0 bt bg kt kg m v' l' Dt Dg w x :=
  ⟨h.tv, hl, h.tm, h.gm, h.mt, h.mg, h.o1⟩
theorem LvR.mono {A b0 b1 : Nat} {v : Value} {l : List Nat} {x : World} (h : LvR A b1 v l x) (hb : b0 ≤ b1) : LvR A b0 v l x := by
  refine ⟨⟨h.ow.1, ?_⟩, h.mi⟩
  rcases h.ow.2 with c | ⟨g, cap, cur, h1, h2, h3⟩
  · exact .inl c
  · exact .inr ⟨g, cap, cur, h1, Nat.le_trans hb h2, h3⟩
theorem LvR.lit0 {A : Nat} {s : ASt} {x : World} (h : On A s x) : LvR A x.heap.size (.slice (some ⟨x.heap.size, 0, none⟩) 0 0) [] (x.alloc (.cells #[] 34)) :=
  ⟨World.ownsRow_lit x #[] 0 (Nat.le_refl _) (by unfold maxLen; omega) rfl, fun g e => by
    simp only [Value.ownBlock, Option.some.injEq] at e
    subst e
    exact Mine.new h _⟩
/-- a row made of another's parts -/
theorem NvS.parts {C A b0 bt bg kt kg : Nat} {m : Nat → UInt8} {v : Value} {l : List Nat} {Dt Dg : DataW Unit} {w x z : World} {b1 : Nat} {v1 : Value} (h : NvS C A b0 bt bg kt kg m v l Dt Dg w x) (hv : ∀ g, v.ownBlock = some g → g < b1) (ht : bt < b1) (hg2 : bg < b1) (hb : b0 ≤ b1)
    (hw : ∀ r, v1.ownBlock = some r → b1 ≤ r ∧ Mine A r x) (hg : x.grownBy z v1.ownBlock) : NvS C A b0 bt bg kt kg m v l Dt Dg w z := by
  cases e : v1.ownBlock with
  | none => rw [e] at hg; exact h.below (below_of_grown hg)
  | some r =>
    rw [e] at hg
    obtain ⟨k1, k2⟩ := hw r e
    exact h.side k2 (by omega) (by omega) (by omega) (fun c => by have := hv r c; omega) hg
theorem NvS.cells {C A b0 bt bg kt kg gp nl cp : Nat} {m : Nat → UInt8} {l : List Nat} {Dt Dg : DataW Unit} {w x : World} (h : NvS C A b0 bt bg kt kg m (.slice (some ⟨gp, 0, none⟩) nl cp) l Dt Dg w x) (j : Nat) (hj : j < l.length) : x.cell? ⟨gp, j, none⟩ = some (.int .u64 ((l.getD j 0 : Nat) : Int)) := by
  obtain ⟨p, c, e, c0 | ⟨g, rfl, _, hc⟩⟩ := h.lv.hd
  · rw [c0] at hj; simp at hj
  · simp only [Value.slice.injEq, Option.some.injEq, Addr.mk.injEq, true_and, and_true] at e
    obtain ⟨rfl, _⟩ := e
    exact hc j hj
theorem part_cells {l : List Nat} {gp a : Nat} {x : World} (hc : ∀ j, j < l.length → x.cell? ⟨gp, j, none⟩ = some (.int .u64 ((l.getD j 0 : Nat) : Int))) (k : Nat) : ∀ j u, (hV ((l.drop a).take k))[j]? = some u → x.cell? ((⟨gp, a, none⟩ : Addr).add j) = some u := fun j u hu => by
  unfold hV at hu
  rw [List.getElem?_map] at hu
  obtain ⟨y, hy, rfl⟩ := Option.map_eq_some_iff.1 hu
  rw [List.getElem?_take] at hy
  split at hy
  · rw [List.getElem?_drop] at hy
    have hlt := (List.getElem?_eq_some_iff.1 hy).1
    have := hc (a + j) hlt
    rw [List.getD_eq_getElem?_getD, hy] at this
    rw [show (⟨gp, a, none⟩ : Addr).add j = ⟨gp, a + j, none⟩ by unfold Addr.add; by_cases e : j = 0 <;> simp [e]]
    exact this
  · cases hy
theorem wp_append_run {w z : World} {o : Oper} {a : Act} {K : Act → World → Prop} {Q : Exit → Act → World → Prop} (s x : Operand) (t : TypeId)
    (ho : o.op = .call { callee := .builtin .append, args := #[s, x], argTypes := #[t, t] }) (v vx v' : Value) (hs : a.eval s = v) (hx : a.eval x = vx)
    (hr : (Builtin.append_ #[t, t] o.type #[v, vx]).run Try.prog w = .ok v' z) (h : K (a.put o.dst v') z) : o.wp Try.prog a w K Q := by
  unfold Oper.wp execOp
  simp only [ho, resolve, invoke, builtin, Sem.run_bind, Sem.run_pure, Result.andThen_ok, List.map_toArray, List.map_cons, List.map_nil, hs, hx, hr]
  exact h
theorem wpList_append_run {w z : World} {ops : Array Oper} {rest : List Oper} {o : Oper} {a : Act} {Q : Exit → Act → World → Prop} (hgd : o.guard = none) (s x : Operand) (t : TypeId)
    (ho : o.op = .call { callee := .builtin .append, args := #[s, x], argTypes := #[t, t] }) (v vx v' : Value) (hs : a.eval s = v) (hx : a.eval x = vx)
    (hr : (Builtin.append_ #[t, t] o.type #[v, vx]).run Try.prog w = .ok v' z) (h : wpList Try.prog ops Q rest (a.put o.dst v') z) : wpList Try.prog ops Q (o :: rest) a w := by
  refine wpList_plain hgd fun K' hK' => ?_
  unfold Oper.wp execOp
  simp only [ho, resolve, invoke, builtin, Sem.run_bind, Sem.run_pure, Result.andThen_ok, List.map_toArray, List.map_cons, List.map_nil, hs, hx, hr]
  exact hK' _ _ h
end Go.Proofs.Ytllghngjnhbmaaa.Bt
