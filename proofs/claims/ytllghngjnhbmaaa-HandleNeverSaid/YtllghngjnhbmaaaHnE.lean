/- No table at all; the statements' table. (Written by gen_hne.py.) -/
import Derived.Test.YtllghngjnhbmaaaHnD
namespace Go.Proofs.Ytllghngjnhbmaaa.Bt
open Go Go.RowKit Go.Shelf
set_option linter.unusedVariables false
set_option linter.unusedSimpArgs false
theorem hmay_nil (a : Int) (w : World) : Calls Try.prog 32 #[zvV, .int .i64 a] w (Gives (.int .i64 1) w) := by
  have HB := Lib.hid (bel1 w (.cells #[.pointer none, .int .i64 0, .int .i64 0] 29))
  have HC0 := Lib.hid (show w.heap.size < (w.alloc (.cells #[.pointer none, .int .i64 0, .int .i64 0] 29)).heap.size ∧ (w.alloc (.cells #[.pointer none, .int .i64 0, .int .i64 0] 29)).heap[w.heap.size]? = some (.cells #[.pointer none, .int .i64 0, .int .i64 0] 29 (0, 0)) from ⟨by simp, heap_new _ _⟩)
  go_enter Try.func32, Try.ntmps32
  go_upto_region 1 with fail
  change Code.wp _ _ _ _ (w.alloc (.cells #[.pointer none, .int .i64 0, .int .i64 0] 29))
  obtain ⟨y, hy⟩ : ∃ y, w.alloc (.cells #[.pointer none, .int .i64 0, .int .i64 0] 29) = y := ⟨_, rfl⟩
  obtain ⟨C, hC⟩ : ∃ C, w.heap.size = C := ⟨_, rfl⟩
  have hc0 := HC0.out.2
  rw [hy] at HB
  rw [hy, hC] at hc0
  rw [hy, hC]
  have c0 := (cell_blk hc0 0).1; have c1 := (cell_blk hc0 1).1; have c2 := (cell_blk hc0 2).1
  clear hy hC hc0 HC0
  go_wp2_with fail
  go_ret
  exact ⟨rfl, HB.out⟩

theorem hnext_nil (w : World) : Calls Try.prog 35 #[zvV] w (Gives (.tuple #[.int .u64 0, zvV, .int .i64 1]) w) := by
  have HB := Lib.hid (below2 w (.cells #[.pointer none, .int .i64 0, .int .i64 0] 29) (.cells #[.pointer none, .int .i64 0, .int .i64 0] 27))
  have HC0 := Lib.hid (pairs_new w #[.pointer none, .int .i64 0, .int .i64 0] #[.pointer none, .int .i64 0, .int .i64 0] 29 27)
  go_enter Try.func35, Try.ntmps35
  go_upto_region 1 with fail
  change Code.wp _ _ _ _ ((w.alloc (.cells #[.pointer none, .int .i64 0, .int .i64 0] 29)).alloc (.cells #[.pointer none, .int .i64 0, .int .i64 0] 27))
  obtain ⟨y, hy⟩ : ∃ y, (w.alloc (.cells #[.pointer none, .int .i64 0, .int .i64 0] 29)).alloc (.cells #[.pointer none, .int .i64 0, .int .i64 0] 27) = y := ⟨_, rfl⟩
  obtain ⟨C, hC⟩ : ∃ C, w.heap.size = C := ⟨_, rfl⟩
  obtain ⟨O, hO⟩ : ∃ O, w.heap.size + 1 = O := ⟨_, rfl⟩
  have HOW := Lib.hid (show w.heap.size ≤ O by omega)
  have hc0 := HC0.out
  rw [hy] at HB
  rw [hy, hO, hC] at hc0
  rw [hy, hO, hC]
  have c0 := (cell_blk hc0.1 0).1; have c1 := (cell_blk hc0.1 1).1; have c2 := (cell_blk hc0.1 2).1
  have u0 := (cell_blk hc0.2 0).1; have u1 := (cell_blk hc0.2 1).1; have u2 := (cell_blk hc0.2 2).1
  have f0 := (cell_blk hc0.2 0).2; have f1 := (cell_blk hc0.2 1).2; have f2 := (cell_blk hc0.2 2).2
  have HO2 := Lib.hid hc0.2
  clear hy hC hO hc0 HC0
  go_wp2_with fail
  change bodyPost _ _ _ _ _ (st3 y O (.pointer none) (.int .i64 0) (.int .i64 0))
  have hz := st3_at HO2.out (.pointer none) (.int .i64 0) (.int .i64 0)
  have HZB := Lib.hid (st3_below HB.out HOW.out (.pointer none) (.int .i64 0) (.int .i64 0))
  obtain ⟨z, hzz⟩ : ∃ z, st3 y O (.pointer none) (.int .i64 0) (.int .i64 0) = z := ⟨_, rfl⟩
  rw [hzz] at hz HZB ⊢
  have g0 := (cell_blk hz 0).1; have g1 := (cell_blk hz 1).1; have g2 := (cell_blk hz 2).1
  exact bodyPost_ret (v := .tuple #[.int .u64 0, zvV, .int .i64 1]) (by simp [results, Try.results35, go_sem, g0, g1, g2]) rfl ⟨rfl, HZB.out⟩

theorem hfind_nil (h : Int) (w : World) : Calls Try.prog 33 #[zvV, .int .u64 h] w (Gives (.tuple #[zvV, .int .i64 1]) w) := by
  have HB := Lib.hid (below2 w (.cells #[.pointer none, .int .i64 0, .int .i64 0] 29) (.cells #[.pointer none, .int .i64 0, .int .i64 0] 27))
  have HC0 := Lib.hid (pairs_new w #[.pointer none, .int .i64 0, .int .i64 0] #[.pointer none, .int .i64 0, .int .i64 0] 29 27)
  go_enter Try.func33, Try.ntmps33
  go_upto_region 1 with fail
  change Code.wp _ _ _ _ ((w.alloc (.cells #[.pointer none, .int .i64 0, .int .i64 0] 29)).alloc (.cells #[.pointer none, .int .i64 0, .int .i64 0] 27))
  obtain ⟨y, hy⟩ : ∃ y, (w.alloc (.cells #[.pointer none, .int .i64 0, .int .i64 0] 29)).alloc (.cells #[.pointer none, .int .i64 0, .int .i64 0] 27) = y := ⟨_, rfl⟩
  obtain ⟨C, hC⟩ : ∃ C, w.heap.size = C := ⟨_, rfl⟩
  obtain ⟨O, hO⟩ : ∃ O, w.heap.size + 1 = O := ⟨_, rfl⟩
  have HOW := Lib.hid (show w.heap.size ≤ O by omega)
  have hc0 := HC0.out
  rw [hy] at HB
  rw [hy, hO, hC] at hc0
  rw [hy, hO, hC]
  have c0 := (cell_blk hc0.1 0).1; have c1 := (cell_blk hc0.1 1).1; have c2 := (cell_blk hc0.1 2).1
  have u0 := (cell_blk hc0.2 0).1; have u1 := (cell_blk hc0.2 1).1; have u2 := (cell_blk hc0.2 2).1
  have f0 := (cell_blk hc0.2 0).2; have f1 := (cell_blk hc0.2 1).2; have f2 := (cell_blk hc0.2 2).2
  have HO2 := Lib.hid hc0.2
  clear hy hC hO hc0 HC0
  go_wp2_with fail
  change bodyPost _ _ _ _ _ (st3 y O (.pointer none) (.int .i64 0) (.int .i64 0))
  have hz := st3_at HO2.out (.pointer none) (.int .i64 0) (.int .i64 0)
  have HZB := Lib.hid (st3_below HB.out HOW.out (.pointer none) (.int .i64 0) (.int .i64 0))
  obtain ⟨z, hzz⟩ : ∃ z, st3 y O (.pointer none) (.int .i64 0) (.int .i64 0) = z := ⟨_, rfl⟩
  rw [hzz] at hz HZB ⊢
  have g0 := (cell_blk hz 0).1; have g1 := (cell_blk hz 1).1; have g2 := (cell_blk hz 2).1
  exact bodyPost_ret (v := .tuple #[zvV, .int .i64 1]) (by simp [results, Try.results33, go_sem, g0, g1, g2]) rfl ⟨rfl, HZB.out⟩

theorem hNext_nil (w : World) : Calls Try.prog 16 #[zvV] w (Gives (.tuple #[.int .u64 0, .int .i64 1]) w) := by
  have HB := Lib.hid (bel1 w (.cells #[.pointer none, .int .i64 0, .int .i64 0] 29))
  have HC0 := Lib.hid (show w.heap.size < (w.alloc (.cells #[.pointer none, .int .i64 0, .int .i64 0] 29)).heap.size ∧ (w.alloc (.cells #[.pointer none, .int .i64 0, .int .i64 0] 29)).heap[w.heap.size]? = some (.cells #[.pointer none, .int .i64 0, .int .i64 0] 29 (0, 0)) from ⟨by simp, heap_new _ _⟩)
  go_enter Try.func16, Try.ntmps16
  go_upto_region 1 with fail
  change Code.wp _ _ _ _ (w.alloc (.cells #[.pointer none, .int .i64 0, .int .i64 0] 29))
  obtain ⟨y, hy⟩ : ∃ y, w.alloc (.cells #[.pointer none, .int .i64 0, .int .i64 0] 29) = y := ⟨_, rfl⟩
  obtain ⟨C, hC⟩ : ∃ C, w.heap.size = C := ⟨_, rfl⟩
  have hc0 := HC0.out.2
  rw [hy] at HB
  rw [hy, hC] at hc0
  rw [hy, hC]
  have c0 := (cell_blk hc0 0).1; have c1 := (cell_blk hc0 1).1; have c2 := (cell_blk hc0 2).1
  clear hy hC hc0 HC0
  go_wp2_with fail
  refine (hnext_nil _).mono ?_
  rintro e w1 ⟨rfl, hb⟩
  have hb1 := HB.out.trans (hb.mono HB.out.size)
  have HF := Lib.hid (hb1.alloc hb1.size (.cells #[.pointer none, .int .i64 0, .int .i64 0] 27))
  clear hb hb1 c0 c1 c2
  go_wp2_with fail
  go_ret2
  exact ⟨rfl, HF.out⟩

theorem hNew_nil (a : Int) (w : World) : Calls Try.prog 18 #[zvV, .int .i64 a] w (Gives (.tuple #[.int .u64 0, .int .i64 1]) w) := by
  have HB := Lib.hid (bel1 w (.cells #[.pointer none, .int .i64 0, .int .i64 0] 29))
  have HC0 := Lib.hid (show w.heap.size < (w.alloc (.cells #[.pointer none, .int .i64 0, .int .i64 0] 29)).heap.size ∧ (w.alloc (.cells #[.pointer none, .int .i64 0, .int .i64 0] 29)).heap[w.heap.size]? = some (.cells #[.pointer none, .int .i64 0, .int .i64 0] 29 (0, 0)) from ⟨by simp, heap_new _ _⟩)
  go_enter Try.func18, Try.ntmps18
  go_upto_region 1 with fail
  change Code.wp _ _ _ _ (w.alloc (.cells #[.pointer none, .int .i64 0, .int .i64 0] 29))
  obtain ⟨y, hy⟩ : ∃ y, w.alloc (.cells #[.pointer none, .int .i64 0, .int .i64 0] 29) = y := ⟨_, rfl⟩
  obtain ⟨C, hC⟩ : ∃ C, w.heap.size = C := ⟨_, rfl⟩
  have hc0 := HC0.out.2
  rw [hy] at HB
  rw [hy, hC] at hc0
  rw [hy, hC]
  have c0 := (cell_blk hc0 0).1; have c1 := (cell_blk hc0 1).1; have c2 := (cell_blk hc0 2).1
  clear hy hC hc0 HC0
  go_wp2_with fail
  refine (hmay_nil a _).mono ?_
  rintro e w1 ⟨rfl, hb⟩
  have hb1 := HB.out.trans (hb.mono HB.out.size)
  have HF := Lib.hid hb1
  clear hb hb1 c0 c1 c2
  go_wp2_with fail
  go_ret2
  exact ⟨rfl, HF.out⟩

theorem hGet_nil (h : Int) (w : World) : Calls Try.prog 14 #[zvV, .int .u64 h] w (Gives (.tuple #[.int .i64 0, .int .i64 1]) w) := by
  have HB := Lib.hid (bel1 w (.cells #[.pointer none, .int .i64 0, .int .i64 0] 29))
  have HC0 := Lib.hid (show w.heap.size < (w.alloc (.cells #[.pointer none, .int .i64 0, .int .i64 0] 29)).heap.size ∧ (w.alloc (.cells #[.pointer none, .int .i64 0, .int .i64 0] 29)).heap[w.heap.size]? = some (.cells #[.pointer none, .int .i64 0, .int .i64 0] 29 (0, 0)) from ⟨by simp, heap_new _ _⟩)
  go_enter Try.func14, Try.ntmps14
  go_upto_region 1 with fail
  change Code.wp _ _ _ _ (w.alloc (.cells #[.pointer none, .int .i64 0, .int .i64 0] 29))
  obtain ⟨y, hy⟩ : ∃ y, w.alloc (.cells #[.pointer none, .int .i64 0, .int .i64 0] 29) = y := ⟨_, rfl⟩
  obtain ⟨C, hC⟩ : ∃ C, w.heap.size = C := ⟨_, rfl⟩
  have hc0 := HC0.out.2
  rw [hy] at HB
  rw [hy, hC] at hc0
  rw [hy, hC]
  have c0 := (cell_blk hc0 0).1; have c1 := (cell_blk hc0 1).1; have c2 := (cell_blk hc0 2).1
  clear hy hC hc0 HC0
  go_wp2_with fail
  refine (hfind_nil h _).mono ?_
  rintro e w1 ⟨rfl, hb⟩
  have hb1 := HB.out.trans (hb.mono HB.out.size)
  have HF := Lib.hid (hb1.alloc hb1.size (.cells #[.pointer none, .int .i64 0, .int .i64 0] 27))
  clear hb hb1 c0 c1 c2
  go_wp2_with fail
  go_ret2
  exact ⟨rfl, HF.out⟩

theorem hturn_nil (h a : Int) (w : World) : Calls Try.prog 29 #[zvV, .int .u64 h, .int .i64 a] w (Gives (.int .i64 1) w) := by
  have HB := Lib.hid (bel1 w (.cells #[.pointer none, .int .i64 0, .int .i64 0] 29))
  have HC0 := Lib.hid (show w.heap.size < (w.alloc (.cells #[.pointer none, .int .i64 0, .int .i64 0] 29)).heap.size ∧ (w.alloc (.cells #[.pointer none, .int .i64 0, .int .i64 0] 29)).heap[w.heap.size]? = some (.cells #[.pointer none, .int .i64 0, .int .i64 0] 29 (0, 0)) from ⟨by simp, heap_new _ _⟩)
  go_enter Try.func29, Try.ntmps29
  go_upto_region 1 with fail
  change Code.wp _ _ _ _ (w.alloc (.cells #[.pointer none, .int .i64 0, .int .i64 0] 29))
  obtain ⟨y, hy⟩ : ∃ y, w.alloc (.cells #[.pointer none, .int .i64 0, .int .i64 0] 29) = y := ⟨_, rfl⟩
  obtain ⟨C, hC⟩ : ∃ C, w.heap.size = C := ⟨_, rfl⟩
  have hc0 := HC0.out.2
  rw [hy] at HB
  rw [hy, hC] at hc0
  rw [hy, hC]
  have c0 := (cell_blk hc0 0).1; have c1 := (cell_blk hc0 1).1; have c2 := (cell_blk hc0 2).1
  clear hy hC hc0 HC0
  go_wp2_with fail
  refine (hfind_nil h _).mono ?_
  rintro e w1 ⟨rfl, hb⟩
  have hb1 := HB.out.trans (hb.mono HB.out.size)
  have HF := Lib.hid (hb1.alloc hb1.size (.cells #[.pointer none, .int .i64 0, .int .i64 0] 27))
  clear hb hb1 c0 c1 c2
  go_wp2_with fail
  go_ret
  exact ⟨rfl, HF.out⟩

theorem hDrop_nil (h : Int) (w : World) : Calls Try.prog 10 #[zvV, .int .u64 h] w (Gives (.int .i64 1) w) := by
  have HB := Lib.hid (bel1 w (.cells #[.pointer none, .int .i64 0, .int .i64 0] 29))
  have HC0 := Lib.hid (show w.heap.size < (w.alloc (.cells #[.pointer none, .int .i64 0, .int .i64 0] 29)).heap.size ∧ (w.alloc (.cells #[.pointer none, .int .i64 0, .int .i64 0] 29)).heap[w.heap.size]? = some (.cells #[.pointer none, .int .i64 0, .int .i64 0] 29 (0, 0)) from ⟨by simp, heap_new _ _⟩)
  go_enter Try.func10, Try.ntmps10
  go_upto_region 1 with fail
  change Code.wp _ _ _ _ (w.alloc (.cells #[.pointer none, .int .i64 0, .int .i64 0] 29))
  obtain ⟨y, hy⟩ : ∃ y, w.alloc (.cells #[.pointer none, .int .i64 0, .int .i64 0] 29) = y := ⟨_, rfl⟩
  obtain ⟨C, hC⟩ : ∃ C, w.heap.size = C := ⟨_, rfl⟩
  have hc0 := HC0.out.2
  rw [hy] at HB
  rw [hy, hC] at hc0
  rw [hy, hC]
  have c0 := (cell_blk hc0 0).1; have c1 := (cell_blk hc0 1).1; have c2 := (cell_blk hc0 2).1
  clear hy hC hc0 HC0
  go_wp2_with fail
  refine (hturn_nil h 0 _).mono ?_
  rintro e w1 ⟨rfl, hb⟩
  have hb1 := HB.out.trans (hb.mono HB.out.size)
  have HF := Lib.hid hb1
  clear hb hb1 c0 c1 c2
  go_wp2_with fail
  go_ret
  exact ⟨rfl, HF.out⟩

theorem hMove_nil (h a : Int) (w : World) : Calls Try.prog 12 #[zvV, .int .u64 h, .int .i64 a] w (Gives (.int .i64 1) w) := by
  have HB := Lib.hid (bel1 w (.cells #[.pointer none, .int .i64 0, .int .i64 0] 29))
  have HC0 := Lib.hid (show w.heap.size < (w.alloc (.cells #[.pointer none, .int .i64 0, .int .i64 0] 29)).heap.size ∧ (w.alloc (.cells #[.pointer none, .int .i64 0, .int .i64 0] 29)).heap[w.heap.size]? = some (.cells #[.pointer none, .int .i64 0, .int .i64 0] 29 (0, 0)) from ⟨by simp, heap_new _ _⟩)
  go_enter Try.func12, Try.ntmps12
  go_upto_region 1 with fail
  change Code.wp _ _ _ _ (w.alloc (.cells #[.pointer none, .int .i64 0, .int .i64 0] 29))
  obtain ⟨y, hy⟩ : ∃ y, w.alloc (.cells #[.pointer none, .int .i64 0, .int .i64 0] 29) = y := ⟨_, rfl⟩
  obtain ⟨C, hC⟩ : ∃ C, w.heap.size = C := ⟨_, rfl⟩
  have hc0 := HC0.out.2
  rw [hy] at HB
  rw [hy, hC] at hc0
  rw [hy, hC]
  have c0 := (cell_blk hc0 0).1; have c1 := (cell_blk hc0 1).1; have c2 := (cell_blk hc0 2).1
  clear hy hC hc0 HC0
  go_wp2_with fail
  refine (hmay_nil a _).mono ?_
  rintro e w1 ⟨rfl, hb⟩
  have hb1 := HB.out.trans (hb.mono HB.out.size)
  have HF := Lib.hid hb1
  clear hb hb1 c0 c1 c2
  go_wp2_with fail
  go_ret
  exact ⟨rfl, HF.out⟩

theorem hAll_nil (w : World) : Calls Try.prog 23 #[zvV] w (Gives (.slice none 0 0) w) := by
  have HB := Lib.hid (bel1 w (.cells #[.pointer none, .int .i64 0, .int .i64 0] 29))
  have HC0 := Lib.hid (show w.heap.size < (w.alloc (.cells #[.pointer none, .int .i64 0, .int .i64 0] 29)).heap.size ∧ (w.alloc (.cells #[.pointer none, .int .i64 0, .int .i64 0] 29)).heap[w.heap.size]? = some (.cells #[.pointer none, .int .i64 0, .int .i64 0] 29 (0, 0)) from ⟨by simp, heap_new _ _⟩)
  go_enter Try.func23, Try.ntmps23
  go_upto_region 1 with fail
  change Code.wp _ _ _ _ (w.alloc (.cells #[.pointer none, .int .i64 0, .int .i64 0] 29))
  obtain ⟨y, hy⟩ : ∃ y, w.alloc (.cells #[.pointer none, .int .i64 0, .int .i64 0] 29) = y := ⟨_, rfl⟩
  obtain ⟨C, hC⟩ : ∃ C, w.heap.size = C := ⟨_, rfl⟩
  have hc0 := HC0.out.2
  rw [hy] at HB
  rw [hy, hC] at hc0
  rw [hy, hC]
  have c0 := (cell_blk hc0 0).1; have c1 := (cell_blk hc0 1).1; have c2 := (cell_blk hc0 2).1
  clear hy hC hc0 HC0
  go_wp2_with fail
  refine (hlen none 0 0 (by omega) _).mono ?_
  rintro e w1 ⟨rfl, hb⟩
  have HF := Lib.hid (HB.out.trans (hb.mono HB.out.size))
  rw [show nS 0 = 0 from rfl]
  clear hb c0 c1 c2
  go_wp2_with fail
  go_loopw [3, 11] (fun s3 s11 wr => s3 = .slice none 0 0 ∧ s11 = .int .i64 0 ∧ w1 = wr) (fun _ s11 _ => 0)
  case atStart => exact ⟨rfl, rfl, rfl⟩
  case round =>
    obtain ⟨rfl, rfl, rfl⟩ := hrel
    go_wp2_with fail
    go_ret
    exact ⟨rfl, HF.out⟩

/-- a table of no handles -/
def q00 : Nat → Nat × Nat := fun _ => (0, 0)
theorem hnumV_zero (a : Nat) : ∀ k, numV (fun _ => 0) a k = 0
  | 0 => rfl
  | k + 1 => by unfold numV; rw [hnumV_zero a k]; simp
theorem hd_new (n : Nat) : Hd (fun _ => 0) n q00 := ⟨fun i _ => hnumV_zero _ _, fun i _ => hnumV_zero _ _, fun i => ⟨by show 0 < _; omega, by show 0 < _; omega⟩⟩
def OpnP (vs : Nat) (w : World) (e : Ending) (w' : World) : Prop :=
  ∃ A, e = .returned (.tuple #[.pointer (some ⟨A, 0, none⟩), vwV A 16 vs, .bool true]) ∧ On A (hS fun _ => 0) w' ∧ Base A w w'
set_option maxHeartbeats 4000000 in
theorem open17 (vs : Nat) (hv : vs ≤ 5000) (w : World) : Calls Try.prog 8 #[.int .i64 (vs : Int)] w (OpnP vs w) := by
  have L1 : Hid (lenN 2 = 2) := Lib.hid (by decide)
  have E1 : Hid (commitE (newS 2) 0 2 = 0) := Lib.hid (by decide)
  have S1 : Hid (commitS (newS 2) 0 2 = fullS 2 (fun _ => 0)) := Lib.hid (full_new 2 2 (by decide) (by decide) (by decide))
  have T1 : Hid (thereE (hS fun _ => 0).L (hS fun _ => 0).es 16 vs = 0) := Lib.hid (hS_there (by omega) (by omega) (by omega))
  clear hv
  go_enter Try.func8, Try.ntmps8
  go_wp2_with fail
  refine (on_new 2 _).mono ?_
  rintro e w1 ⟨A, rfl, hA, hx, hb, hm⟩
  rw [L1.out] at hx
  have HX1 := Lib.hid hx
  have HB1 := Lib.hid (show Base A w w1 from hb.rebase (bel1 w (.cells #[.pointer none, .int .i64 0, .int .i64 0] 29)))
  have HM1 := Lib.hid (hm w.heap.size (by simp))
  have HR1 := Lib.hid ((hb.bel.block w.heap.size (by simp)).trans (heap_new w (.cells #[.pointer none, .int .i64 0, .int .i64 0] 29)))
  clear hx hb hA hm
  go_wp2_with fail
  refine (on_commit HX1.out 0 2 (by omega)).mono ?_
  rintro e w2 ⟨rfl, hx, hg⟩
  rw [E1.out]; rw [S1.out] at hx
  have HX2 := Lib.hid hx
  have HB2 := Lib.hid (HB1.out.went hg)
  have HR2 := Lib.hid (HM1.out.at hg HR1.out)
  have HM2 := Lib.hid (HM1.out.went hg)
  clear hx hg
  go_wp2_with fail
  refine (on_of HX2.out 16 vs (by omega)).mono ?_
  rintro e w3 ⟨rfl, hb⟩
  rw [T1.out, ofV_ok]
  have HX3 := Lib.hid (HX2.out.below hb)
  have HB3 := Lib.hid (HB2.out.below HX2.out hb)
  have HR3 := Lib.hid ((hb.block _ (Array.getElem?_eq_some_iff.1 HR2.out).1).trans HR2.out)
  have HM3 := Lib.hid (HM2.out.went (Went.of_below HX2.out hb))
  clear hb
  go_wp2_with fail
  have bV := Lib.hid (bel1 w3 (.cells #[.pointer (some ⟨A, 0, none⟩), .int .i64 16, .int .i64 (vs : Int)] 27))
  refine (hopen (some ⟨A, 0, none⟩) 16 vs _).mono ?_
  rintro e w4 ⟨rfl, hb⟩
  have HX4 := Lib.hid ((HX3.out.below bV.out).below hb)
  have HB4 := Lib.hid ((HB3.out.below HX3.out bV.out).below (HX3.out.below bV.out) hb)
  have hr3 := HR3.out
  have hr4 := (hb.block w.heap.size (Nat.lt_of_lt_of_le (Array.getElem?_eq_some_iff.1 hr3).1 bV.out.size)).trans ((bV.out.block _ (Array.getElem?_eq_some_iff.1 hr3).1).trans hr3)
  have HR4 := Lib.hid hr4
  have HM4 := Lib.hid ((HM3.out.went (Went.of_below HX3.out bV.out)).went (Went.of_below (HX3.out.below bV.out) hb))
  have c0 := (cell_blk hr4 0).1; have c1 := (cell_blk hr4 1).1; have c2 := (cell_blk hr4 2).1
  have f0 := (cell_blk hr4 0).2; have f1 := (cell_blk hr4 1).2; have f2 := (cell_blk hr4 2).2
  clear hr3 hr4 hb
  go_wp2_with fail
  have h3 := st3_at HR4.out (.pointer (some ⟨A, 0, none⟩)) (.int .i64 16) (.int .i64 (vs : Int))
  have g0 := (cell_blk h3 0).1; have g1 := (cell_blk h3 1).1; have g2 := (cell_blk h3 2).1
  have hF := set3 (w0 := w) HX4.out HB4.out HM4.out (Nat.le_refl _) (.pointer (some ⟨A, 0, none⟩)) (.int .i64 16) (.int .i64 (vs : Int))
  have HF := Lib.hid hF
  clear hF
  change bodyPost _ _ _ _ _ (st3 w4 w.heap.size (.pointer (some ⟨A, 0, none⟩)) (.int .i64 16) (.int .i64 (vs : Int)))
  exact bodyPost_ret (v := .tuple #[.pointer (some ⟨A, 0, none⟩), vwV A 16 vs, .bool true]) (by simp [results, Try.results8, go_sem, g0, g1, g2]) rfl ⟨A, rfl, HF.out.1, HF.out.2⟩
/-- a statement's table, in a variable -/
structure TvS (C A vs : Nat) (m : Nat → UInt8) (w x : World) : Prop where
  c : x.heap[C]? = some (.cells #[.pointer (some ⟨A, 0, none⟩), .int .i64 16, .int .i64 (vs : Int)] 29 (0, 0))
  on : On A (hS m) x
  bs : Base A w x
section
variable {C A vs : Nat} {m m' : Nat → UInt8} {w x z : World}
theorem TvS.below (h : TvS C A vs m w x) (hb : Below x.heap.size x z) : TvS C A vs m w z :=
  ⟨(hb.block _ (Array.getElem?_eq_some_iff.1 h.c).1).trans h.c, h.on.below hb, h.bs.below h.on hb⟩
theorem TvS.went (h : TvS C A vs m w x) (ho : On A (hS m') z) (hg : Went A x z) : TvS C A vs m' w z :=
  ⟨hg.keep h.on h.c (by decide) (by decide) (by decide), ho, h.bs.went hg⟩
theorem TvS.start (ho : On A (hS m) x) (hb : Base A w x) : TvS x.heap.size A vs m w (x.alloc (.cells #[.pointer (some ⟨A, 0, none⟩), .int .i64 16, .int .i64 (vs : Int)] 29)) := ⟨heap_new _ _, ho.below (bel1 _ _), hb.below ho (bel1 _ _)⟩
theorem TvS.all (h : TvS C A vs m w x) : x.cell? ⟨C, 0, none⟩ = some (.pointer (some ⟨A, 0, none⟩)) ∧ x.cell? ⟨C, 1, none⟩ = some (.int .i64 16) ∧ x.cell? ⟨C, 2, none⟩ = some (.int .i64 (vs : Int)) :=
  ⟨(cell_blk h.c 0).1, (cell_blk h.c 1).1, (cell_blk h.c 2).1⟩
end
theorem ns64 : nS 64 = 4 := rfl
theorem new_first {A n : Nat} {a : Int} {m : Nat → UInt8} {q : Nat → Nat × Nat} {w w' : World} {e : Ending} (hn : 0 < n) (ha : 1 ≤ a) (hf : free q 0) (h : NewP A n a m q w e w') :
    ∃ m', e = .returned (.tuple #[.int .u64 (hOf q 0 : Int), .int .i64 0]) ∧ On A (hS m') w' ∧ Hd m' n (upd q 0 (a.toNat, (q 0).2 + 1)) ∧ Went A w w' := by
  obtain ⟨m', q', h, er, rfl, ho, hd, hg, ⟨c, _⟩ | ⟨_, c, _⟩ | ⟨_, i, hi, hfi, hk, rfl, rfl, rfl⟩⟩ := h
  · omega
  · exact absurd hf (c 0 hn)
  · have hi0 : i = 0 := by
      rcases Nat.eq_zero_or_pos i with c | c
      · exact c
      · exact absurd hf (hk 0 c)
    subst hi0
    exact ⟨m', rfl, ho, hd, hg⟩
def q01 : Nat → Nat × Nat := upd q00 0 (4096, 1)
def q02 : Nat → Nat × Nat := upd q01 0 (0, 1)
def q03 : Nat → Nat × Nat := upd q02 0 (8192, 2)
set_option maxHeartbeats 4000000 in
set_option maxRecDepth 100000 in
theorem awake17 (w : World) : Calls Try.prog 7 #[] w (Gives (.bool true) w) := by
  go_enter Try.func7, Try.ntmps7
  go_wp2_with fail
  refine (open17 64 (by omega) _).mono ?_
  rintro e w1 ⟨A, rfl, hx, hb⟩
  have HV0 := Lib.hid (TvS.start (vs := 64) hx hb)
  clear hx hb
  go_upto_region 2 with fail
  change Code.wp _ _ _ _ (w1.alloc (.cells #[.pointer (some ⟨A, 0, none⟩), .int .i64 16, .int .i64 ((64 : Nat) : Int)] 29))
  obtain ⟨y, hy⟩ : ∃ y, w1.alloc (.cells #[.pointer (some ⟨A, 0, none⟩), .int .i64 16, .int .i64 ((64 : Nat) : Int)] 29) = y := ⟨_, rfl⟩
  obtain ⟨C, hC⟩ : ∃ C, w1.heap.size = C := ⟨_, rfl⟩
  rw [hy, hC] at HV0
  rw [hy, hC]
  clear hy hC
  obtain ⟨c0, c1, c2⟩ := HV0.out.all
  go_wp2_with fail
  refine (hNew HV0.out.on (vs := 64) (by omega) (hd_new _) 4096 (by omega)).mono ?_
  intro e w2 hp
  obtain ⟨m1, rfl, ho, hd, hg⟩ := new_first (by rw [ns64]; omega) (by omega) (show free q00 0 from ⟨rfl, by show 0 < _; omega⟩) hp
  have HV1 := Lib.hid (HV0.out.went ho hg)
  have HD1 : Hid (Hd m1 (nS 64) q01) := Lib.hid hd
  rw [show hOf q00 0 = 256 from rfl]
  clear hp ho hd hg c0 c1 c2 HV0
  obtain ⟨c0, c1, c2⟩ := HV1.out.all
  go_wp2_with fail
  refine (hDrop HV1.out.on (vs := 64) (by omega) HD1.out 256 (by omega)).mono ?_
  rintro e w3 ⟨m2, q', er, rfl, ho, hd, hg, ⟨_, rfl, rfl⟩ | ⟨hn, _, _⟩⟩
  rotate_left
  · exact absurd (show isH (nS 64) q01 256 from ⟨by rw [ns64]; decide, by decide, by decide⟩) hn
  have HV2 := Lib.hid (HV1.out.went ho hg)
  have HD2 : Hid (Hd m2 (nS 64) q02) := Lib.hid hd
  clear ho hd hg c0 c1 c2 HV1 HD1
  obtain ⟨c0, c1, c2⟩ := HV2.out.all
  go_wp2_with fail
  refine (hNew HV2.out.on (vs := 64) (by omega) HD2.out 8192 (by omega)).mono ?_
  intro e w4 hp
  obtain ⟨m3, rfl, ho, hd, hg⟩ := new_first (by rw [ns64]; omega) (by omega) (show free q02 0 from ⟨rfl, by show 1 < _; omega⟩) hp
  have HV3 := Lib.hid (HV2.out.went ho hg)
  have HD3 : Hid (Hd m3 (nS 64) q03) := Lib.hid hd
  rw [show hOf q02 0 = 512 from rfl]
  clear hp ho hd hg c0 c1 c2 HV2 HD2
  obtain ⟨c0, c1, c2⟩ := HV3.out.all
  go_wp2_with fail
  refine (hGet_no HV3.out.on (vs := 64) (by omega) HD3.out 256 (by omega) (fun c => absurd c.2.2 (by decide))).mono ?_
  rintro e w5 ⟨rfl, hb⟩
  have HV4 := Lib.hid (HV3.out.below hb)
  clear hb c0 c1 c2 HV3
  go_wp2_with fail
  refine (awake4 _).mono ?_
  rintro e w6 ⟨rfl, hb⟩
  have HV5 := Lib.hid (HV4.out.below hb)
  clear hb HV4
  go_wp2_with fail
  go_ret
  exact ⟨rfl, HV5.out.bs.bel⟩
end Go.Proofs.Ytllghngjnhbmaaa.Bt
