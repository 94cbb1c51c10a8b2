/- CleanNone. (Written by gen_cen.py.) -/
import Derived.Test.YtcbbhefgdonabaaCkH
namespace Go.Proofs.Ytcbbhefgdonabaa.Bt
open Go Go.RowKit Go.Shelf
set_option linter.unusedVariables false
set_option linter.unusedSimpArgs false
set_option maxRecDepth 100000
set_option maxRecDepth 100000 in
set_option maxHeartbeats 4000000 in
/-- none, where there is no list -/
theorem croom_nil (w : World) : Calls Try.prog 18 #[zvV] w (Gives (.int .i64 0) w) := by
  have HSN := Lib.hid fun X (_ : Below w.heap.size w X) => cslots_nil X
  have HAL := Lib.hid fun X (_ : Below w.heap.size w X) => call_nil X
  have q1 : IntKind.i64.wrap 0 = 0 := by decide
  have HQ := Lib.hid q1
  clear q1
  have HF0 := Lib.hid ((Fb.start w).new (zvC) 29)
  go_enter Try.func18, Try.ntmps18
  go_upto_region 1 with fail
  change Code.wp _ _ _ _ (w.alloc (.cells (zvC) 29))
  obtain ⟨y, hy⟩ : ∃ y, w.alloc (.cells (zvC) 29) = y := ⟨_, rfl⟩
  obtain ⟨C, hC⟩ : ∃ C, w.heap.size = C := ⟨_, rfl⟩
  have hf := HF0.out
  rw [hy, hC] at hf
  rw [hy, hC]
  have HF := Lib.hid hf
  clear hy hC hf HF0
  have HB0 := Lib.hid (show Below w.heap.size w y.drew from HF.out.be.drew)
  refine wp_region_held_drew (S := Fb w [⟨C, zvC, 29⟩]) (by kernel_rfl) (HF.out.below (Below.refl _ _).drew) (fun hHeld => ?_)
  clear HF
  refine wpAnyH_take (i := 0) (v := (zvV)) rfl (by kernel_rfl) (by kernel_rfl) (by kernel_rfl) (fun _ _ _ h => h) (Or.inl ⟨by rfl, fun X hS => ?_⟩) hHeld ?_
  · have s0 := hS.cell0 0 rfl; have s1 := hS.cell0 1 rfl; have s2 := hS.cell0 2 rfl
    go_simp
  try simp only [Act.put, List.getElem_toArray, List.getElem_cons_zero, List.getElem_cons_succ, List.setIfInBounds_toArray, List.set_cons_zero, List.set_cons_succ]
  refine wpAnyH_take (i := 2) (v := (zvV)) rfl (by kernel_rfl) (by kernel_rfl) (by kernel_rfl) (fun _ _ _ h => h) (Or.inl ⟨by rfl, fun X hS => ?_⟩) hHeld ?_
  · have s0 := hS.cell0 0 rfl; have s1 := hS.cell0 1 rfl; have s2 := hS.cell0 2 rfl
    go_simp
  try simp only [Act.put, List.getElem_toArray, List.getElem_cons_zero, List.getElem_cons_succ, List.setIfInBounds_toArray, List.set_cons_zero, List.set_cons_succ]
  refine wpAnyH_ready (rs := [1]) (by kernel_rfl) (by simp) (AllReadyH.cons rfl (fun K1 hK1 => ?_) AllReadyH.nil)
  go_simp
  refine (HSN.out _ HB0.out).mono ?_
  rintro e x1 ⟨rfl, hb⟩
  have HB1 := Lib.hid (HB0.out.trans (hb.mono HB0.out.size))
  have hS1 := hHeld.below hb
  clear hHeld hb HB0 HSN
  refine hK1.out _ _ hS1 (fun hHeld => ?_)
  clear hK1 hS1
  try simp only [Act.put, List.getElem_toArray, List.getElem_cons_zero, List.getElem_cons_succ, List.setIfInBounds_toArray, List.set_cons_zero, List.set_cons_succ]
  refine wpAnyH_ready (rs := [3]) (by kernel_rfl) (by simp) (AllReadyH.cons rfl (fun K2 hK2 => ?_) AllReadyH.nil)
  go_simp
  refine (HAL.out _ HB1.out).mono ?_
  rintro e x2 ⟨p, cap, rfl, -, -, hb⟩
  simp only [List.length_nil]
  have HB2 := Lib.hid (HB1.out.trans (hb.mono HB1.out.size))
  have hS2 := hHeld.below hb
  clear hHeld hb HB1 HAL
  refine hK2.out _ _ hS2 (fun hHeld => ?_)
  clear hK2 hS2
  try simp only [Act.put, List.getElem_toArray, List.getElem_cons_zero, List.getElem_cons_succ, List.setIfInBounds_toArray, List.set_cons_zero, List.set_cons_succ]
  refine wpAnyH_take (i := 4) (v := (.int .i64 0)) rfl (by kernel_rfl) (by kernel_rfl) (by kernel_rfl) (fun _ _ _ h => h) (Or.inl ⟨by rfl, fun X hS => ?_⟩) hHeld ?_
  · skip
    go_simp
  try simp only [Act.put, List.getElem_toArray, List.getElem_cons_zero, List.getElem_cons_succ, List.setIfInBounds_toArray, List.set_cons_zero, List.set_cons_succ]
  refine wpAnyH_take (i := 5) (v := (.int .i64 0)) rfl (by kernel_rfl) (by kernel_rfl) (by kernel_rfl) (fun _ _ _ h => h) (Or.inl ⟨by rfl, fun X hS => ?_⟩) hHeld ?_
  · have q1 := HQ.out
    go_simp
  try simp only [Act.put, List.getElem_toArray, List.getElem_cons_zero, List.getElem_cons_succ, List.setIfInBounds_toArray, List.set_cons_zero, List.set_cons_succ]
  refine wpAnyH_take (i := 6) (v := (.int .i64 0)) rfl (by kernel_rfl) (by kernel_rfl) (by kernel_rfl) (fun _ _ _ h => h) (Or.inl ⟨by rfl, fun X hS => ?_⟩) hHeld ?_
  · skip
    go_simp
  try simp only [Act.put, List.getElem_toArray, List.getElem_cons_zero, List.getElem_cons_succ, List.setIfInBounds_toArray, List.set_cons_zero, List.set_cons_succ]
  refine wpAnyH_done (by kernel_rfl) ?_ _
  clear hHeld
  go_wp2_with fail
  go_ret
  exact ⟨rfl, HB2.out⟩
/-- no list in block T, a list without slots in block C -/
structure NnC (T C A : Nat) (m : Nat → UInt8) (w x : World) : Prop where
  t : x.heap[T]? = some (.cells zvC 29 (0, 0))
  v : ClS C A 23 m w x
theorem NnC.below {T C A : Nat} {m : Nat → UInt8} {w x z : World} (h : NnC T C A m w x) (hb : Below x.heap.size x z) : NnC T C A m w z := ⟨blk_at hb h.t, h.v.below hb⟩
theorem NnC.all {T C A : Nat} {m : Nat → UInt8} {w x : World} (h : NnC T C A m w x) : (x.cell? ⟨T, 0, none⟩ = some (.pointer none) ∧ x.cell? ⟨T, 1, none⟩ = some (.int .i64 0) ∧ x.cell? ⟨T, 2, none⟩ = some (.int .i64 0)) ∧
    x.cell? ⟨C, 0, none⟩ = some (.pointer (some ⟨A, 0, none⟩)) ∧ x.cell? ⟨C, 1, none⟩ = some (.int .i64 40) ∧ x.cell? ⟨C, 2, none⟩ = some (.int .i64 ((23 : Nat) : Int)) :=
  ⟨⟨(cell_blk h.t 0).1, (cell_blk h.t 1).1, (cell_blk h.t 2).1⟩, h.v.all⟩
set_option maxHeartbeats 16000000 in
theorem cnone (w : World) : Calls Try.prog 5 #[] w fun e w' => e = .returned (.bool true) ∧ Below w.heap.size w w' := by
  go_enter Try.func5, Try.ntmps5
  go_wp2_with fail
  refine (copen none 0 0 _).mono ?_
  rintro e w1 ⟨rfl, hb⟩
  have HT := Lib.hid (And.intro (heap_new w1 (.cells zvC 29)) (hb.trans ((bel1 w1 (.cells zvC 29)).mono hb.size)))
  clear hb
  go_upto_region 2 with fail
  change Code.wp _ _ _ _ (w1.alloc (.cells zvC 29))
  obtain ⟨y, hy⟩ : ∃ y, w1.alloc (.cells zvC 29) = y := ⟨_, rfl⟩
  obtain ⟨T, hT⟩ : ∃ C, w1.heap.size = C := ⟨_, rfl⟩
  rw [hy, hT] at HT
  rw [hy, hT]
  clear hy hT
  have t0 := (cell_blk HT.out.1 0).1; have t1 := (cell_blk HT.out.1 1).1; have t2 := (cell_blk HT.out.1 2).1
  go_wp2_with fail
  refine (ckill_nil 0).mono ?_
  rintro e w2 ⟨rfl, hb⟩
  have hb2 := hb.trans ((bel1 w2 (.cells #[.int .u64 0, .int .u8 0, .int .u8 0, .int .u64 0] 35)).mono hb.size)
  have HT2 := Lib.hid (And.intro (blk_at hb2 HT.out.1) (HT.out.2.trans (hb2.mono HT.out.2.size)))
  clear hb hb2 HT t0 t1 t2
  have t0 := (cell_blk HT2.out.1 0).1; have t1 := (cell_blk HT2.out.1 1).1; have t2 := (cell_blk HT2.out.1 2).1
  go_wp2_with fail
  refine cpop_nil.mono ?_
  rintro e w3 ⟨rfl, hb⟩
  have hb2 := hb.trans ((bel1 w3 (.cells #[.int .u64 0, .int .u8 0, .int .u8 0, .int .u64 0] 35)).mono hb.size)
  have HT3 := Lib.hid (And.intro (blk_at hb2 HT2.out.1) (HT2.out.2.trans (hb2.mono HT2.out.2.size)))
  clear hb hb2 HT2 t0 t1 t2
  go_wp2_with fail
  refine (open21 23 (by omega) _).mono ?_
  rintro e w4 ⟨A, rfl, hx, hb⟩
  have HN9 : Hid (NnC T w4.heap.size A (fun _ => 0) w (w4.alloc (.cells (vwC A 40 23) 29))) := Lib.hid ⟨blk_at (hb.bel.trans ((bel1 w4 (.cells (vwC A 40 23) 29)).mono hb.bel.size)) HT3.out.1, ClS.start (vs := 23) hx (hb.rebase HT3.out.2)⟩
  have HL : Hid (Ls (fun _ => 0) (23 / 24) []) := Lib.hid (Ls.new _)
  clear hx hb HT3
  go_upto_region 5 with fail
  change Code.wp _ _ _ _ (w4.alloc (.cells (vwC A 40 23) 29))
  obtain ⟨y2, hy⟩ : ∃ y, w4.alloc (.cells (vwC A 40 23) 29) = y := ⟨_, rfl⟩
  obtain ⟨C, hC⟩ : ∃ C, w4.heap.size = C := ⟨_, rfl⟩
  rw [hy, hC] at HN9
  rw [hy, hC]
  clear hy hC
  have hn9 := HN9.out.below (Below.refl y2.heap.size y2).drew
  refine wp_region_held_drew (S := NnC T C A (fun _ => 0) w) (by kernel_rfl) hn9 (fun hHeld => ?_)
  clear HN9
  generalize y2.drew = x0 at *
  have HN9 := Lib.hid hn9
  clear hn9
  refine wpAnyH_ready (rs := [0]) (by kernel_rfl) (by simp) (AllReadyH.cons rfl (fun K1 hK1 => ?_) AllReadyH.nil)
  go_simp
  have HH := Lib.hid hHeld
  clear hHeld
  refine (awake21 _).mono ?_
  rintro e x1 ⟨rfl, hb⟩
  have HN10 := Lib.hid (HN9.out.below hb)
  have hrb := HN10.out
  clear HH hb HN9
  refine hK1.out _ _ hrb (fun hHeld => ?_)
  clear hK1
  try simp only [Act.put, List.getElem_toArray, List.getElem_cons_zero, List.getElem_cons_succ, List.setIfInBounds_toArray, List.set_cons_zero, List.set_cons_succ]
  refine wpAnyH_take (i := 1) (v := (.bool true)) rfl (by kernel_rfl) (by kernel_rfl) (by kernel_rfl) (fun _ _ _ h => h) (Or.inl ⟨by rfl, fun X hS => ?_⟩) hHeld ?_
  · obtain ⟨⟨t0, t1, t2⟩, c0, c1, c2⟩ := NnC.all hS
    go_simp
  try simp only [Act.put, List.getElem_toArray, List.getElem_cons_zero, List.getElem_cons_succ, List.setIfInBounds_toArray, List.set_cons_zero, List.set_cons_succ]
  refine wpAnyH_take (i := 2) (v := (.bool true)) rfl (by kernel_rfl) (by kernel_rfl) (by kernel_rfl) (fun _ _ _ h => h) (Or.inl ⟨by rfl, fun X hS => ?_⟩) hHeld ?_
  · obtain ⟨⟨t0, t1, t2⟩, c0, c1, c2⟩ := NnC.all hS
    go_simp
  try simp only [Act.put, List.getElem_toArray, List.getElem_cons_zero, List.getElem_cons_succ, List.setIfInBounds_toArray, List.set_cons_zero, List.set_cons_succ]
  refine wpAnyH_take (i := 3) (v := (.bool true)) rfl (by kernel_rfl) (by kernel_rfl) (by kernel_rfl) (fun _ _ _ h => h) (Or.inl ⟨by rfl, fun X hS => ?_⟩) hHeld ?_
  · obtain ⟨⟨t0, t1, t2⟩, c0, c1, c2⟩ := NnC.all hS
    go_simp
  try simp only [Act.put, List.getElem_toArray, List.getElem_cons_zero, List.getElem_cons_succ, List.setIfInBounds_toArray, List.set_cons_zero, List.set_cons_succ]
  refine wpAnyH_take (i := 4) (v := (.bool true)) rfl (by kernel_rfl) (by kernel_rfl) (by kernel_rfl) (fun _ _ _ h => h) (Or.inl ⟨by rfl, fun X hS => ?_⟩) hHeld ?_
  · obtain ⟨⟨t0, t1, t2⟩, c0, c1, c2⟩ := NnC.all hS
    go_simp
  try simp only [Act.put, List.getElem_toArray, List.getElem_cons_zero, List.getElem_cons_succ, List.setIfInBounds_toArray, List.set_cons_zero, List.set_cons_succ]
  refine wpAnyH_take (i := 5) (v := (zvV)) rfl (by kernel_rfl) (by kernel_rfl) (by kernel_rfl) (fun _ _ _ h => h) (Or.inl ⟨by rfl, fun X hS => ?_⟩) hHeld ?_
  · obtain ⟨⟨t0, t1, t2⟩, c0, c1, c2⟩ := NnC.all hS
    go_simp
  try simp only [Act.put, List.getElem_toArray, List.getElem_cons_zero, List.getElem_cons_succ, List.setIfInBounds_toArray, List.set_cons_zero, List.set_cons_succ]
  refine wpAnyH_take (i := 6) (v := (.agg #[.int .u64 0, .int .u8 0, .int .u8 0, .int .u64 0])) rfl (by kernel_rfl) (by kernel_rfl) (by kernel_rfl) (fun _ _ _ h => h) (Or.inl ⟨by rfl, fun X hS => ?_⟩) hHeld ?_
  · obtain ⟨⟨t0, t1, t2⟩, c0, c1, c2⟩ := NnC.all hS
    go_simp
  try simp only [Act.put, List.getElem_toArray, List.getElem_cons_zero, List.getElem_cons_succ, List.setIfInBounds_toArray, List.set_cons_zero, List.set_cons_succ]
  refine wpAnyH_ready (rs := [7]) (by kernel_rfl) (by simp) (AllReadyH.cons rfl (fun K1 hK1 => ?_) AllReadyH.nil)
  go_simp
  have HH := Lib.hid hHeld
  clear hHeld
  refine (cadd_nil eZ).mono ?_
  rintro e x2 ⟨rfl, hb⟩
  have HN11 := Lib.hid (HN10.out.below hb)
  have hrb := HN11.out
  clear HH hb HN10
  refine hK1.out _ _ hrb (fun hHeld => ?_)
  clear hK1
  try simp only [Act.put, List.getElem_toArray, List.getElem_cons_zero, List.getElem_cons_succ, List.setIfInBounds_toArray, List.set_cons_zero, List.set_cons_succ]
  refine wpAnyH_take (i := 8) (v := (.bool true)) rfl (by kernel_rfl) (by kernel_rfl) (by kernel_rfl) (fun _ _ _ h => h) (Or.inl ⟨by rfl, fun X hS => ?_⟩) hHeld ?_
  · obtain ⟨⟨t0, t1, t2⟩, c0, c1, c2⟩ := NnC.all hS
    go_simp
  try simp only [Act.put, List.getElem_toArray, List.getElem_cons_zero, List.getElem_cons_succ, List.setIfInBounds_toArray, List.set_cons_zero, List.set_cons_succ]
  refine wpAnyH_take (i := 9) (v := (.bool true)) rfl (by kernel_rfl) (by kernel_rfl) (by kernel_rfl) (fun _ _ _ h => h) (Or.inl ⟨by rfl, fun X hS => ?_⟩) hHeld ?_
  · obtain ⟨⟨t0, t1, t2⟩, c0, c1, c2⟩ := NnC.all hS
    go_simp
  try simp only [Act.put, List.getElem_toArray, List.getElem_cons_zero, List.getElem_cons_succ, List.setIfInBounds_toArray, List.set_cons_zero, List.set_cons_succ]
  refine wpAnyH_take (i := 10) (v := (.bool true)) rfl (by kernel_rfl) (by kernel_rfl) (by kernel_rfl) (fun _ _ _ h => h) (Or.inl ⟨by rfl, fun X hS => ?_⟩) hHeld ?_
  · obtain ⟨⟨t0, t1, t2⟩, c0, c1, c2⟩ := NnC.all hS
    go_simp
  try simp only [Act.put, List.getElem_toArray, List.getElem_cons_zero, List.getElem_cons_succ, List.setIfInBounds_toArray, List.set_cons_zero, List.set_cons_succ]
  refine wpAnyH_take (i := 11) (v := (.int .i64 1)) rfl (by kernel_rfl) (by kernel_rfl) (by kernel_rfl) (fun _ _ _ h => h) (Or.inl ⟨by rfl, fun X hS => ?_⟩) hHeld ?_
  · obtain ⟨⟨t0, t1, t2⟩, c0, c1, c2⟩ := NnC.all hS
    go_simp
  try simp only [Act.put, List.getElem_toArray, List.getElem_cons_zero, List.getElem_cons_succ, List.setIfInBounds_toArray, List.set_cons_zero, List.set_cons_succ]
  refine wpAnyH_take (i := 12) (v := (.bool true)) rfl (by kernel_rfl) (by kernel_rfl) (by kernel_rfl) (fun _ _ _ h => h) (Or.inl ⟨by rfl, fun X hS => ?_⟩) hHeld ?_
  · obtain ⟨⟨t0, t1, t2⟩, c0, c1, c2⟩ := NnC.all hS
    go_simp
  try simp only [Act.put, List.getElem_toArray, List.getElem_cons_zero, List.getElem_cons_succ, List.setIfInBounds_toArray, List.set_cons_zero, List.set_cons_succ]
  refine wpAnyH_take (i := 13) (v := (.bool true)) rfl (by kernel_rfl) (by kernel_rfl) (by kernel_rfl) (fun _ _ _ h => h) (Or.inl ⟨by rfl, fun X hS => ?_⟩) hHeld ?_
  · obtain ⟨⟨t0, t1, t2⟩, c0, c1, c2⟩ := NnC.all hS
    go_simp
  try simp only [Act.put, List.getElem_toArray, List.getElem_cons_zero, List.getElem_cons_succ, List.setIfInBounds_toArray, List.set_cons_zero, List.set_cons_succ]
  refine wpAnyH_take (i := 14) (v := (.bool true)) rfl (by kernel_rfl) (by kernel_rfl) (by kernel_rfl) (fun _ _ _ h => h) (Or.inl ⟨by rfl, fun X hS => ?_⟩) hHeld ?_
  · obtain ⟨⟨t0, t1, t2⟩, c0, c1, c2⟩ := NnC.all hS
    go_simp
  try simp only [Act.put, List.getElem_toArray, List.getElem_cons_zero, List.getElem_cons_succ, List.setIfInBounds_toArray, List.set_cons_zero, List.set_cons_succ]
  refine wpAnyH_take (i := 15) (v := (.bool false)) rfl (by kernel_rfl) (by kernel_rfl) (by kernel_rfl) (fun _ _ _ h => h) (Or.inl ⟨by rfl, fun X hS => ?_⟩) hHeld ?_
  · obtain ⟨⟨t0, t1, t2⟩, c0, c1, c2⟩ := NnC.all hS
    go_simp
  try simp only [Act.put, List.getElem_toArray, List.getElem_cons_zero, List.getElem_cons_succ, List.setIfInBounds_toArray, List.set_cons_zero, List.set_cons_succ]
  refine wpAnyH_take (i := 16) (v := (.bool true)) rfl (by kernel_rfl) (by kernel_rfl) (by kernel_rfl) (fun _ _ _ h => h) (Or.inl ⟨by rfl, fun X hS => ?_⟩) hHeld ?_
  · obtain ⟨⟨t0, t1, t2⟩, c0, c1, c2⟩ := NnC.all hS
    go_simp
  try simp only [Act.put, List.getElem_toArray, List.getElem_cons_zero, List.getElem_cons_succ, List.setIfInBounds_toArray, List.set_cons_zero, List.set_cons_succ]
  refine wpAnyH_take (i := 17) (v := (.bool true)) rfl (by kernel_rfl) (by kernel_rfl) (by kernel_rfl) (fun _ _ _ h => h) (Or.inl ⟨by rfl, fun X hS => ?_⟩) hHeld ?_
  · obtain ⟨⟨t0, t1, t2⟩, c0, c1, c2⟩ := NnC.all hS
    go_simp
  try simp only [Act.put, List.getElem_toArray, List.getElem_cons_zero, List.getElem_cons_succ, List.setIfInBounds_toArray, List.set_cons_zero, List.set_cons_succ]
  refine wpAnyH_take (i := 18) (v := (.bool true)) rfl (by kernel_rfl) (by kernel_rfl) (by kernel_rfl) (fun _ _ _ h => h) (Or.inl ⟨by rfl, fun X hS => ?_⟩) hHeld ?_
  · obtain ⟨⟨t0, t1, t2⟩, c0, c1, c2⟩ := NnC.all hS
    go_simp
  try simp only [Act.put, List.getElem_toArray, List.getElem_cons_zero, List.getElem_cons_succ, List.setIfInBounds_toArray, List.set_cons_zero, List.set_cons_succ]
  refine wpAnyH_take (i := 19) (v := (zvV)) rfl (by kernel_rfl) (by kernel_rfl) (by kernel_rfl) (fun _ _ _ h => h) (Or.inl ⟨by rfl, fun X hS => ?_⟩) hHeld ?_
  · obtain ⟨⟨t0, t1, t2⟩, c0, c1, c2⟩ := NnC.all hS
    go_simp
  try simp only [Act.put, List.getElem_toArray, List.getElem_cons_zero, List.getElem_cons_succ, List.setIfInBounds_toArray, List.set_cons_zero, List.set_cons_succ]
  refine wpAnyH_take (i := 22) (v := (zvV)) rfl (by kernel_rfl) (by kernel_rfl) (by kernel_rfl) (fun _ _ _ h => h) (Or.inl ⟨by rfl, fun X hS => ?_⟩) hHeld ?_
  · obtain ⟨⟨t0, t1, t2⟩, c0, c1, c2⟩ := NnC.all hS
    go_simp
  try simp only [Act.put, List.getElem_toArray, List.getElem_cons_zero, List.getElem_cons_succ, List.setIfInBounds_toArray, List.set_cons_zero, List.set_cons_succ]
  refine wpAnyH_take (i := 25) (v := (vwV A 40 23)) rfl (by kernel_rfl) (by kernel_rfl) (by kernel_rfl) (fun _ _ _ h => h) (Or.inl ⟨by rfl, fun X hS => ?_⟩) hHeld ?_
  · obtain ⟨⟨t0, t1, t2⟩, c0, c1, c2⟩ := NnC.all hS
    go_simp
  try simp only [Act.put, List.getElem_toArray, List.getElem_cons_zero, List.getElem_cons_succ, List.setIfInBounds_toArray, List.set_cons_zero, List.set_cons_succ]
  refine wpAnyH_ready (rs := [20]) (by kernel_rfl) (by simp) (AllReadyH.cons rfl (fun K1 hK1 => ?_) AllReadyH.nil)
  go_simp
  have HH := Lib.hid hHeld
  clear hHeld
  refine (call_nil _).mono ?_
  rintro e x3 ⟨p, cap, rfl, -, -, hb⟩
  have HN12 := Lib.hid (HN11.out.below hb)
  have hrb := HN12.out
  clear HH hb HN11
  refine hK1.out _ _ hrb (fun hHeld => ?_)
  clear hK1
  try simp only [Act.put, List.getElem_toArray, List.getElem_cons_zero, List.getElem_cons_succ, List.setIfInBounds_toArray, List.set_cons_zero, List.set_cons_succ]
  refine wpAnyH_take (i := 21) (v := (.int .i64 0)) rfl (by kernel_rfl) (by kernel_rfl) (by kernel_rfl) (fun _ _ _ h => h) (Or.inl ⟨by rfl, fun X hS => ?_⟩) hHeld ?_
  · obtain ⟨⟨t0, t1, t2⟩, c0, c1, c2⟩ := NnC.all hS
    go_simp
  try simp only [Act.put, List.getElem_toArray, List.getElem_cons_zero, List.getElem_cons_succ, List.setIfInBounds_toArray, List.set_cons_zero, List.set_cons_succ]
  refine wpAnyH_ready (rs := [23]) (by kernel_rfl) (by simp) (AllReadyH.cons rfl (fun K1 hK1 => ?_) AllReadyH.nil)
  go_simp
  have HH := Lib.hid hHeld
  clear hHeld
  refine (croom_nil _).mono ?_
  rintro e x4 ⟨rfl, hb⟩
  have HN13 := Lib.hid (HN12.out.below hb)
  have hrb := HN13.out
  clear HH hb HN12
  refine hK1.out _ _ hrb (fun hHeld => ?_)
  clear hK1
  try simp only [Act.put, List.getElem_toArray, List.getElem_cons_zero, List.getElem_cons_succ, List.setIfInBounds_toArray, List.set_cons_zero, List.set_cons_succ]
  refine wpAnyH_take (i := 24) (v := (.int .i64 0)) rfl (by kernel_rfl) (by kernel_rfl) (by kernel_rfl) (fun _ _ _ h => h) (Or.inl ⟨by rfl, fun X hS => ?_⟩) hHeld ?_
  · obtain ⟨⟨t0, t1, t2⟩, c0, c1, c2⟩ := NnC.all hS
    have hw0 : IntKind.i64.wrap 0 = 0 := by decide
    go_simp
  try simp only [Act.put, List.getElem_toArray, List.getElem_cons_zero, List.getElem_cons_succ, List.setIfInBounds_toArray, List.set_cons_zero, List.set_cons_succ]
  refine wpAnyH_ready (rs := [26]) (by kernel_rfl) (by simp) (AllReadyH.cons rfl (fun K1 hK1 => ?_) AllReadyH.nil)
  go_simp
  have HH := Lib.hid hHeld
  clear hHeld
  refine (croom HN13.out.v.on (by omega) HL.out).mono ?_
  rintro e x5 ⟨rfl, hb⟩
  have HN14 := Lib.hid (HN13.out.below hb)
  have hrb := HN14.out
  clear HH hb HN13
  refine hK1.out _ _ hrb (fun hHeld => ?_)
  clear hK1
  try simp only [Act.put, List.getElem_toArray, List.getElem_cons_zero, List.getElem_cons_succ, List.setIfInBounds_toArray, List.set_cons_zero, List.set_cons_succ]
  refine wpAnyH_take (i := 27) (v := (.int .i64 0)) rfl (by kernel_rfl) (by kernel_rfl) (by kernel_rfl) (fun _ _ _ h => h) (Or.inl ⟨by rfl, fun X hS => ?_⟩) hHeld ?_
  · obtain ⟨⟨t0, t1, t2⟩, c0, c1, c2⟩ := NnC.all hS
    have hw0 : IntKind.i64.wrap 0 = 0 := by decide
    go_simp
  try simp only [Act.put, List.getElem_toArray, List.getElem_cons_zero, List.getElem_cons_succ, List.setIfInBounds_toArray, List.set_cons_zero, List.set_cons_succ]
  refine wpAnyH_take (i := 28) (v := (.bool true)) rfl (by kernel_rfl) (by kernel_rfl) (by kernel_rfl) (fun _ _ _ h => h) (Or.inl ⟨by rfl, fun X hS => ?_⟩) hHeld ?_
  · obtain ⟨⟨t0, t1, t2⟩, c0, c1, c2⟩ := NnC.all hS
    go_simp
  try simp only [Act.put, List.getElem_toArray, List.getElem_cons_zero, List.getElem_cons_succ, List.setIfInBounds_toArray, List.set_cons_zero, List.set_cons_succ]
  refine wpAnyH_take (i := 29) (v := (.bool true)) rfl (by kernel_rfl) (by kernel_rfl) (by kernel_rfl) (fun _ _ _ h => h) (Or.inl ⟨by rfl, fun X hS => ?_⟩) hHeld ?_
  · obtain ⟨⟨t0, t1, t2⟩, c0, c1, c2⟩ := NnC.all hS
    go_simp
  try simp only [Act.put, List.getElem_toArray, List.getElem_cons_zero, List.getElem_cons_succ, List.setIfInBounds_toArray, List.set_cons_zero, List.set_cons_succ]
  refine wpAnyH_take (i := 30) (v := (.bool true)) rfl (by kernel_rfl) (by kernel_rfl) (by kernel_rfl) (fun _ _ _ h => h) (Or.inl ⟨by rfl, fun X hS => ?_⟩) hHeld ?_
  · obtain ⟨⟨t0, t1, t2⟩, c0, c1, c2⟩ := NnC.all hS
    go_simp
  try simp only [Act.put, List.getElem_toArray, List.getElem_cons_zero, List.getElem_cons_succ, List.setIfInBounds_toArray, List.set_cons_zero, List.set_cons_succ]
  refine wpAnyH_take (i := 31) (v := (vwV A 40 23)) rfl (by kernel_rfl) (by kernel_rfl) (by kernel_rfl) (fun _ _ _ h => h) (Or.inl ⟨by rfl, fun X hS => ?_⟩) hHeld ?_
  · obtain ⟨⟨t0, t1, t2⟩, c0, c1, c2⟩ := NnC.all hS
    go_simp
  try simp only [Act.put, List.getElem_toArray, List.getElem_cons_zero, List.getElem_cons_succ, List.setIfInBounds_toArray, List.set_cons_zero, List.set_cons_succ]
  refine wpAnyH_take (i := 32) (v := (.agg #[.int .u64 1, .int .u8 0, .int .u8 0, .int .u64 0])) rfl (by kernel_rfl) (by kernel_rfl) (by kernel_rfl) (fun _ _ _ h => h) (Or.inl ⟨by rfl, fun X hS => ?_⟩) hHeld ?_
  · obtain ⟨⟨t0, t1, t2⟩, c0, c1, c2⟩ := NnC.all hS
    go_simp
  try simp only [Act.put, List.getElem_toArray, List.getElem_cons_zero, List.getElem_cons_succ, List.setIfInBounds_toArray, List.set_cons_zero, List.set_cons_succ]
  refine wpAnyH_ready (rs := [33]) (by kernel_rfl) (by simp) (AllReadyH.cons rfl (fun K1 hK1 => ?_) AllReadyH.nil)
  go_simp
  have HH := Lib.hid hHeld
  clear hHeld
  refine (cadd_full HN14.out.v.on (by omega) HL.out ⟨1, 0, 0, 0⟩ (by decide) (by decide) (by decide) rfl).mono ?_
  rintro e x6 ⟨rfl, hb⟩
  have HN15 := Lib.hid (HN14.out.below hb)
  have hrb := HN15.out
  clear HH hb HN14
  refine hK1.out _ _ hrb (fun hHeld => ?_)
  clear hK1
  try simp only [Act.put, List.getElem_toArray, List.getElem_cons_zero, List.getElem_cons_succ, List.setIfInBounds_toArray, List.set_cons_zero, List.set_cons_succ]
  refine wpAnyH_take (i := 34) (v := (.bool true)) rfl (by kernel_rfl) (by kernel_rfl) (by kernel_rfl) (fun _ _ _ h => h) (Or.inl ⟨by rfl, fun X hS => ?_⟩) hHeld ?_
  · obtain ⟨⟨t0, t1, t2⟩, c0, c1, c2⟩ := NnC.all hS
    go_simp
  try simp only [Act.put, List.getElem_toArray, List.getElem_cons_zero, List.getElem_cons_succ, List.setIfInBounds_toArray, List.set_cons_zero, List.set_cons_succ]
  refine wpAnyH_take (i := 35) (v := (.bool true)) rfl (by kernel_rfl) (by kernel_rfl) (by kernel_rfl) (fun _ _ _ h => h) (Or.inl ⟨by rfl, fun X hS => ?_⟩) hHeld ?_
  · obtain ⟨⟨t0, t1, t2⟩, c0, c1, c2⟩ := NnC.all hS
    go_simp
  try simp only [Act.put, List.getElem_toArray, List.getElem_cons_zero, List.getElem_cons_succ, List.setIfInBounds_toArray, List.set_cons_zero, List.set_cons_succ]
  refine wpAnyH_take (i := 36) (v := (.bool true)) rfl (by kernel_rfl) (by kernel_rfl) (by kernel_rfl) (fun _ _ _ h => h) (Or.inl ⟨by rfl, fun X hS => ?_⟩) hHeld ?_
  · obtain ⟨⟨t0, t1, t2⟩, c0, c1, c2⟩ := NnC.all hS
    go_simp
  try simp only [Act.put, List.getElem_toArray, List.getElem_cons_zero, List.getElem_cons_succ, List.setIfInBounds_toArray, List.set_cons_zero, List.set_cons_succ]
  refine wpAnyH_take (i := 37) (v := (vwV A 40 23)) rfl (by kernel_rfl) (by kernel_rfl) (by kernel_rfl) (fun _ _ _ h => h) (Or.inl ⟨by rfl, fun X hS => ?_⟩) hHeld ?_
  · obtain ⟨⟨t0, t1, t2⟩, c0, c1, c2⟩ := NnC.all hS
    go_simp
  try simp only [Act.put, List.getElem_toArray, List.getElem_cons_zero, List.getElem_cons_succ, List.setIfInBounds_toArray, List.set_cons_zero, List.set_cons_succ]
  refine wpAnyH_take (i := 38) (v := (.agg #[.int .u64 0, .int .u8 0, .int .u8 0, .int .u64 0])) rfl (by kernel_rfl) (by kernel_rfl) (by kernel_rfl) (fun _ _ _ h => h) (Or.inl ⟨by rfl, fun X hS => ?_⟩) hHeld ?_
  · obtain ⟨⟨t0, t1, t2⟩, c0, c1, c2⟩ := NnC.all hS
    go_simp
  try simp only [Act.put, List.getElem_toArray, List.getElem_cons_zero, List.getElem_cons_succ, List.setIfInBounds_toArray, List.set_cons_zero, List.set_cons_succ]
  refine wpAnyH_ready (rs := [39]) (by kernel_rfl) (by simp) (AllReadyH.cons rfl (fun K1 hK1 => ?_) AllReadyH.nil)
  go_simp
  have HH := Lib.hid hHeld
  clear hHeld
  refine (cadd_arg eZ (.inl rfl)).mono ?_
  rintro e x7 ⟨rfl, hb⟩
  have HN16 := Lib.hid (HN15.out.below hb)
  have hrb := HN16.out
  clear HH hb HN15
  refine hK1.out _ _ hrb (fun hHeld => ?_)
  clear hK1
  try simp only [Act.put, List.getElem_toArray, List.getElem_cons_zero, List.getElem_cons_succ, List.setIfInBounds_toArray, List.set_cons_zero, List.set_cons_succ]
  refine wpAnyH_take (i := 40) (v := (.bool true)) rfl (by kernel_rfl) (by kernel_rfl) (by kernel_rfl) (fun _ _ _ h => h) (Or.inl ⟨by rfl, fun X hS => ?_⟩) hHeld ?_
  · obtain ⟨⟨t0, t1, t2⟩, c0, c1, c2⟩ := NnC.all hS
    go_simp
  try simp only [Act.put, List.getElem_toArray, List.getElem_cons_zero, List.getElem_cons_succ, List.setIfInBounds_toArray, List.set_cons_zero, List.set_cons_succ]
  refine wpAnyH_take (i := 41) (v := (.bool true)) rfl (by kernel_rfl) (by kernel_rfl) (by kernel_rfl) (fun _ _ _ h => h) (Or.inl ⟨by rfl, fun X hS => ?_⟩) hHeld ?_
  · obtain ⟨⟨t0, t1, t2⟩, c0, c1, c2⟩ := NnC.all hS
    go_simp
  try simp only [Act.put, List.getElem_toArray, List.getElem_cons_zero, List.getElem_cons_succ, List.setIfInBounds_toArray, List.set_cons_zero, List.set_cons_succ]
  refine wpAnyH_take (i := 42) (v := (.bool true)) rfl (by kernel_rfl) (by kernel_rfl) (by kernel_rfl) (fun _ _ _ h => h) (Or.inl ⟨by rfl, fun X hS => ?_⟩) hHeld ?_
  · obtain ⟨⟨t0, t1, t2⟩, c0, c1, c2⟩ := NnC.all hS
    go_simp
  try simp only [Act.put, List.getElem_toArray, List.getElem_cons_zero, List.getElem_cons_succ, List.setIfInBounds_toArray, List.set_cons_zero, List.set_cons_succ]
  refine wpAnyH_done (by kernel_rfl) ?_ _
  clear hHeld
  go_wp2_with fail
  go_ret
  exact ⟨rfl, HN16.out.v.bs.bel⟩
end Go.Proofs.Ytcbbhefgdonabaa.Bt
