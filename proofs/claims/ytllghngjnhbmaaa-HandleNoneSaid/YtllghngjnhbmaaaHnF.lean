/- HandleNone. (Written by gen_hnf.py.) -/
import Derived.Test.YtllghngjnhbmaaaHnE
namespace Go.Proofs.Ytllghngjnhbmaaa.Bt
open Go Go.RowKit Go.Shelf
set_option linter.unusedVariables false
set_option linter.unusedSimpArgs false
/-- no table in block T, a table without slots in block C -/
structure NnS (T C A : Nat) (m : Nat → UInt8) (w x : World) : Prop where
  t : x.heap[T]? = some (.cells #[.pointer none, .int .i64 0, .int .i64 0] 29 (0, 0))
  v : TvS C A 15 m w x
theorem NnS.below {T C A : Nat} {m : Nat → UInt8} {w x z : World} (h : NnS T C A m w x) (hb : Below x.heap.size x z) : NnS T C A m w z :=
  ⟨(hb.block _ (Array.getElem?_eq_some_iff.1 h.t).1).trans h.t, h.v.below hb⟩
theorem NnS.went {T C A : Nat} {m m' : Nat → UInt8} {w x z : World} (h : NnS T C A m w x) (ho : On A (hS m') z) (hg : Went A x z) : NnS T C A m' w z :=
  ⟨hg.keep h.v.on h.t (by decide) (by decide) (by decide), h.v.went ho hg⟩
theorem NnS.all {T C A : Nat} {m : Nat → UInt8} {w x : World} (h : NnS T C A m w x) : (x.cell? ⟨T, 0, none⟩ = some (.pointer none) ∧ x.cell? ⟨T, 1, none⟩ = some (.int .i64 0) ∧ x.cell? ⟨T, 2, none⟩ = some (.int .i64 0)) ∧
    x.cell? ⟨C, 0, none⟩ = some (.pointer (some ⟨A, 0, none⟩)) ∧ x.cell? ⟨C, 1, none⟩ = some (.int .i64 16) ∧ x.cell? ⟨C, 2, none⟩ = some (.int .i64 ((15 : Nat) : Int)) :=
  ⟨⟨(cell_blk h.t 0).1, (cell_blk h.t 1).1, (cell_blk h.t 2).1⟩, h.v.all⟩
def TnA (T : Nat) (w x : World) : Prop := x.heap[T]? = some (.cells #[.pointer none, .int .i64 0, .int .i64 0] 29 (0, 0)) ∧ Below w.heap.size w x
theorem TnA.below {T : Nat} {w x z : World} (h : TnA T w x) (hb : Below x.heap.size x z) : TnA T w z := ⟨(hb.block _ (Array.getElem?_eq_some_iff.1 h.1).1).trans h.1, h.2.trans (hb.mono h.2.size)⟩
theorem TnA.all {T : Nat} {w x : World} (h : TnA T w x) : x.cell? ⟨T, 0, none⟩ = some (.pointer none) ∧ x.cell? ⟨T, 1, none⟩ = some (.int .i64 0) ∧ x.cell? ⟨T, 2, none⟩ = some (.int .i64 0) :=
  ⟨(cell_blk h.1 0).1, (cell_blk h.1 1).1, (cell_blk h.1 2).1⟩
theorem ns15 : nS 15 = 0 := rfl
set_option maxHeartbeats 16000000 in
set_option maxRecDepth 100000 in
theorem hnone (w : World) : Calls Try.prog 5 #[] w fun e w' => e = .returned (.bool true) ∧ Below w.heap.size w w' := by
  have HL0 : Hid (∀ X, Calls Try.prog 24 #[zvV] X (Gives (.int .i64 0) X)) := Lib.hid fun X => hlen none 0 0 (by omega) X
  have HL15 : Hid (∀ (A : Nat) X, Calls Try.prog 24 #[vwV A 16 15] X (Gives (.int .i64 0) X)) := Lib.hid fun A X => hlen (some ⟨A, 0, none⟩) 16 15 (by omega) X
  have HOP : Hid (∀ X, Calls Try.prog 22 #[zvV] X (Gives zvV X)) := Lib.hid fun X => hopen none 0 0 X
  go_enter Try.func5, Try.ntmps5
  go_wp2_with fail
  refine (HOP.out _).mono ?_
  rintro e w1 ⟨rfl, hb⟩
  have HT0 : Hid (TnA w1.heap.size w (w1.alloc (.cells #[.pointer none, .int .i64 0, .int .i64 0] 29))) := Lib.hid ⟨heap_new _ _, hb.alloc hb.size _⟩
  clear hb
  go_upto_region 2 with fail
  change Code.wp _ _ _ _ (w1.alloc (.cells #[.pointer none, .int .i64 0, .int .i64 0] 29))
  obtain ⟨y, hy⟩ : ∃ y, w1.alloc (.cells #[.pointer none, .int .i64 0, .int .i64 0] 29) = y := ⟨_, rfl⟩
  obtain ⟨T, hT⟩ : ∃ T, w1.heap.size = T := ⟨_, rfl⟩
  rw [hy, hT] at HT0
  rw [hy, hT]
  clear hy hT
  obtain ⟨t0, t1, t2⟩ := HT0.out.all
  go_wp2_with fail
  refine (hNew_nil 0 _).mono ?_
  rintro e w2 ⟨rfl, hb⟩
  have HT1 := Lib.hid (HT0.out.below hb)
  clear hb t0 t1 t2 HT0
  obtain ⟨t0, t1, t2⟩ := HT1.out.all
  go_wp2_with fail
  refine (hGet_nil 256 _).mono ?_
  rintro e w3 ⟨rfl, hb⟩
  have HT2 := Lib.hid (HT1.out.below hb)
  clear hb t0 t1 t2 HT1
  go_wp2_with fail
  refine (open17 15 (by omega) _).mono ?_
  rintro e w4 ⟨A, rfl, hx, hb⟩
  have HN0 : Hid (NnS T w4.heap.size A (fun _ => 0) w (w4.alloc (.cells #[.pointer (some ⟨A, 0, none⟩), .int .i64 16, .int .i64 ((15 : Nat) : Int)] 29))) := Lib.hid ⟨((HT2.out.below hb.bel).below (bel1 _ _)).1, TvS.start hx (hb.rebase HT2.out.2)⟩
  clear hx hb HT2
  go_upto_region 5 with fail
  change Code.wp _ _ _ _ (w4.alloc (.cells #[.pointer (some ⟨A, 0, none⟩), .int .i64 16, .int .i64 ((15 : Nat) : Int)] 29))
  obtain ⟨y2, hy⟩ : ∃ y, w4.alloc (.cells #[.pointer (some ⟨A, 0, none⟩), .int .i64 16, .int .i64 ((15 : Nat) : Int)] 29) = y := ⟨_, rfl⟩
  obtain ⟨C, hC⟩ : ∃ C, w4.heap.size = C := ⟨_, rfl⟩
  rw [hy, hC] at HN0
  rw [hy, hC]
  clear hy hC
  obtain ⟨⟨t0, t1, t2⟩, c0, c1, c2⟩ := HN0.out.all
  have HL15A := Lib.hid (HL15.out A)
  clear HL15
  have HL15 := HL15A
  go_wp2_with fail
  refine (hNew HN0.out.v.on (vs := 15) (by omega) (hd_new _) 5 (by omega)).mono ?_
  rintro e w6 ⟨m, q', h, er, rfl, ho, hd, hg, ⟨hc, _⟩ | ⟨_, _, rfl, rfl, rfl⟩ | ⟨_, i, hi, _⟩⟩
  · exact absurd hc (by decide)
  rotate_left
  · rw [ns15] at hi; omega
  have HN1 := Lib.hid (HN0.out.went ho hg)
  have HD1 := Lib.hid hd
  clear ho hd hg t0 t1 t2 c0 c1 c2 HN0
  obtain ⟨⟨t0, t1, t2⟩, c0, c1, c2⟩ := HN1.out.all
  go_wp2_with fail
  refine (hGet_no HN1.out.v.on (vs := 15) (by omega) HD1.out 256 (by omega) (fun c => absurd c.1 (by rw [ns15]; omega))).mono ?_
  rintro e w7 ⟨rfl, hb⟩
  have HN2 := Lib.hid (HN1.out.below hb)
  clear hb t0 t1 t2 c0 c1 c2 HN1
  obtain ⟨⟨t0, t1, t2⟩, c0, c1, c2⟩ := HN2.out.all
  go_wp2_with fail
  refine (hNext_nil _).mono ?_
  rintro e w8 ⟨rfl, hb⟩
  have HN3 := Lib.hid (HN2.out.below hb)
  clear hb t0 t1 t2 c0 c1 c2 HN2
  obtain ⟨⟨t0, t1, t2⟩, c0, c1, c2⟩ := HN3.out.all
  go_wp2_with fail
  refine (hNext HN3.out.v.on (vs := 15) (by omega) HD1.out).mono ?_
  rintro e w9 ⟨⟨i, hi, _⟩ | ⟨_, rfl⟩, hb⟩
  · rw [ns15] at hi; omega
  have HN8 := Lib.hid (HN3.out.below hb)
  clear hb t0 t1 t2 c0 c1 c2 HN3 HD1
  go_upto_region 9 with fail
  refine wp_region_held_drew (S := NnS T C A m w) (by kernel_rfl) (HN8.out.below (Below.refl w9.heap.size w9).drew) (fun hHeld => ?_)
  have HN9 := Lib.hid (HN8.out.below (Below.refl w9.heap.size w9).drew)
  clear HN8
  generalize w9.drew = x0 at *
  refine wpAnyH_ready (rs := [0]) (by kernel_rfl) (by simp) (AllReadyH.cons rfl (fun K1 hK1 => ?_) AllReadyH.nil)
  go_simp
  have HH := Lib.hid hHeld
  clear hHeld
  refine (awake17 _).mono ?_
  rintro e x1 ⟨rfl, hb⟩
  have HN10 := Lib.hid (HN9.out.below hb)
  have hrb := HN10.out
  clear HH hb HN9
  refine hK1.out _ _ hrb (fun hHeld => ?_)
  clear hK1
  try simp only [Act.put, List.getElem_toArray, List.getElem_cons_zero, List.getElem_cons_succ, List.setIfInBounds_toArray, List.set_cons_zero, List.set_cons_succ]
  refine wpAnyH_take (i := 1) (v := (.bool true)) rfl (by kernel_rfl) (by kernel_rfl) (by kernel_rfl) (fun _ _ _ h => h) (Or.inl ⟨by rfl, fun X hS => ?_⟩) hHeld ?_
  · obtain ⟨⟨t0, t1, t2⟩, c0, c1, c2⟩ := NnS.all hS
    go_simp
  try simp only [Act.put, List.getElem_toArray, List.getElem_cons_zero, List.getElem_cons_succ, List.setIfInBounds_toArray, List.set_cons_zero, List.set_cons_succ]
  refine wpAnyH_take (i := 2) (v := (.bool true)) rfl (by kernel_rfl) (by kernel_rfl) (by kernel_rfl) (fun _ _ _ h => h) (Or.inl ⟨by rfl, fun X hS => ?_⟩) hHeld ?_
  · obtain ⟨⟨t0, t1, t2⟩, c0, c1, c2⟩ := NnS.all hS
    go_simp
  try simp only [Act.put, List.getElem_toArray, List.getElem_cons_zero, List.getElem_cons_succ, List.setIfInBounds_toArray, List.set_cons_zero, List.set_cons_succ]
  refine wpAnyH_take (i := 3) (v := (.bool true)) rfl (by kernel_rfl) (by kernel_rfl) (by kernel_rfl) (fun _ _ _ h => h) (Or.inl ⟨by rfl, fun X hS => ?_⟩) hHeld ?_
  · obtain ⟨⟨t0, t1, t2⟩, c0, c1, c2⟩ := NnS.all hS
    go_simp
  try simp only [Act.put, List.getElem_toArray, List.getElem_cons_zero, List.getElem_cons_succ, List.setIfInBounds_toArray, List.set_cons_zero, List.set_cons_succ]
  refine wpAnyH_take (i := 4) (v := (.bool true)) rfl (by kernel_rfl) (by kernel_rfl) (by kernel_rfl) (fun _ _ _ h => h) (Or.inl ⟨by rfl, fun X hS => ?_⟩) hHeld ?_
  · obtain ⟨⟨t0, t1, t2⟩, c0, c1, c2⟩ := NnS.all hS
    go_simp
  try simp only [Act.put, List.getElem_toArray, List.getElem_cons_zero, List.getElem_cons_succ, List.setIfInBounds_toArray, List.set_cons_zero, List.set_cons_succ]
  refine wpAnyH_take (i := 5) (v := (.int .i64 1)) rfl (by kernel_rfl) (by kernel_rfl) (by kernel_rfl) (fun _ _ _ h => h) (Or.inl ⟨by rfl, fun X hS => ?_⟩) hHeld ?_
  · obtain ⟨⟨t0, t1, t2⟩, c0, c1, c2⟩ := NnS.all hS
    go_simp
  try simp only [Act.put, List.getElem_toArray, List.getElem_cons_zero, List.getElem_cons_succ, List.setIfInBounds_toArray, List.set_cons_zero, List.set_cons_succ]
  refine wpAnyH_take (i := 6) (v := (.bool true)) rfl (by kernel_rfl) (by kernel_rfl) (by kernel_rfl) (fun _ _ _ h => h) (Or.inl ⟨by rfl, fun X hS => ?_⟩) hHeld ?_
  · obtain ⟨⟨t0, t1, t2⟩, c0, c1, c2⟩ := NnS.all hS
    go_simp
  try simp only [Act.put, List.getElem_toArray, List.getElem_cons_zero, List.getElem_cons_succ, List.setIfInBounds_toArray, List.set_cons_zero, List.set_cons_succ]
  refine wpAnyH_take (i := 7) (v := (.bool true)) rfl (by kernel_rfl) (by kernel_rfl) (by kernel_rfl) (fun _ _ _ h => h) (Or.inl ⟨by rfl, fun X hS => ?_⟩) hHeld ?_
  · obtain ⟨⟨t0, t1, t2⟩, c0, c1, c2⟩ := NnS.all hS
    go_simp
  try simp only [Act.put, List.getElem_toArray, List.getElem_cons_zero, List.getElem_cons_succ, List.setIfInBounds_toArray, List.set_cons_zero, List.set_cons_succ]
  refine wpAnyH_take (i := 8) (v := (.bool true)) rfl (by kernel_rfl) (by kernel_rfl) (by kernel_rfl) (fun _ _ _ h => h) (Or.inl ⟨by rfl, fun X hS => ?_⟩) hHeld ?_
  · obtain ⟨⟨t0, t1, t2⟩, c0, c1, c2⟩ := NnS.all hS
    go_simp
  try simp only [Act.put, List.getElem_toArray, List.getElem_cons_zero, List.getElem_cons_succ, List.setIfInBounds_toArray, List.set_cons_zero, List.set_cons_succ]
  refine wpAnyH_take (i := 9) (v := (.int .i64 1)) rfl (by kernel_rfl) (by kernel_rfl) (by kernel_rfl) (fun _ _ _ h => h) (Or.inl ⟨by rfl, fun X hS => ?_⟩) hHeld ?_
  · obtain ⟨⟨t0, t1, t2⟩, c0, c1, c2⟩ := NnS.all hS
    go_simp
  try simp only [Act.put, List.getElem_toArray, List.getElem_cons_zero, List.getElem_cons_succ, List.setIfInBounds_toArray, List.set_cons_zero, List.set_cons_succ]
  refine wpAnyH_take (i := 10) (v := (.bool true)) rfl (by kernel_rfl) (by kernel_rfl) (by kernel_rfl) (fun _ _ _ h => h) (Or.inl ⟨by rfl, fun X hS => ?_⟩) hHeld ?_
  · obtain ⟨⟨t0, t1, t2⟩, c0, c1, c2⟩ := NnS.all hS
    go_simp
  try simp only [Act.put, List.getElem_toArray, List.getElem_cons_zero, List.getElem_cons_succ, List.setIfInBounds_toArray, List.set_cons_zero, List.set_cons_succ]
  refine wpAnyH_take (i := 11) (v := (.bool true)) rfl (by kernel_rfl) (by kernel_rfl) (by kernel_rfl) (fun _ _ _ h => h) (Or.inl ⟨by rfl, fun X hS => ?_⟩) hHeld ?_
  · obtain ⟨⟨t0, t1, t2⟩, c0, c1, c2⟩ := NnS.all hS
    go_simp
  try simp only [Act.put, List.getElem_toArray, List.getElem_cons_zero, List.getElem_cons_succ, List.setIfInBounds_toArray, List.set_cons_zero, List.set_cons_succ]
  refine wpAnyH_take (i := 12) (v := (.bool true)) rfl (by kernel_rfl) (by kernel_rfl) (by kernel_rfl) (fun _ _ _ h => h) (Or.inl ⟨by rfl, fun X hS => ?_⟩) hHeld ?_
  · obtain ⟨⟨t0, t1, t2⟩, c0, c1, c2⟩ := NnS.all hS
    go_simp
  try simp only [Act.put, List.getElem_toArray, List.getElem_cons_zero, List.getElem_cons_succ, List.setIfInBounds_toArray, List.set_cons_zero, List.set_cons_succ]
  refine wpAnyH_take (i := 13) (v := (zvV)) rfl (by kernel_rfl) (by kernel_rfl) (by kernel_rfl) (fun _ _ _ h => h) (Or.inl ⟨by rfl, fun X hS => ?_⟩) hHeld ?_
  · obtain ⟨⟨t0, t1, t2⟩, c0, c1, c2⟩ := NnS.all hS
    go_simp
  try simp only [Act.put, List.getElem_toArray, List.getElem_cons_zero, List.getElem_cons_succ, List.setIfInBounds_toArray, List.set_cons_zero, List.set_cons_succ]
  refine wpAnyH_ready (rs := [14]) (by kernel_rfl) (by simp) (AllReadyH.cons rfl (fun K1 hK1 => ?_) AllReadyH.nil)
  go_simp
  have HH := Lib.hid hHeld
  clear hHeld
  refine (hMove_nil 256 0 _).mono ?_
  rintro e x2 ⟨rfl, hb⟩
  have HN11 := Lib.hid (HN10.out.below hb)
  have hrb := HN11.out
  clear HH hb HN10
  refine hK1.out _ _ hrb (fun hHeld => ?_)
  clear hK1
  try simp only [Act.put, List.getElem_toArray, List.getElem_cons_zero, List.getElem_cons_succ, List.setIfInBounds_toArray, List.set_cons_zero, List.set_cons_succ]
  refine wpAnyH_take (i := 15) (v := (.bool true)) rfl (by kernel_rfl) (by kernel_rfl) (by kernel_rfl) (fun _ _ _ h => h) (Or.inl ⟨by rfl, fun X hS => ?_⟩) hHeld ?_
  · obtain ⟨⟨t0, t1, t2⟩, c0, c1, c2⟩ := NnS.all hS
    go_simp
  try simp only [Act.put, List.getElem_toArray, List.getElem_cons_zero, List.getElem_cons_succ, List.setIfInBounds_toArray, List.set_cons_zero, List.set_cons_succ]
  refine wpAnyH_take (i := 16) (v := (.bool true)) rfl (by kernel_rfl) (by kernel_rfl) (by kernel_rfl) (fun _ _ _ h => h) (Or.inl ⟨by rfl, fun X hS => ?_⟩) hHeld ?_
  · obtain ⟨⟨t0, t1, t2⟩, c0, c1, c2⟩ := NnS.all hS
    go_simp
  try simp only [Act.put, List.getElem_toArray, List.getElem_cons_zero, List.getElem_cons_succ, List.setIfInBounds_toArray, List.set_cons_zero, List.set_cons_succ]
  refine wpAnyH_take (i := 17) (v := (.bool true)) rfl (by kernel_rfl) (by kernel_rfl) (by kernel_rfl) (fun _ _ _ h => h) (Or.inl ⟨by rfl, fun X hS => ?_⟩) hHeld ?_
  · obtain ⟨⟨t0, t1, t2⟩, c0, c1, c2⟩ := NnS.all hS
    go_simp
  try simp only [Act.put, List.getElem_toArray, List.getElem_cons_zero, List.getElem_cons_succ, List.setIfInBounds_toArray, List.set_cons_zero, List.set_cons_succ]
  refine wpAnyH_take (i := 18) (v := (zvV)) rfl (by kernel_rfl) (by kernel_rfl) (by kernel_rfl) (fun _ _ _ h => h) (Or.inl ⟨by rfl, fun X hS => ?_⟩) hHeld ?_
  · obtain ⟨⟨t0, t1, t2⟩, c0, c1, c2⟩ := NnS.all hS
    go_simp
  try simp only [Act.put, List.getElem_toArray, List.getElem_cons_zero, List.getElem_cons_succ, List.setIfInBounds_toArray, List.set_cons_zero, List.set_cons_succ]
  refine wpAnyH_ready (rs := [19]) (by kernel_rfl) (by simp) (AllReadyH.cons rfl (fun K1 hK1 => ?_) AllReadyH.nil)
  go_simp
  have HH := Lib.hid hHeld
  clear hHeld
  refine (hDrop_nil 256 _).mono ?_
  rintro e x3 ⟨rfl, hb⟩
  have HN12 := Lib.hid (HN11.out.below hb)
  have hrb := HN12.out
  clear HH hb HN11
  refine hK1.out _ _ hrb (fun hHeld => ?_)
  clear hK1
  try simp only [Act.put, List.getElem_toArray, List.getElem_cons_zero, List.getElem_cons_succ, List.setIfInBounds_toArray, List.set_cons_zero, List.set_cons_succ]
  refine wpAnyH_take (i := 20) (v := (.bool true)) rfl (by kernel_rfl) (by kernel_rfl) (by kernel_rfl) (fun _ _ _ h => h) (Or.inl ⟨by rfl, fun X hS => ?_⟩) hHeld ?_
  · obtain ⟨⟨t0, t1, t2⟩, c0, c1, c2⟩ := NnS.all hS
    go_simp
  try simp only [Act.put, List.getElem_toArray, List.getElem_cons_zero, List.getElem_cons_succ, List.setIfInBounds_toArray, List.set_cons_zero, List.set_cons_succ]
  refine wpAnyH_take (i := 21) (v := (.bool true)) rfl (by kernel_rfl) (by kernel_rfl) (by kernel_rfl) (fun _ _ _ h => h) (Or.inl ⟨by rfl, fun X hS => ?_⟩) hHeld ?_
  · obtain ⟨⟨t0, t1, t2⟩, c0, c1, c2⟩ := NnS.all hS
    go_simp
  try simp only [Act.put, List.getElem_toArray, List.getElem_cons_zero, List.getElem_cons_succ, List.setIfInBounds_toArray, List.set_cons_zero, List.set_cons_succ]
  refine wpAnyH_take (i := 22) (v := (.bool true)) rfl (by kernel_rfl) (by kernel_rfl) (by kernel_rfl) (fun _ _ _ h => h) (Or.inl ⟨by rfl, fun X hS => ?_⟩) hHeld ?_
  · obtain ⟨⟨t0, t1, t2⟩, c0, c1, c2⟩ := NnS.all hS
    go_simp
  try simp only [Act.put, List.getElem_toArray, List.getElem_cons_zero, List.getElem_cons_succ, List.setIfInBounds_toArray, List.set_cons_zero, List.set_cons_succ]
  refine wpAnyH_take (i := 23) (v := (zvV)) rfl (by kernel_rfl) (by kernel_rfl) (by kernel_rfl) (fun _ _ _ h => h) (Or.inl ⟨by rfl, fun X hS => ?_⟩) hHeld ?_
  · obtain ⟨⟨t0, t1, t2⟩, c0, c1, c2⟩ := NnS.all hS
    go_simp
  try simp only [Act.put, List.getElem_toArray, List.getElem_cons_zero, List.getElem_cons_succ, List.setIfInBounds_toArray, List.set_cons_zero, List.set_cons_succ]
  refine wpAnyH_take (i := 26) (v := (zvV)) rfl (by kernel_rfl) (by kernel_rfl) (by kernel_rfl) (fun _ _ _ h => h) (Or.inl ⟨by rfl, fun X hS => ?_⟩) hHeld ?_
  · obtain ⟨⟨t0, t1, t2⟩, c0, c1, c2⟩ := NnS.all hS
    go_simp
  try simp only [Act.put, List.getElem_toArray, List.getElem_cons_zero, List.getElem_cons_succ, List.setIfInBounds_toArray, List.set_cons_zero, List.set_cons_succ]
  refine wpAnyH_take (i := 29) (v := (vwV A 16 15)) rfl (by kernel_rfl) (by kernel_rfl) (by kernel_rfl) (fun _ _ _ h => h) (Or.inl ⟨by rfl, fun X hS => ?_⟩) hHeld ?_
  · obtain ⟨⟨t0, t1, t2⟩, c0, c1, c2⟩ := NnS.all hS
    go_simp
  try simp only [Act.put, List.getElem_toArray, List.getElem_cons_zero, List.getElem_cons_succ, List.setIfInBounds_toArray, List.set_cons_zero, List.set_cons_succ]
  refine wpAnyH_ready (rs := [24]) (by kernel_rfl) (by simp) (AllReadyH.cons rfl (fun K1 hK1 => ?_) AllReadyH.nil)
  go_simp
  have HH := Lib.hid hHeld
  clear hHeld
  refine (hAll_nil _).mono ?_
  rintro e x4 ⟨rfl, hb⟩
  have HN13 := Lib.hid (HN12.out.below hb)
  have hrb := HN13.out
  clear HH hb HN12
  refine hK1.out _ _ hrb (fun hHeld => ?_)
  clear hK1
  try simp only [Act.put, List.getElem_toArray, List.getElem_cons_zero, List.getElem_cons_succ, List.setIfInBounds_toArray, List.set_cons_zero, List.set_cons_succ]
  refine wpAnyH_take (i := 25) (v := (.int .i64 0)) rfl (by kernel_rfl) (by kernel_rfl) (by kernel_rfl) (fun _ _ _ h => h) (Or.inl ⟨by rfl, fun X hS => ?_⟩) hHeld ?_
  · obtain ⟨⟨t0, t1, t2⟩, c0, c1, c2⟩ := NnS.all hS
    go_simp
  try simp only [Act.put, List.getElem_toArray, List.getElem_cons_zero, List.getElem_cons_succ, List.setIfInBounds_toArray, List.set_cons_zero, List.set_cons_succ]
  refine wpAnyH_ready (rs := [27]) (by kernel_rfl) (by simp) (AllReadyH.cons rfl (fun K1 hK1 => ?_) AllReadyH.nil)
  go_simp
  have HH := Lib.hid hHeld
  clear hHeld
  refine (HL0.out _).mono ?_
  rintro e x5 ⟨rfl, hb⟩
  have HN14 := Lib.hid (HN13.out.below hb)
  have hrb := HN14.out
  clear HH hb HN13
  refine hK1.out _ _ hrb (fun hHeld => ?_)
  clear hK1
  try simp only [Act.put, List.getElem_toArray, List.getElem_cons_zero, List.getElem_cons_succ, List.setIfInBounds_toArray, List.set_cons_zero, List.set_cons_succ]
  refine wpAnyH_take (i := 28) (v := (.int .i64 0)) rfl (by kernel_rfl) (by kernel_rfl) (by kernel_rfl) (fun _ _ _ h => h) (Or.inl ⟨by rfl, fun X hS => ?_⟩) hHeld ?_
  · obtain ⟨⟨t0, t1, t2⟩, c0, c1, c2⟩ := NnS.all hS
    have hw0 : IntKind.i64.wrap 0 = 0 := by decide
    go_simp
  try simp only [Act.put, List.getElem_toArray, List.getElem_cons_zero, List.getElem_cons_succ, List.setIfInBounds_toArray, List.set_cons_zero, List.set_cons_succ]
  refine wpAnyH_ready (rs := [30]) (by kernel_rfl) (by simp) (AllReadyH.cons rfl (fun K1 hK1 => ?_) AllReadyH.nil)
  go_simp
  have HH := Lib.hid hHeld
  clear hHeld
  refine (HL15.out _).mono ?_
  rintro e x6 ⟨rfl, hb⟩
  have HN15 := Lib.hid (HN14.out.below hb)
  have hrb := HN15.out
  clear HH hb HN14
  refine hK1.out _ _ hrb (fun hHeld => ?_)
  clear hK1
  try simp only [Act.put, List.getElem_toArray, List.getElem_cons_zero, List.getElem_cons_succ, List.setIfInBounds_toArray, List.set_cons_zero, List.set_cons_succ]
  refine wpAnyH_take (i := 31) (v := (.int .i64 0)) rfl (by kernel_rfl) (by kernel_rfl) (by kernel_rfl) (fun _ _ _ h => h) (Or.inl ⟨by rfl, fun X hS => ?_⟩) hHeld ?_
  · obtain ⟨⟨t0, t1, t2⟩, c0, c1, c2⟩ := NnS.all hS
    have hw0 : IntKind.i64.wrap 0 = 0 := by decide
    go_simp
  try simp only [Act.put, List.getElem_toArray, List.getElem_cons_zero, List.getElem_cons_succ, List.setIfInBounds_toArray, List.set_cons_zero, List.set_cons_succ]
  refine wpAnyH_take (i := 32) (v := (.bool true)) rfl (by kernel_rfl) (by kernel_rfl) (by kernel_rfl) (fun _ _ _ h => h) (Or.inl ⟨by rfl, fun X hS => ?_⟩) hHeld ?_
  · obtain ⟨⟨t0, t1, t2⟩, c0, c1, c2⟩ := NnS.all hS
    go_simp
  try simp only [Act.put, List.getElem_toArray, List.getElem_cons_zero, List.getElem_cons_succ, List.setIfInBounds_toArray, List.set_cons_zero, List.set_cons_succ]
  refine wpAnyH_take (i := 33) (v := (.bool true)) rfl (by kernel_rfl) (by kernel_rfl) (by kernel_rfl) (fun _ _ _ h => h) (Or.inl ⟨by rfl, fun X hS => ?_⟩) hHeld ?_
  · obtain ⟨⟨t0, t1, t2⟩, c0, c1, c2⟩ := NnS.all hS
    go_simp
  try simp only [Act.put, List.getElem_toArray, List.getElem_cons_zero, List.getElem_cons_succ, List.setIfInBounds_toArray, List.set_cons_zero, List.set_cons_succ]
  refine wpAnyH_take (i := 34) (v := (.bool true)) rfl (by kernel_rfl) (by kernel_rfl) (by kernel_rfl) (fun _ _ _ h => h) (Or.inl ⟨by rfl, fun X hS => ?_⟩) hHeld ?_
  · obtain ⟨⟨t0, t1, t2⟩, c0, c1, c2⟩ := NnS.all hS
    go_simp
  try simp only [Act.put, List.getElem_toArray, List.getElem_cons_zero, List.getElem_cons_succ, List.setIfInBounds_toArray, List.set_cons_zero, List.set_cons_succ]
  refine wpAnyH_take (i := 35) (v := (.int .i64 10)) rfl (by kernel_rfl) (by kernel_rfl) (by kernel_rfl) (fun _ _ _ h => h) (Or.inl ⟨by rfl, fun X hS => ?_⟩) hHeld ?_
  · obtain ⟨⟨t0, t1, t2⟩, c0, c1, c2⟩ := NnS.all hS
    go_simp
  try simp only [Act.put, List.getElem_toArray, List.getElem_cons_zero, List.getElem_cons_succ, List.setIfInBounds_toArray, List.set_cons_zero, List.set_cons_succ]
  refine wpAnyH_take (i := 36) (v := (.bool true)) rfl (by kernel_rfl) (by kernel_rfl) (by kernel_rfl) (fun _ _ _ h => h) (Or.inl ⟨by rfl, fun X hS => ?_⟩) hHeld ?_
  · obtain ⟨⟨t0, t1, t2⟩, c0, c1, c2⟩ := NnS.all hS
    go_simp
  try simp only [Act.put, List.getElem_toArray, List.getElem_cons_zero, List.getElem_cons_succ, List.setIfInBounds_toArray, List.set_cons_zero, List.set_cons_succ]
  refine wpAnyH_take (i := 37) (v := (.bool true)) rfl (by kernel_rfl) (by kernel_rfl) (by kernel_rfl) (fun _ _ _ h => h) (Or.inl ⟨by rfl, fun X hS => ?_⟩) hHeld ?_
  · obtain ⟨⟨t0, t1, t2⟩, c0, c1, c2⟩ := NnS.all hS
    go_simp
  try simp only [Act.put, List.getElem_toArray, List.getElem_cons_zero, List.getElem_cons_succ, List.setIfInBounds_toArray, List.set_cons_zero, List.set_cons_succ]
  refine wpAnyH_take (i := 38) (v := (.bool true)) rfl (by kernel_rfl) (by kernel_rfl) (by kernel_rfl) (fun _ _ _ h => h) (Or.inl ⟨by rfl, fun X hS => ?_⟩) hHeld ?_
  · obtain ⟨⟨t0, t1, t2⟩, c0, c1, c2⟩ := NnS.all hS
    go_simp
  try simp only [Act.put, List.getElem_toArray, List.getElem_cons_zero, List.getElem_cons_succ, List.setIfInBounds_toArray, List.set_cons_zero, List.set_cons_succ]
  refine wpAnyH_take (i := 39) (v := (.int .i64 6)) rfl (by kernel_rfl) (by kernel_rfl) (by kernel_rfl) (fun _ _ _ h => h) (Or.inl ⟨by rfl, fun X hS => ?_⟩) hHeld ?_
  · obtain ⟨⟨t0, t1, t2⟩, c0, c1, c2⟩ := NnS.all hS
    go_simp
  try simp only [Act.put, List.getElem_toArray, List.getElem_cons_zero, List.getElem_cons_succ, List.setIfInBounds_toArray, List.set_cons_zero, List.set_cons_succ]
  refine wpAnyH_take (i := 40) (v := (.bool true)) rfl (by kernel_rfl) (by kernel_rfl) (by kernel_rfl) (fun _ _ _ h => h) (Or.inl ⟨by rfl, fun X hS => ?_⟩) hHeld ?_
  · obtain ⟨⟨t0, t1, t2⟩, c0, c1, c2⟩ := NnS.all hS
    go_simp
  try simp only [Act.put, List.getElem_toArray, List.getElem_cons_zero, List.getElem_cons_succ, List.setIfInBounds_toArray, List.set_cons_zero, List.set_cons_succ]
  refine wpAnyH_take (i := 41) (v := (.bool true)) rfl (by kernel_rfl) (by kernel_rfl) (by kernel_rfl) (fun _ _ _ h => h) (Or.inl ⟨by rfl, fun X hS => ?_⟩) hHeld ?_
  · obtain ⟨⟨t0, t1, t2⟩, c0, c1, c2⟩ := NnS.all hS
    go_simp
  try simp only [Act.put, List.getElem_toArray, List.getElem_cons_zero, List.getElem_cons_succ, List.setIfInBounds_toArray, List.set_cons_zero, List.set_cons_succ]
  refine wpAnyH_take (i := 42) (v := (.bool true)) rfl (by kernel_rfl) (by kernel_rfl) (by kernel_rfl) (fun _ _ _ h => h) (Or.inl ⟨by rfl, fun X hS => ?_⟩) hHeld ?_
  · obtain ⟨⟨t0, t1, t2⟩, c0, c1, c2⟩ := NnS.all hS
    go_simp
  try simp only [Act.put, List.getElem_toArray, List.getElem_cons_zero, List.getElem_cons_succ, List.setIfInBounds_toArray, List.set_cons_zero, List.set_cons_succ]
  refine wpAnyH_take (i := 43) (v := (.int .i64 1)) rfl (by kernel_rfl) (by kernel_rfl) (by kernel_rfl) (fun _ _ _ h => h) (Or.inl ⟨by rfl, fun X hS => ?_⟩) hHeld ?_
  · obtain ⟨⟨t0, t1, t2⟩, c0, c1, c2⟩ := NnS.all hS
    go_simp
  try simp only [Act.put, List.getElem_toArray, List.getElem_cons_zero, List.getElem_cons_succ, List.setIfInBounds_toArray, List.set_cons_zero, List.set_cons_succ]
  refine wpAnyH_take (i := 44) (v := (.bool true)) rfl (by kernel_rfl) (by kernel_rfl) (by kernel_rfl) (fun _ _ _ h => h) (Or.inl ⟨by rfl, fun X hS => ?_⟩) hHeld ?_
  · obtain ⟨⟨t0, t1, t2⟩, c0, c1, c2⟩ := NnS.all hS
    go_simp
  try simp only [Act.put, List.getElem_toArray, List.getElem_cons_zero, List.getElem_cons_succ, List.setIfInBounds_toArray, List.set_cons_zero, List.set_cons_succ]
  refine wpAnyH_take (i := 45) (v := (.bool true)) rfl (by kernel_rfl) (by kernel_rfl) (by kernel_rfl) (fun _ _ _ h => h) (Or.inl ⟨by rfl, fun X hS => ?_⟩) hHeld ?_
  · obtain ⟨⟨t0, t1, t2⟩, c0, c1, c2⟩ := NnS.all hS
    go_simp
  try simp only [Act.put, List.getElem_toArray, List.getElem_cons_zero, List.getElem_cons_succ, List.setIfInBounds_toArray, List.set_cons_zero, List.set_cons_succ]
  refine wpAnyH_take (i := 46) (v := (.bool true)) rfl (by kernel_rfl) (by kernel_rfl) (by kernel_rfl) (fun _ _ _ h => h) (Or.inl ⟨by rfl, fun X hS => ?_⟩) hHeld ?_
  · obtain ⟨⟨t0, t1, t2⟩, c0, c1, c2⟩ := NnS.all hS
    go_simp
  try simp only [Act.put, List.getElem_toArray, List.getElem_cons_zero, List.getElem_cons_succ, List.setIfInBounds_toArray, List.set_cons_zero, List.set_cons_succ]
  refine wpAnyH_take (i := 47) (v := (.int .i64 10)) rfl (by kernel_rfl) (by kernel_rfl) (by kernel_rfl) (fun _ _ _ h => h) (Or.inl ⟨by rfl, fun X hS => ?_⟩) hHeld ?_
  · obtain ⟨⟨t0, t1, t2⟩, c0, c1, c2⟩ := NnS.all hS
    go_simp
  try simp only [Act.put, List.getElem_toArray, List.getElem_cons_zero, List.getElem_cons_succ, List.setIfInBounds_toArray, List.set_cons_zero, List.set_cons_succ]
  refine wpAnyH_take (i := 48) (v := (.bool true)) rfl (by kernel_rfl) (by kernel_rfl) (by kernel_rfl) (fun _ _ _ h => h) (Or.inl ⟨by rfl, fun X hS => ?_⟩) hHeld ?_
  · obtain ⟨⟨t0, t1, t2⟩, c0, c1, c2⟩ := NnS.all hS
    go_simp
  try simp only [Act.put, List.getElem_toArray, List.getElem_cons_zero, List.getElem_cons_succ, List.setIfInBounds_toArray, List.set_cons_zero, List.set_cons_succ]
  refine wpAnyH_take (i := 49) (v := (.bool true)) rfl (by kernel_rfl) (by kernel_rfl) (by kernel_rfl) (fun _ _ _ h => h) (Or.inl ⟨by rfl, fun X hS => ?_⟩) hHeld ?_
  · obtain ⟨⟨t0, t1, t2⟩, c0, c1, c2⟩ := NnS.all hS
    go_simp
  try simp only [Act.put, List.getElem_toArray, List.getElem_cons_zero, List.getElem_cons_succ, List.setIfInBounds_toArray, List.set_cons_zero, List.set_cons_succ]
  refine wpAnyH_take (i := 50) (v := (.bool true)) rfl (by kernel_rfl) (by kernel_rfl) (by kernel_rfl) (fun _ _ _ h => h) (Or.inl ⟨by rfl, fun X hS => ?_⟩) hHeld ?_
  · obtain ⟨⟨t0, t1, t2⟩, c0, c1, c2⟩ := NnS.all hS
    go_simp
  try simp only [Act.put, List.getElem_toArray, List.getElem_cons_zero, List.getElem_cons_succ, List.setIfInBounds_toArray, List.set_cons_zero, List.set_cons_succ]
  refine wpAnyH_done (by kernel_rfl) ?_ _
  clear hHeld

  go_wp2_with fail
  go_ret
  exact ⟨rfl, HN15.out.v.bs.bel⟩
end Go.Proofs.Ytllghngjnhbmaaa.Bt
