/- The walk of ViewParts. -/
import Derived.Test.YtfappdiipflpfaaVwFill
import Derived.Test.YtfappdiipflpfaaArFull
import Derived.Test.YtfappdiipflpfaaShRep
import Derived.Deep.DeepCutAuto
namespace Go.Proofs.Ytfappdiipflpfaa.Bt
open Go Go.RowKit Go.Shelf
set_option linter.unusedVariables false

theorem rep7 : ∀ k : Nat, Lib.repeatL [7] k = List.replicate k (7 : UInt8)
  | 0 => rfl
  | k + 1 => by rw [show Lib.repeatL [7] (k + 1) = [7] ++ Lib.repeatL [7] k from rfl, rep7 k]; rfl
theorem rep_any (k : Nat) (hk : k ≤ 16384) (w : World) : Calls Try.prog 53 #[.string ⟨#[7]⟩, .int .i64 k] w fun e w' => e = .returned (.string (strL (List.replicate k 7))) ∧ Below w.heap.size w w' := by
  have h := Try.strings_Repeat ⟨#[7]⟩ k w (by omega) (by show 1 * k ≤ _; omega)
  have e : (Lib.repeatL (⟨#[7]⟩ : ByteArray).data.toList k) = List.replicate k 7 := rep7 k
  rw [e] at h
  exact h
theorem fill_get (m : Nat → UInt8) (a k : Nat) (y : UInt8) : getM (putM m a (List.replicate k y)) a k = List.replicate k y := by
  have h := getM_putM m a (List.replicate k y)
  rw [List.length_replicate] at h
  exact h
theorem alloc_vc (w : World) (pa : Option Addr) (va vs : Nat) : VC w.heap.size pa va vs (w.alloc (.cells #[.pointer pa, .int .i64 (va : Int), .int .i64 (vs : Int)] 53)) := heap_new _ _
theorem below_alloc (w : World) (o : Obj) : Below w.heap.size w (w.alloc o) := (Below.refl _ _).alloc (Nat.le_refl _) _
def PV (U V : Nat) (pa : Option Addr) (za ys : Nat) (w x : World) : Prop := VC U pa za ys x ∧ VC V pa za ys x ∧ Below w.heap.size w x
theorem PV.below {U V : Nat} {pa : Option Addr} {za ys : Nat} {w x y : World} (h : PV U V pa za ys w x) (hb : Below x.heap.size x y) : PV U V pa za ys w y := ⟨h.1.below hb, h.2.1.below hb, h.2.2.trans (hb.mono h.2.2.size)⟩
theorem PV.all {U V : Nat} {pa : Option Addr} {za ys : Nat} {w x : World} (h : PV U V pa za ys w x) :
    x.cell? ⟨U, 0, none⟩ = some (.pointer pa) ∧ x.cell? ⟨U, 1, none⟩ = some (.int .i64 (za : Int)) ∧ x.cell? ⟨U, 2, none⟩ = some (.int .i64 (ys : Int)) ∧ x.cell? ⟨V, 0, none⟩ = some (.pointer pa) ∧ x.cell? ⟨V, 1, none⟩ = some (.int .i64 (za : Int)) ∧ x.cell? ⟨V, 2, none⟩ = some (.int .i64 (ys : Int)) ∧ PV U V pa za ys w x :=
  ⟨(cell_blk h.1 0).1, (cell_blk h.1 1).1, (cell_blk h.1 2).1, (cell_blk h.2.1 0).1, (cell_blk h.2.1 1).1, (cell_blk h.2.1 2).1, h⟩
set_option maxRecDepth 100000 in
set_option maxHeartbeats 4000000 in
theorem parts_in (a0 a1 a2 a3 a4 a5 : Int) (s : ByteArray) (w : World) (b0 : a0 ≤ 9223372036854775807) (b2 : a2 ≤ 9223372036854775807) (b4 : a4 ≤ 9223372036854775807) (hl : s.size ≤ 16384) :
    Calls Try.prog 10 #[.int .i64 a0, .int .i64 a1, .int .i64 a2, .int .i64 a3, .int .i64 a4, .int .i64 a5, .string s] w (TrueAt w) := by
  have l4 : Hid (lenN 4 = 4) := Lib.hid (by decide)
  have e4 : Hid (commitE (newS 4) 0 4 = 0) := Lib.hid (by decide)
  have s4 : Hid (commitS (newS 4) 0 4 = fullS 4 (fun _ => 0)) := Lib.hid (full_new 4 4 (by decide) (by decide) (by decide))
  have TE : Hid (∀ a k, thereE 4 [0, 4] a k = if 0 ≤ a ∧ 0 ≤ k ∧ a + k ≤ 16384 then 0 else 3) := Lib.hid fun a k => thereE_full (by omega) (by omega) a k
  go_enter Try.func10, Try.ntmps10
  go_wp2_with fail
  refine (awake4_calls _).mono ?_
  rintro e w1 ⟨rfl, hb1⟩
  go_wp2_with fail
  refine (arena_new 4 _).mono ?_
  rintro e w2 ⟨A, P, rfl, hA, hP, hx, hb2⟩
  rw [l4.out] at hx
  have hn0 : ∀ i b : Nat, (List.replicate 4 (none : Option Nat))[i]? = some (some b) → w1.heap.size ≤ b := fun i b h => by
    rw [List.getElem?_replicate] at h; split at h <;> cases h
  have HX2 := Lib.hid hx
  clear hx
  go_wp2_with fail
  refine (commit_any HX2.out 0 4 (by omega)).mono ?_
  rintro e w3 ⟨rfl, ht⟩
  rw [e4.out]; rw [s4.out] at ht
  obtain ⟨⟨P3, ps3, p3, n3, c3, hx3, q1, q2, q3⟩, hb3⟩ := ht.at hb2.size hA hP hn0
  have HX3 := Lib.hid hx3
  have HQ3 := Lib.hid (And.intro q1 (And.intro q2 q3))
  have B3 := hb1.trans ((hb2.trans hb3).mono hb1.size)
  clear hx3 hn0 ht q1 q2 q3 hb3 HX2 hA hP
  go_wp2_with fail
  refine (put_any HX3.out 0 (by omega) s (by omega)).mono ?_
  rintro e w4 ⟨rfl, ht⟩
  have hz : Hid (thereE (fullS 4 fun _ => 0).L (fullS 4 fun _ => 0).es 0 s.data.toList.length = 0) := Lib.hid (by
    show thereE 4 [0, 4] 0 _ = 0
    rw [TE.out, bytes_len, if_pos (by omega)])
  rw [hz.out]
  have hps : putS (fullS 4 fun _ => 0) 0 s.data.toList = fullS 4 (putM (fun _ => 0) 0 s.data.toList) := by
    unfold putS; rw [if_pos hz.out]; rfl
  rw [hps] at ht
  clear hps
  generalize putM (fun _ => 0) 0 s.data.toList = mm at *
  obtain ⟨⟨P4, ps4, p4, n4, c4, hx4, q1, q2, q3⟩, hb4⟩ := ht.at (B := w.heap.size) B3.size (Nat.le_trans hb1.size HQ3.out.1) (Nat.le_trans hb1.size HQ3.out.2.1) (fun i b h => Nat.le_trans hb1.size (HQ3.out.2.2 i b h))
  have HX4 := Lib.hid hx4
  have HQ4 := Lib.hid (And.intro q1 (And.intro q2 q3))
  have B4 := B3.trans hb4
  clear hx4 ht q1 q2 q3 hb4 HX3 HQ3 hz hb1 hb2 B3
  have HTE : Hid (∀ a k, thereE (fullS 4 mm).L (fullS 4 mm).es a k = if 0 ≤ a ∧ 0 ≤ k ∧ a + k ≤ 16384 then 0 else 3) := Lib.hid fun a k => TE.out a k
  go_wp2_with fail
  refine (vof_any HX4.out a0 a1 b0).mono ?_
  rintro e w5 ⟨rfl, hb5⟩
  have HX5 := Lib.hid (HX4.out.below hb5)
  have B5 := B4.trans (hb5.mono B4.size)
  rw [HTE.out]
  clear HX4 hb5 B4
  by_cases c0 : 0 ≤ a0 ∧ 0 ≤ a1 ∧ a0 + a1 ≤ 16384
  rotate_left
  · rw [if_neg c0]
    clear c0
    unfold ofV
    rw [if_neg (by decide)]
    go_wp2_with fail
    have V1 : VC w5.heap.size none 0 0 (w5.alloc (.cells #[.pointer none, .int .i64 0, .int .i64 0] 53)) := heap_new _ _
    have B6 := B5.alloc B5.size (.cells #[.pointer none, .int .i64 0, .int .i64 0] 53)
    refine (vpart_nil a2 a3 b2 _).mono ?_
    rintro e w6 ⟨rfl, hb6⟩
    have B7 := B6.trans (hb6.mono B6.size)
    clear hb6 V1 B6 B5 HX5 HQ4 HTE
    go_wp2_with fail
    have VX : VC w6.heap.size none 0 0 (w6.alloc (.cells #[.pointer none, .int .i64 0, .int .i64 0] 53)) := heap_new _ _
    have BX := B7.alloc B7.size (.cells #[.pointer none, .int .i64 0, .int .i64 0] 53)
    obtain ⟨g0, g1, g2, _⟩ := VX.all
    refine (vpart_nil a4 a5 b4 _).mono ?_
    rintro e wy ⟨rfl, hby⟩
    have BYY := BX.trans (hby.mono BX.size)
    clear g0 g1 g2 hby VX
    go_wp2_with fail
    have VY : VC wy.heap.size none 0 0 (wy.alloc (.cells #[.pointer none, .int .i64 0, .int .i64 0] 53)) := heap_new _ _
    have BY := BYY.alloc BYY.size (.cells #[.pointer none, .int .i64 0, .int .i64 0] 53)
    refine (vsize_any none 0 0 _).mono ?_
    rintro e wz ⟨rfl, hbz⟩
    have BZ := BY.trans (hbz.mono BY.size)
    go_wp2_with fail
    go_ret
    exact ⟨rfl, BZ⟩
  rw [if_pos c0]
  obtain ⟨va, rfl⟩ : ∃ va : Nat, a0 = va := ⟨a0.toNat, by omega⟩
  obtain ⟨vs, rfl⟩ : ∃ vs : Nat, a1 = vs := ⟨a1.toNat, by omega⟩
  have d0 : va + vs ≤ 16384 := by omega
  clear c0
  unfold ofV
  rw [if_pos rfl]
  go_wp2_with fail
  have V1 : VC w5.heap.size (some ⟨A, 0, none⟩) va vs (w5.alloc (.cells #[.pointer (some ⟨A, 0, none⟩), .int .i64 (va : Int), .int .i64 (vs : Int)] 53)) := heap_new _ _
  have B6 := B5.alloc B5.size (.cells #[.pointer (some ⟨A, 0, none⟩), .int .i64 (va : Int), .int .i64 (vs : Int)] 53)
  have HX6 := Lib.hid (HX5.out.below (below_alloc w5 (.cells #[.pointer (some ⟨A, 0, none⟩), .int .i64 (va : Int), .int .i64 (vs : Int)] 53)))
  obtain ⟨U1, hU1⟩ : ∃ U, w5.heap.size = U := ⟨_, rfl⟩
  obtain ⟨w6, hw6⟩ : ∃ x, w5.alloc (.cells #[.pointer (some ⟨A, 0, none⟩), .int .i64 (va : Int), .int .i64 (vs : Int)] 53) = x := ⟨_, rfl⟩
  rw [hw6] at V1 B6 HX6 ⊢
  rw [hU1] at V1 ⊢
  clear hw6 hU1 HX5
  refine (vpart_any HX6.out va vs (by omega) (by omega) a2 a3 b2).mono ?_
  rintro e w7 ⟨rfl, hb7⟩
  have B7 := B6.trans (hb7.mono B6.size)
  have HX7 := Lib.hid (HX6.out.below hb7)
  have V7 := V1.below hb7
  rw [HTE.out]
  clear HX6 hb7 V1 B5 B6
  by_cases c1 : (0 ≤ a2 ∧ 0 ≤ a3) ∧ a3 ≤ (vs : Int) - a2
  rotate_left
  · have hA : addrV va vs a2 a3 = -1 := by unfold addrV; rw [if_neg (by omega)]
    rw [hA, if_neg (by omega)]
    clear hA c1 V7 HX7 HQ4 HTE
    unfold ofV
    rw [if_neg (by decide)]
    go_wp2_with fail
    have VX : VC w7.heap.size none 0 0 (w7.alloc (.cells #[.pointer none, .int .i64 0, .int .i64 0] 53)) := heap_new _ _
    have BX := B7.alloc B7.size (.cells #[.pointer none, .int .i64 0, .int .i64 0] 53)
    obtain ⟨g0, g1, g2, _⟩ := VX.all
    refine (vpart_nil a4 a5 b4 _).mono ?_
    rintro e wy ⟨rfl, hby⟩
    have BYY := BX.trans (hby.mono BX.size)
    clear g0 g1 g2 hby VX
    go_wp2_with fail
    have VY : VC wy.heap.size none 0 0 (wy.alloc (.cells #[.pointer none, .int .i64 0, .int .i64 0] 53)) := heap_new _ _
    have BY := BYY.alloc BYY.size (.cells #[.pointer none, .int .i64 0, .int .i64 0] 53)
    refine (vsize_any none 0 0 _).mono ?_
    rintro e wz ⟨rfl, hbz⟩
    have BZ := BY.trans (hbz.mono BY.size)
    go_wp2_with fail
    go_ret
    exact ⟨rfl, BZ⟩
  have hA : addrV va vs a2 a3 = (va : Int) + a2 := by unfold addrV; rw [if_pos (by omega)]
  rw [hA, if_pos (by omega)]
  obtain ⟨xa, rfl⟩ : ∃ xa : Nat, a2 = xa := ⟨a2.toNat, by omega⟩
  obtain ⟨xs, rfl⟩ : ∃ xs : Nat, a3 = xs := ⟨a3.toNat, by omega⟩
  have d1 : xa + xs ≤ vs := by omega
  clear c1 hA
  unfold ofV
  rw [if_pos rfl, show (va : Int) + xa = ((va + xa : Nat) : Int) from by omega]
  obtain ⟨ya, hya⟩ : ∃ ya, va + xa = ya := ⟨_, rfl⟩
  rw [hya]
  go_wp2_with fail
  have VX8 : VC w7.heap.size (some ⟨A, 0, none⟩) ya xs (w7.alloc (.cells #[.pointer (some ⟨A, 0, none⟩), .int .i64 (ya : Int), .int .i64 (xs : Int)] 53)) := heap_new _ _
  have V8 := V7.below (below_alloc w7 (.cells #[.pointer (some ⟨A, 0, none⟩), .int .i64 (ya : Int), .int .i64 (xs : Int)] 53))
  have B8 := B7.alloc B7.size (.cells #[.pointer (some ⟨A, 0, none⟩), .int .i64 (ya : Int), .int .i64 (xs : Int)] 53)
  have HX8 := Lib.hid (HX7.out.below (below_alloc w7 (.cells #[.pointer (some ⟨A, 0, none⟩), .int .i64 (ya : Int), .int .i64 (xs : Int)] 53)))
  obtain ⟨U2, hU2⟩ : ∃ U, w7.heap.size = U := ⟨_, rfl⟩
  obtain ⟨w8, hw8⟩ : ∃ x, w7.alloc (.cells #[.pointer (some ⟨A, 0, none⟩), .int .i64 (ya : Int), .int .i64 (xs : Int)] 53) = x := ⟨_, rfl⟩
  rw [hw8] at VX8 V8 B8 HX8 ⊢
  rw [hU2] at VX8 ⊢
  clear hw8 hU2 HX7 B7 V7
  refine (vpart_any HX8.out ya xs (by omega) (by omega) a4 a5 b4).mono ?_
  rintro e w9 ⟨rfl, hb9⟩
  have B9 := B8.trans (hb9.mono B8.size)
  have HX9 := Lib.hid (HX8.out.below hb9)
  have V9 := V8.below hb9
  rw [HTE.out]
  clear HX8 hb9 V8 VX8 B8
  by_cases c2 : (0 ≤ a4 ∧ 0 ≤ a5) ∧ a5 ≤ (xs : Int) - a4
  rotate_left
  · have hA : addrV ya xs a4 a5 = -1 := by unfold addrV; rw [if_neg (by omega)]
    rw [hA, if_neg (by omega)]
    clear hA c2 V9 HX9 HQ4 HTE
    unfold ofV
    rw [if_neg (by decide)]
    go_wp2_with fail
    have VY : VC w9.heap.size none 0 0 (w9.alloc (.cells #[.pointer none, .int .i64 0, .int .i64 0] 53)) := heap_new _ _
    have BY := B9.alloc B9.size (.cells #[.pointer none, .int .i64 0, .int .i64 0] 53)
    refine (vsize_any none 0 0 _).mono ?_
    rintro e wz ⟨rfl, hbz⟩
    have BZ := BY.trans (hbz.mono BY.size)
    go_wp2_with fail
    go_ret
    exact ⟨rfl, BZ⟩
  have hA : addrV ya xs a4 a5 = (ya : Int) + a4 := by unfold addrV; rw [if_pos (by omega)]
  rw [hA, if_pos (by omega)]
  obtain ⟨yb, rfl⟩ : ∃ yb : Nat, a4 = yb := ⟨a4.toNat, by omega⟩
  obtain ⟨ys, rfl⟩ : ∃ ys : Nat, a5 = ys := ⟨a5.toNat, by omega⟩
  have d2 : yb + ys ≤ xs := by omega
  clear c2 hA
  unfold ofV
  rw [if_pos rfl, show (ya : Int) + yb = ((ya + yb : Nat) : Int) from by omega]
  obtain ⟨za, hza⟩ : ∃ za, ya + yb = za := ⟨_, rfl⟩
  rw [hza]
  obtain ⟨g0, g1, g2, _⟩ := (V9.below (below_alloc w9 (.cells #[.pointer (some ⟨A, 0, none⟩), .int .i64 (za : Int), .int .i64 (ys : Int)] 53))).all
  go_wp2_with fail
  clear g0 g1 g2
  have VY10 : VC w9.heap.size (some ⟨A, 0, none⟩) za ys (w9.alloc (.cells #[.pointer (some ⟨A, 0, none⟩), .int .i64 (za : Int), .int .i64 (ys : Int)] 53)) := heap_new _ _
  have V10 := V9.below (below_alloc w9 (.cells #[.pointer (some ⟨A, 0, none⟩), .int .i64 (za : Int), .int .i64 (ys : Int)] 53))
  have B10 := B9.alloc B9.size (.cells #[.pointer (some ⟨A, 0, none⟩), .int .i64 (za : Int), .int .i64 (ys : Int)] 53)
  have HX10 := Lib.hid (HX9.out.below (below_alloc w9 (.cells #[.pointer (some ⟨A, 0, none⟩), .int .i64 (za : Int), .int .i64 (ys : Int)] 53)))
  obtain ⟨U3, hU3⟩ : ∃ U, w9.heap.size = U := ⟨_, rfl⟩
  obtain ⟨w10, hw10⟩ : ∃ x, w9.alloc (.cells #[.pointer (some ⟨A, 0, none⟩), .int .i64 (za : Int), .int .i64 (ys : Int)] 53) = x := ⟨_, rfl⟩
  rw [hw10] at VY10 V10 B10 HX10 ⊢
  rw [hU3] at VY10 ⊢
  clear hw10 hU3 HX9 B9 V9
  have hA : addrV va vs ((xa : Int) + yb) ys = (za : Int) := by unfold addrV; rw [if_pos (by omega)]; omega
  refine (vpart_any HX10.out va vs (by omega) (by omega) ((xa : Int) + yb) ys (by omega)).mono ?_
  rintro e w11 ⟨rfl, hb11⟩
  have B11 := B10.trans (hb11.mono B10.size)
  have HX11 := Lib.hid (HX10.out.below hb11)
  have VY11 := VY10.below hb11
  rw [HTE.out, hA, if_pos (by omega)]
  clear HX10 hb11 V10 VY10 B10 hA
  unfold ofV
  rw [if_pos rfl]
  obtain ⟨g0, g1, g2, _⟩ := (VY11.below (below_alloc w11 (.cells #[.pointer (some ⟨A, 0, none⟩), .int .i64 (za : Int), .int .i64 (ys : Int)] 53))).all
  go_wp2_with fail
  clear g0 g1 g2
  have VZ12 : VC w11.heap.size (some ⟨A, 0, none⟩) za ys (w11.alloc (.cells #[.pointer (some ⟨A, 0, none⟩), .int .i64 (za : Int), .int .i64 (ys : Int)] 53)) := heap_new _ _
  have VY12 := VY11.below (below_alloc w11 (.cells #[.pointer (some ⟨A, 0, none⟩), .int .i64 (za : Int), .int .i64 (ys : Int)] 53))
  have B12 := B11.alloc B11.size (.cells #[.pointer (some ⟨A, 0, none⟩), .int .i64 (za : Int), .int .i64 (ys : Int)] 53)
  have HX12 := Lib.hid (HX11.out.below (below_alloc w11 (.cells #[.pointer (some ⟨A, 0, none⟩), .int .i64 (za : Int), .int .i64 (ys : Int)] 53)))
  obtain ⟨U4, hU4⟩ : ∃ U, w11.heap.size = U := ⟨_, rfl⟩
  obtain ⟨w12, hw12⟩ : ∃ x, w11.alloc (.cells #[.pointer (some ⟨A, 0, none⟩), .int .i64 (za : Int), .int .i64 (ys : Int)] 53) = x := ⟨_, rfl⟩
  rw [hw12] at VZ12 VY12 B12 HX12 ⊢
  rw [hU4] at VZ12 ⊢
  clear hw12 hU4 HX11 B11 VY11
  have hA : addrV za ys 0 ys = (za : Int) := by unfold addrV; rw [if_pos (by omega)]; omega
  have hT : thereE (fullS 4 mm).L (fullS 4 mm).es (za : Int) (ys : Int) = 0 := by rw [HTE.out, if_pos (by omega)]
  refine (vbytes_any HX12.out za ys (by omega) (by omega) 0 ys (by omega)).mono ?_
  rintro e w13 ⟨rfl, hb13⟩
  rw [hA, hT, if_pos rfl]
  have B13 := B12.trans (hb13.mono B12.size)
  have HX13 := Lib.hid (HX12.out.below hb13)
  have VY13 := VY12.below hb13
  have VZ13 := VZ12.below hb13
  obtain ⟨st, hst⟩ : ∃ st, strL (getM (fullS 4 mm).mm (za : Int).toNat (ys : Int).toNat) = st := ⟨_, rfl⟩
  rw [hst]
  clear HX12 hb13 VY12 VZ12 B12
  obtain ⟨g0, g1, g2, _⟩ := VZ13.all
  go_wp2_with fail
  clear g0 g1 g2
  refine (vbytes_any HX13.out za ys (by omega) (by omega) 0 ys (by omega)).mono ?_
  rintro e w14 ⟨rfl, hb14⟩
  rw [hA, hT, if_pos rfl, hst]
  have B14 := B13.trans (hb14.mono B13.size)
  have HX14 := Lib.hid (HX13.out.below hb14)
  have VY14 := VY13.below hb14
  have VZ14 := VZ13.below hb14
  clear HX13 hb14 VY13 VZ13 B13 hst
  obtain ⟨g0, g1, g2, _⟩ := VY14.all
  go_wp2_with fail
  clear g0 g1 g2
  have HF := vfill_any HX14.out za ys (by omega) (by omega) 0 ys (by omega) 7
  rw [show (((7 : UInt8).toNat : Nat) : Int) = 7 from rfl] at HF
  refine HF.mono ?_
  clear HF
  rintro e w15 ⟨rfl, ht⟩
  rw [hA] at ht
  have hfs : fillS (fullS 4 mm) (za : Int) (ys : Int) 7 = fullS 4 (putM mm za (List.replicate ys 7)) := by
    unfold fillS; rw [if_pos hT, Int.toNat_natCast, Int.toNat_natCast]; rfl
  have VY15 : VC U3 (some ⟨A, 0, none⟩) za ys w15 := (keepsV_ar HX14.out _ _ _ _ _ (Below.refl _ _) ht VY14).trans VY14
  have VZ15 : VC U4 (some ⟨A, 0, none⟩) za ys w15 := (keepsV_ar HX14.out _ _ _ _ _ (Below.refl _ _) ht VZ14).trans VZ14
  rw [hfs] at ht
  obtain ⟨⟨P7, ps7, p7, n7, c7, hx7, q1, q2, q3⟩, hb15⟩ := ht.at (B := w.heap.size) B14.size HQ4.out.1 HQ4.out.2.1 HQ4.out.2.2
  have B15 := B14.trans hb15
  have HX15 := Lib.hid hx7
  clear hx7 q1 q2 q3 ht hb15 HX14 VY14 VZ14 B14 HQ4 hfs
  rw [hA, hT]
  obtain ⟨g0, g1, g2, _⟩ := VZ15.all
  go_wp2_with fail
  clear g0 g1 g2
  refine (vbytes_any HX15.out za ys (by omega) (by omega) 0 ys (by omega)).mono ?_
  rintro e w16 ⟨rfl, hb16⟩
  rw [hA, show thereE (fullS 4 (putM mm za (List.replicate ys 7))).L (fullS 4 (putM mm za (List.replicate ys 7))).es (za : Int) (ys : Int) = 0 from hT, if_pos rfl, Int.toNat_natCast, Int.toNat_natCast,
    show getM (fullS 4 (putM mm za (List.replicate ys 7))).mm za ys = List.replicate ys 7 from fill_get mm za ys 7]
  have B16 := B15.trans (hb16.mono B15.size)
  have VY16 := VY15.below hb16
  have VZ16 := VZ15.below hb16
  clear HX15 hb16 VY15 VZ15 B15 hA hT
  go_upto_region 18 with fail
  obtain ⟨rp, hrp⟩ : ∃ rp, strL (List.replicate ys 7) = rp := ⟨_, rfl⟩
  rw [hrp]
  have HR := Lib.hid hrp
  have hq1 : (st.toList == st.toList) = true := beq_self_eq_true _
  have hq2 : (rp.toList == rp.toList) = true := beq_self_eq_true _
  have hys : ys ≤ 16384 := by omega
  have H0 : PV U3 U4 (some ⟨A, 0, none⟩) za ys w w16 := ⟨VY16, VZ16, B16⟩
  clear hrp VY16 VZ16 B16 HTE TE l4 e4 s4
  go_region_held3 (fun x => x.cell? ⟨U3, 0, none⟩ = some (.pointer (some ⟨A, 0, none⟩)) ∧ x.cell? ⟨U3, 1, none⟩ = some (.int .i64 (za : Int)) ∧ x.cell? ⟨U3, 2, none⟩ = some (.int .i64 (ys : Int)) ∧ x.cell? ⟨U4, 0, none⟩ = some (.pointer (some ⟨A, 0, none⟩)) ∧ x.cell? ⟨U4, 1, none⟩ = some (.int .i64 (za : Int)) ∧ x.cell? ⟨U4, 2, none⟩ = some (.int .i64 (ys : Int)) ∧ PV U3 U4 (some ⟨A, 0, none⟩) za ys w x)
    (first | exact (H0.below (Below.refl _ _).drew).all | assumption)
    (first | (go_at_call 53; refine (rep_any ys hys _).mono ?_; rintro e x1 ⟨rfl, hb1⟩; rw [HR.out]; have k1 := ((H0.below (Below.refl _ _).drew).below hb1).all)
           | (go_at_call 51; refine (vat_any (some ⟨A, 0, none⟩) za ys _).mono ?_; rintro e x2 ⟨rfl, hb2⟩; have k2 := (k1.2.2.2.2.2.2.below hb2).all)
           | (go_at_call 51; refine (vat_any (some ⟨A, 0, none⟩) za ys _).mono ?_; rintro e x3 ⟨rfl, hb3⟩; have k3 := (k2.2.2.2.2.2.2.below hb3).all)
           | (go_at_call 52; refine (vsize_any (some ⟨A, 0, none⟩) za ys _).mono ?_; rintro e x4 ⟨rfl, hb4⟩; have k4 := (k3.2.2.2.2.2.2.below hb4).all))
  have hf := k4.2.2.2.2.2.2.2.2
  clear H0 k1 k2 k3 k4
  go_wp2_with fail
  go_ret
  exact ⟨rfl, hf⟩
theorem parts_out (a0 a1 a2 a3 a4 a5 : Int) (s : ByteArray) (w : World) (hs : s.size ≤ 9223372036854775807) (hl : ¬ s.size ≤ 16384) :
    Calls Try.prog 10 #[.int .i64 a0, .int .i64 a1, .int .i64 a2, .int .i64 a3, .int .i64 a4, .int .i64 a5, .string s] w (TrueAt w) := by
  go_enter Try.func10, Try.ntmps10
  go_wp2_with fail
  refine (awake4_calls _).mono ?_
  rintro e w1 ⟨rfl, hb1⟩
  go_wp2_with fail
  go_ret
  exact ⟨rfl, hb1⟩
theorem parts_all (a0 a1 a2 a3 a4 a5 : Int) (s : ByteArray) (w : World) (b0 : a0 ≤ 9223372036854775807) (b2 : a2 ≤ 9223372036854775807) (b4 : a4 ≤ 9223372036854775807) (w0 : s.size ≤ maxLen) :
    Calls Try.prog 10 #[.int .i64 a0, .int .i64 a1, .int .i64 a2, .int .i64 a3, .int .i64 a4, .int .i64 a5, .string s] w (TrueAt w) := by
  unfold maxLen at w0
  by_cases h : s.size ≤ 16384
  · exact parts_in a0 a1 a2 a3 a4 a5 s w b0 b2 b4 h
  · exact parts_out a0 a1 a2 a3 a4 a5 s w w0 h
end Go.Proofs.Ytfappdiipflpfaa.Bt
