/- A table of handles: find, Get, turn, Move, Drop. (Written by gen_hnb.py.) -/
import Derived.Test.YtllghngjnhbmaaaHnA
namespace Go.Proofs.Ytllghngjnhbmaaa.Bt
open Go Go.RowKit Go.Shelf
set_option linter.unusedVariables false
set_option linter.unusedSimpArgs false
section
variable {A vs : Nat} {m : Nat → UInt8} {q : Nat → Nat × Nat} {w : World}
/-- find: the slot that a handle names -/
theorem hfind_yes (h : On A (hS m) w) (hv : vs ≤ 5000) (hd : Hd m (nS vs) q) (h2 i : Nat) (hh2 : h2 < 18446744073709551616) (hi : h2 % 256 = i) (hin : i < nS vs) (ha : 0 < (q i).1) (hg : (q i).2 = h2 / 256) :
    Calls Try.prog 33 #[vwV A 16 vs, .int .u64 (h2 : Int)] w (Gives (.tuple #[vwV A (16 + 16 * i) 16, .int .i64 0]) w) := by
  have q1 : ((h2 : Int)).tmod 256 = (i : Int) := by rw [Int.tmod_eq_emod_of_nonneg (by omega), ← hi]; omega
  have q2 : IntKind.u64.wrap ((h2 : Int).tmod 256) = (i : Int) := by rw [q1, IntKind.wrap_u64]; omega
  have q3 : IntKind.i64.wrap (i : Int) = (i : Int) := by rw [IntKind.wrap_i64]; omega
  have q4 : (h2 : Int) % 256 = (i : Int) := by rw [← hi]; omega
  have q5 : IntKind.u64.wrap (i : Int) = (i : Int) := by rw [IntKind.wrap_u64]; omega
  have hns : nS vs ≤ vs / 16 := Nat.min_le_left _ _
  obtain ⟨x, hx⟩ : ∃ x, (q i).1 = x := ⟨_, rfl⟩
  have hxb := (hd.b i).1
  rw [hx] at ha hxb
  have HSL := Lib.hid fun X (hX : On A (hS m) X) => hslot_in hX hv i (by omega)
  have HTE := Lib.hid fun X (hX : On A (hS m) X) => htell_in hX (16 + 16 * i) x (h2 / 256) (by omega) ((hd.a i hin).trans hx) ((hd.g i hin).trans hg) hxb
  have hx0 : ¬ ((x : Int) = 0) := by omega
  have HH2 := Lib.hid hh2
  clear hd hx hxb hg hin hns hi ha
  have HE0 := Lib.hid (EnS.start (vs := vs) h)
  go_enter Try.func33, Try.ntmps33
  go_upto_region 1 with fail
  change Code.wp _ _ _ _ ((w.alloc (.cells #[.pointer (some ⟨A, 0, none⟩), .int .i64 16, .int .i64 (vs : Int)] 29)).alloc (.cells #[.pointer none, .int .i64 0, .int .i64 0] 27))
  obtain ⟨y, hy⟩ : ∃ y, (w.alloc (.cells #[.pointer (some ⟨A, 0, none⟩), .int .i64 16, .int .i64 (vs : Int)] 29)).alloc (.cells #[.pointer none, .int .i64 0, .int .i64 0] 27) = y := ⟨_, rfl⟩
  obtain ⟨C, hC⟩ : ∃ C, w.heap.size = C := ⟨_, rfl⟩
  obtain ⟨O, hO⟩ : ∃ O, w.heap.size + 1 = O := ⟨_, rfl⟩
  have HWC := Lib.hid hC
  have he0 := HE0.out
  rw [hy, hO, hC] at he0
  rw [hy, hO, hC]
  have HE := Lib.hid he0
  clear hy hC hO he0 HE0
  obtain ⟨⟨c0, c1, c2⟩, f0, f1, f2⟩ := HE.out.all
  go_wp2_with fail
  refine (HSL.out _ HE.out.on).mono ?_
  rintro e w1 ⟨rfl, hb⟩
  have HE1 := Lib.hid (HE.out.below hb)
  clear hb HE c0 c1 c2 f0 f1 f2
  go_upto_region 4 with fail
  have HE2 : Hid (EnS C O A vs m w (w1.alloc (.cells #[.pointer (some ⟨A, 0, none⟩), .int .i64 ((16 + 16 * i : Nat) : Int), .int .i64 16] 27)) ∧ VwC w1.heap.size A (16 + 16 * i) (w1.alloc (.cells #[.pointer (some ⟨A, 0, none⟩), .int .i64 ((16 + 16 * i : Nat) : Int), .int .i64 16] 27))) := Lib.hid ⟨HE1.out.below (bel1 _ _), heap_new _ _⟩
  change Code.wp _ _ _ _ (w1.alloc (.cells #[.pointer (some ⟨A, 0, none⟩), .int .i64 ((16 + 16 * i : Nat) : Int), .int .i64 16] 27))
  obtain ⟨w2, hw2⟩ : ∃ y, w1.alloc (.cells #[.pointer (some ⟨A, 0, none⟩), .int .i64 ((16 + 16 * i : Nat) : Int), .int .i64 16] 27) = y := ⟨_, rfl⟩
  obtain ⟨F, hF⟩ : ∃ F, w1.heap.size = F := ⟨_, rfl⟩
  rw [hw2, hF] at HE2
  rw [hw2, hF]
  clear hw2 hF HE1
  obtain ⟨v0, v1, v2⟩ := HE2.out.2.all
  go_wp2_with fail
  refine (HTE.out _ HE2.out.1.on).mono ?_
  rintro e w3 ⟨rfl, hb⟩
  have HE3 := Lib.hid (And.intro (HE2.out.1.below hb) (HE2.out.2.below hb))
  clear hb HE2 v0 v1 v2
  go_wp2_with fail
  refine (hgeneration h2 hh2 _).mono ?_
  rintro e w4 ⟨rfl, hb⟩
  have HE4 := Lib.hid (And.intro (HE3.out.1.below hb) (HE3.out.2.below hb))
  clear hb HE3
  obtain ⟨v0, v1, v2⟩ := HE4.out.2.all
  obtain ⟨_, f0, f1, f2⟩ := HE4.out.1.all
  obtain ⟨u0, u1, u2⟩ := HE4.out.1.old
  have HEN := Lib.hid HE4.out.1
  go_wp2_with fail
  change bodyPost _ _ _ _ _ (st3 w4 O (.pointer (some ⟨A, 0, none⟩)) (.int .i64 ((16 + 16 * i : Nat) : Int)) (.int .i64 16))
  have hz := st3_at (HEN.out.o) (.pointer (some ⟨A, 0, none⟩)) (.int .i64 ((16 + 16 * i : Nat) : Int)) (.int .i64 16)
  have HZB := Lib.hid (st3_below HEN.out.be HEN.out.os (.pointer (some ⟨A, 0, none⟩)) (.int .i64 ((16 + 16 * i : Nat) : Int)) (.int .i64 16))
  obtain ⟨z, hzz⟩ : ∃ z, st3 w4 O (.pointer (some ⟨A, 0, none⟩)) (.int .i64 ((16 + 16 * i : Nat) : Int)) (.int .i64 16) = z := ⟨_, rfl⟩
  rw [hzz] at hz HZB ⊢
  have g0 := (cell_blk hz 0).1; have g1 := (cell_blk hz 1).1; have g2 := (cell_blk hz 2).1
  exact bodyPost_ret (v := .tuple #[.agg #[.pointer (some ⟨A, 0, none⟩), .int .i64 ((16 + 16 * i : Nat) : Int), .int .i64 16], .int .i64 0]) (by simp [results, Try.results33, go_sem, g0, g1, g2]) rfl ⟨rfl, HZB.out⟩

theorem hfind_no (h : On A (hS m) w) (hv : vs ≤ 5000) (hd : Hd m (nS vs) q) (h2 i : Nat) (hh2 : h2 < 18446744073709551616) (hi : h2 % 256 = i) (hn : ¬ (i < nS vs ∧ 0 < (q i).1 ∧ (q i).2 = h2 / 256)) :
    Calls Try.prog 33 #[vwV A 16 vs, .int .u64 (h2 : Int)] w (Gives (.tuple #[zvV, .int .i64 6]) w) := by
  have q1 : ((h2 : Int)).tmod 256 = (i : Int) := by rw [Int.tmod_eq_emod_of_nonneg (by omega), ← hi]; omega
  have q2 : IntKind.u64.wrap ((h2 : Int).tmod 256) = (i : Int) := by rw [q1, IntKind.wrap_u64]; omega
  have q3 : IntKind.i64.wrap (i : Int) = (i : Int) := by rw [IntKind.wrap_i64]; omega
  have q4 : (h2 : Int) % 256 = (i : Int) := by rw [← hi]; omega
  have q5 : IntKind.u64.wrap (i : Int) = (i : Int) := by rw [IntKind.wrap_u64]; omega
  have hns : nS vs ≤ vs / 16 := Nat.min_le_left _ _
  by_cases hin : i < nS vs
  · obtain ⟨x, hx⟩ : ∃ x, (q i).1 = x := ⟨_, rfl⟩
    obtain ⟨g, hg⟩ : ∃ g, (q i).2 = g := ⟨_, rfl⟩
    have hxb := (hd.b i).1
    have hgb := (hd.b i).2
    rw [hx] at hn hxb
    rw [hg] at hn hgb
    have HSL := Lib.hid fun X (hX : On A (hS m) X) => hslot_in hX hv i (by omega)
    have HTE := Lib.hid fun X (hX : On A (hS m) X) => htell_in hX (16 + 16 * i) x g (by omega) ((hd.a i hin).trans hx) ((hd.g i hin).trans hg) hxb
    by_cases hx0 : x = 0
    · subst hx0
      clear hd hx hg hxb hgb hin hns hi hn
      have HE0 := Lib.hid (EnS.start (vs := vs) h)
      go_enter Try.func33, Try.ntmps33
      go_upto_region 1 with fail
      change Code.wp _ _ _ _ ((w.alloc (.cells #[.pointer (some ⟨A, 0, none⟩), .int .i64 16, .int .i64 (vs : Int)] 29)).alloc (.cells #[.pointer none, .int .i64 0, .int .i64 0] 27))
      obtain ⟨y, hy⟩ : ∃ y, (w.alloc (.cells #[.pointer (some ⟨A, 0, none⟩), .int .i64 16, .int .i64 (vs : Int)] 29)).alloc (.cells #[.pointer none, .int .i64 0, .int .i64 0] 27) = y := ⟨_, rfl⟩
      obtain ⟨C, hC⟩ : ∃ C, w.heap.size = C := ⟨_, rfl⟩
      obtain ⟨O, hO⟩ : ∃ O, w.heap.size + 1 = O := ⟨_, rfl⟩
      have HWC := Lib.hid hC
      have he0 := HE0.out
      rw [hy, hO, hC] at he0
      rw [hy, hO, hC]
      have HE := Lib.hid he0
      clear hy hC hO he0 HE0
      obtain ⟨⟨c0, c1, c2⟩, f0, f1, f2⟩ := HE.out.all
      go_wp2_with fail
      refine (HSL.out _ HE.out.on).mono ?_
      rintro e w1 ⟨rfl, hb⟩
      have HE1 := Lib.hid (HE.out.below hb)
      clear hb HE c0 c1 c2 f0 f1 f2
      go_upto_region 4 with fail
      have HE2 : Hid (EnS C O A vs m w (w1.alloc (.cells #[.pointer (some ⟨A, 0, none⟩), .int .i64 ((16 + 16 * i : Nat) : Int), .int .i64 16] 27)) ∧ VwC w1.heap.size A (16 + 16 * i) (w1.alloc (.cells #[.pointer (some ⟨A, 0, none⟩), .int .i64 ((16 + 16 * i : Nat) : Int), .int .i64 16] 27))) := Lib.hid ⟨HE1.out.below (bel1 _ _), heap_new _ _⟩
      change Code.wp _ _ _ _ (w1.alloc (.cells #[.pointer (some ⟨A, 0, none⟩), .int .i64 ((16 + 16 * i : Nat) : Int), .int .i64 16] 27))
      obtain ⟨w2, hw2⟩ : ∃ y, w1.alloc (.cells #[.pointer (some ⟨A, 0, none⟩), .int .i64 ((16 + 16 * i : Nat) : Int), .int .i64 16] 27) = y := ⟨_, rfl⟩
      obtain ⟨F, hF⟩ : ∃ F, w1.heap.size = F := ⟨_, rfl⟩
      rw [hw2, hF] at HE2
      rw [hw2, hF]
      clear hw2 hF HE1
      obtain ⟨v0, v1, v2⟩ := HE2.out.2.all
      go_wp2_with fail
      refine (HTE.out _ HE2.out.1.on).mono ?_
      rintro e w3 ⟨rfl, hb⟩
      have HE3 := Lib.hid (And.intro (HE2.out.1.below hb) (HE2.out.2.below hb))
      clear hb HE2 v0 v1 v2
      obtain ⟨_, f0, f1, f2⟩ := HE3.out.1.all
      obtain ⟨u0, u1, u2⟩ := HE3.out.1.old
      have HEN := Lib.hid HE3.out.1
      go_wp2_with fail
      change bodyPost _ _ _ _ _ (st3 w3 O (.pointer none) (.int .i64 0) (.int .i64 0))
      have hz := st3_at (HEN.out.o) (.pointer none) (.int .i64 0) (.int .i64 0)
      have HZB := Lib.hid (st3_below HEN.out.be HEN.out.os (.pointer none) (.int .i64 0) (.int .i64 0))
      obtain ⟨z, hzz⟩ : ∃ z, st3 w3 O (.pointer none) (.int .i64 0) (.int .i64 0) = z := ⟨_, rfl⟩
      rw [hzz] at hz HZB ⊢
      have g0 := (cell_blk hz 0).1; have g1 := (cell_blk hz 1).1; have g2 := (cell_blk hz 2).1
      exact bodyPost_ret (v := .tuple #[.agg #[.pointer none, .int .i64 0, .int .i64 0], .int .i64 6]) (by simp [results, Try.results33, go_sem, g0, g1, g2]) rfl ⟨rfl, HZB.out⟩

    · have hx1 : ¬ ((x : Int) = 0) := by omega
      have hgd : ¬ ((g : Int) = ((h2 / 256 : Nat) : Int)) := by omega
      have hgd2 : ¬ (g = h2 / 256) := by omega
      have hgd3 : ¬ ((g : Int) = (h2 : Int) / 256) := by omega
      have hgd4 : ((g : Int) != (h2 : Int) / 256) = true := bne_iff_ne.2 hgd3
      clear hd hx hg hxb hgb hin hns hi hn hx0
      have HE0 := Lib.hid (EnS.start (vs := vs) h)
      go_enter Try.func33, Try.ntmps33
      go_upto_region 1 with fail
      change Code.wp _ _ _ _ ((w.alloc (.cells #[.pointer (some ⟨A, 0, none⟩), .int .i64 16, .int .i64 (vs : Int)] 29)).alloc (.cells #[.pointer none, .int .i64 0, .int .i64 0] 27))
      obtain ⟨y, hy⟩ : ∃ y, (w.alloc (.cells #[.pointer (some ⟨A, 0, none⟩), .int .i64 16, .int .i64 (vs : Int)] 29)).alloc (.cells #[.pointer none, .int .i64 0, .int .i64 0] 27) = y := ⟨_, rfl⟩
      obtain ⟨C, hC⟩ : ∃ C, w.heap.size = C := ⟨_, rfl⟩
      obtain ⟨O, hO⟩ : ∃ O, w.heap.size + 1 = O := ⟨_, rfl⟩
      have HWC := Lib.hid hC
      have he0 := HE0.out
      rw [hy, hO, hC] at he0
      rw [hy, hO, hC]
      have HE := Lib.hid he0
      clear hy hC hO he0 HE0
      obtain ⟨⟨c0, c1, c2⟩, f0, f1, f2⟩ := HE.out.all
      go_wp2_with fail
      refine (HSL.out _ HE.out.on).mono ?_
      rintro e w1 ⟨rfl, hb⟩
      have HE1 := Lib.hid (HE.out.below hb)
      clear hb HE c0 c1 c2 f0 f1 f2
      go_upto_region 4 with fail
      have HE2 : Hid (EnS C O A vs m w (w1.alloc (.cells #[.pointer (some ⟨A, 0, none⟩), .int .i64 ((16 + 16 * i : Nat) : Int), .int .i64 16] 27)) ∧ VwC w1.heap.size A (16 + 16 * i) (w1.alloc (.cells #[.pointer (some ⟨A, 0, none⟩), .int .i64 ((16 + 16 * i : Nat) : Int), .int .i64 16] 27))) := Lib.hid ⟨HE1.out.below (bel1 _ _), heap_new _ _⟩
      change Code.wp _ _ _ _ (w1.alloc (.cells #[.pointer (some ⟨A, 0, none⟩), .int .i64 ((16 + 16 * i : Nat) : Int), .int .i64 16] 27))
      obtain ⟨w2, hw2⟩ : ∃ y, w1.alloc (.cells #[.pointer (some ⟨A, 0, none⟩), .int .i64 ((16 + 16 * i : Nat) : Int), .int .i64 16] 27) = y := ⟨_, rfl⟩
      obtain ⟨F, hF⟩ : ∃ F, w1.heap.size = F := ⟨_, rfl⟩
      rw [hw2, hF] at HE2
      rw [hw2, hF]
      clear hw2 hF HE1
      obtain ⟨v0, v1, v2⟩ := HE2.out.2.all
      go_wp2_with fail
      refine (HTE.out _ HE2.out.1.on).mono ?_
      rintro e w3 ⟨rfl, hb⟩
      have HE3 := Lib.hid (And.intro (HE2.out.1.below hb) (HE2.out.2.below hb))
      clear hb HE2 v0 v1 v2
      go_wp2_with fail
      refine (hgeneration h2 hh2 _).mono ?_
      rintro e w4 ⟨rfl, hb⟩
      have HE4 := Lib.hid (And.intro (HE3.out.1.below hb) (HE3.out.2.below hb))
      clear hb HE3
      obtain ⟨_, f0, f1, f2⟩ := HE4.out.1.all
      obtain ⟨u0, u1, u2⟩ := HE4.out.1.old
      have HEN := Lib.hid HE4.out.1
      go_wp2_with fail
      change bodyPost _ _ _ _ _ (st3 w4 O (.pointer none) (.int .i64 0) (.int .i64 0))
      have hz := st3_at (HEN.out.o) (.pointer none) (.int .i64 0) (.int .i64 0)
      have HZB := Lib.hid (st3_below HEN.out.be HEN.out.os (.pointer none) (.int .i64 0) (.int .i64 0))
      obtain ⟨z, hzz⟩ : ∃ z, st3 w4 O (.pointer none) (.int .i64 0) (.int .i64 0) = z := ⟨_, rfl⟩
      rw [hzz] at hz HZB ⊢
      have g0 := (cell_blk hz 0).1; have g1 := (cell_blk hz 1).1; have g2 := (cell_blk hz 2).1
      exact bodyPost_ret (v := .tuple #[.agg #[.pointer none, .int .i64 0, .int .i64 0], .int .i64 6]) (by simp [results, Try.results33, go_sem, g0, g1, g2]) rfl ⟨rfl, HZB.out⟩

  · have HSL := Lib.hid fun X (hX : On A (hS m) X) => hslot_out hX hv i (by unfold nS at hin; omega) (by omega)
    have HTE : Hid (∀ X, On A (hS m) X → Calls Try.prog 34 #[zvV] X (Gives (.tuple #[.int .i64 0, .int .u64 0]) X)) := Lib.hid fun X _ => htell_nil X
    clear hd hin hns hi hn
    have HE0 := Lib.hid (EnS.start (vs := vs) h)
    go_enter Try.func33, Try.ntmps33
    go_upto_region 1 with fail
    change Code.wp _ _ _ _ ((w.alloc (.cells #[.pointer (some ⟨A, 0, none⟩), .int .i64 16, .int .i64 (vs : Int)] 29)).alloc (.cells #[.pointer none, .int .i64 0, .int .i64 0] 27))
    obtain ⟨y, hy⟩ : ∃ y, (w.alloc (.cells #[.pointer (some ⟨A, 0, none⟩), .int .i64 16, .int .i64 (vs : Int)] 29)).alloc (.cells #[.pointer none, .int .i64 0, .int .i64 0] 27) = y := ⟨_, rfl⟩
    obtain ⟨C, hC⟩ : ∃ C, w.heap.size = C := ⟨_, rfl⟩
    obtain ⟨O, hO⟩ : ∃ O, w.heap.size + 1 = O := ⟨_, rfl⟩
    have HWC := Lib.hid hC
    have he0 := HE0.out
    rw [hy, hO, hC] at he0
    rw [hy, hO, hC]
    have HE := Lib.hid he0
    clear hy hC hO he0 HE0
    obtain ⟨⟨c0, c1, c2⟩, f0, f1, f2⟩ := HE.out.all
    go_wp2_with fail
    refine (HSL.out _ HE.out.on).mono ?_
    rintro e w1 ⟨rfl, hb⟩
    have HE1 := Lib.hid (HE.out.below hb)
    clear hb HE c0 c1 c2 f0 f1 f2
    go_upto_region 4 with fail
    have HE2 : Hid (EnS C O A vs m w (w1.alloc (.cells #[.pointer none, .int .i64 0, .int .i64 0] 27)) ∧ ZwC w1.heap.size (w1.alloc (.cells #[.pointer none, .int .i64 0, .int .i64 0] 27))) := Lib.hid ⟨HE1.out.below (bel1 _ _), heap_new _ _⟩
    change Code.wp _ _ _ _ (w1.alloc (.cells #[.pointer none, .int .i64 0, .int .i64 0] 27))
    obtain ⟨w2, hw2⟩ : ∃ y, w1.alloc (.cells #[.pointer none, .int .i64 0, .int .i64 0] 27) = y := ⟨_, rfl⟩
    obtain ⟨F, hF⟩ : ∃ F, w1.heap.size = F := ⟨_, rfl⟩
    rw [hw2, hF] at HE2
    rw [hw2, hF]
    clear hw2 hF HE1
    obtain ⟨v0, v1, v2⟩ := HE2.out.2.all
    go_wp2_with fail
    refine (HTE.out _ HE2.out.1.on).mono ?_
    rintro e w3 ⟨rfl, hb⟩
    have HE3 := Lib.hid (And.intro (HE2.out.1.below hb) (HE2.out.2.below hb))
    clear hb HE2 v0 v1 v2
    obtain ⟨_, f0, f1, f2⟩ := HE3.out.1.all
    obtain ⟨u0, u1, u2⟩ := HE3.out.1.old
    have HEN := Lib.hid HE3.out.1
    go_wp2_with fail
    change bodyPost _ _ _ _ _ (st3 w3 O (.pointer none) (.int .i64 0) (.int .i64 0))
    have hz := st3_at (HEN.out.o) (.pointer none) (.int .i64 0) (.int .i64 0)
    have HZB := Lib.hid (st3_below HEN.out.be HEN.out.os (.pointer none) (.int .i64 0) (.int .i64 0))
    obtain ⟨z, hzz⟩ : ∃ z, st3 w3 O (.pointer none) (.int .i64 0) (.int .i64 0) = z := ⟨_, rfl⟩
    rw [hzz] at hz HZB ⊢
    have g0 := (cell_blk hz 0).1; have g1 := (cell_blk hz 1).1; have g2 := (cell_blk hz 2).1
    exact bodyPost_ret (v := .tuple #[.agg #[.pointer none, .int .i64 0, .int .i64 0], .int .i64 6]) (by simp [results, Try.results33, go_sem, g0, g1, g2]) rfl ⟨rfl, HZB.out⟩

end
end Go.Proofs.Ytllghngjnhbmaaa.Bt
