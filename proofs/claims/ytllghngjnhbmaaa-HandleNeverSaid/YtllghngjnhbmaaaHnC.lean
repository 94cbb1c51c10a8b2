/- A table of handles: next. (Written by gen_hnc.py.) -/
import Derived.Test.YtllghngjnhbmaaaHnB
namespace Go.Proofs.Ytllghngjnhbmaaa.Bt
open Go Go.RowKit Go.Shelf
set_option linter.unusedVariables false
set_option linter.unusedSimpArgs false
def free (q : Nat → Nat × Nat) (i : Nat) : Prop := (q i).1 = 0 ∧ (q i).2 < 72057594037927935
def hOf (q : Nat → Nat × Nat) (i : Nat) : Nat := 256 * ((q i).2 + 1) + i
def NxP (A n : Nat) (q : Nat → Nat × Nat) (w : World) (e : Ending) (w' : World) : Prop :=
  ((∃ i, i < n ∧ free q i ∧ (∀ k, k < i → ¬ free q k) ∧ e = .returned (.tuple #[.int .u64 (hOf q i : Int), vwV A (16 + 16 * i) 16, .int .i64 0])) ∨
   ((∀ k, k < n → ¬ free q k) ∧ e = .returned (.tuple #[.int .u64 0, zvV, .int .i64 10]))) ∧ Below w.heap.size w w'
/-- while a region draws: the slot's variable, the result's -/
structure EnT (F O A a : Nat) (x : World) : Prop where
  f : VwC F A a x
  o : ∃ c0 c1 c2, x.heap[O]? = some (.cells #[c0, c1, c2] 27 (0, 0))
theorem EnT.all {F O A a : Nat} {x : World} (h : EnT F O A a x) : EnT F O A a x ∧ x.cell? ⟨F, 0, none⟩ = some (.pointer (some ⟨A, 0, none⟩)) ∧ x.cell? ⟨F, 1, none⟩ = some (.int .i64 (a : Int)) ∧ x.cell? ⟨F, 2, none⟩ = some (.int .i64 16) := ⟨h, h.f.all⟩
theorem EnT.of {F C O A vs a : Nat} {m : Nat → UInt8} {w x : World} (h : EnS C O A vs m w x) (hf : VwC F A a x) : EnT F O A a x := ⟨hf, _, _, _, h.o⟩
theorem EnT.stored {F C O A vs a : Nat} {m : Nat → UInt8} {w x : World} {v0 v1 v2 : Value} (h : EnS C O A vs m w x) (hf : VwC F A a x) : EnT F O A a (st3 x O v0 v1 v2) := by
  refine ⟨?_, _, _, _, st3_at h.o v0 v1 v2⟩
  by_cases e : F = O
  · subst e
    have h1 := h.o
    rw [show x.heap[F]? = _ from hf] at h1
    simp at h1
  · exact ((Below.heap_setCell _ ⟨O, 2, none⟩ _ _ e).trans ((Below.heap_setCell _ ⟨O, 1, none⟩ _ _ e).trans (Below.heap_setCell _ ⟨O, 0, none⟩ _ _ e))).trans hf
section
variable {A vs : Nat} {m : Nat → UInt8} {q : Nat → Nat × Nat} {w : World}
set_option maxRecDepth 100000 in
set_option maxHeartbeats 8000000 in
theorem hnext (h : On A (hS m) w) (hv : vs ≤ 5000) (hd : Hd m (nS vs) q) : Calls Try.prog 35 #[vwV A 16 vs] w (NxP A (nS vs) q w) := by
  have hns : nS vs ≤ vs / 16 := Nat.min_le_left _ _
  have hn2 : nS vs ≤ 256 := Nat.min_le_right _ _
  have HLE := Lib.hid fun X => hlen (some ⟨A, 0, none⟩) 16 vs hv X
  obtain ⟨n, hn⟩ : ∃ n, nS vs = n := ⟨_, rfl⟩
  rw [hn] at hns hn2 hd HLE
  rw [hn]
  have HD := Lib.hid hd
  have HSL := Lib.hid fun X (hX : On A (hS m) X) i (hi : i < n) => hslot_in hX hv i (by omega)
  have HTE := Lib.hid fun X (hX : On A (hS m) X) i (hi : i < n) => htell_in hX (16 + 16 * i) (q i).1 (q i).2 (by omega) (hd.a i hi) (hd.g i hi) (hd.b i).1
  have HN2 := Lib.hid hn2
  clear hns hn hd hn2
  have HE0 := Lib.hid (EnS.start (vs := vs) h)
  go_enter Try.func35, Try.ntmps35
  go_upto_region 1 with fail
  change Code.wp _ _ _ _ ((w.alloc (.cells #[.pointer (some ⟨A, 0, none⟩), .int .i64 16, .int .i64 (vs : Int)] 29)).alloc (.cells #[.pointer none, .int .i64 0, .int .i64 0] 27))
  obtain ⟨y, hy⟩ : ∃ y, (w.alloc (.cells #[.pointer (some ⟨A, 0, none⟩), .int .i64 16, .int .i64 (vs : Int)] 29)).alloc (.cells #[.pointer none, .int .i64 0, .int .i64 0] 27) = y := ⟨_, rfl⟩
  obtain ⟨C, hC⟩ : ∃ C, w.heap.size = C := ⟨_, rfl⟩
  obtain ⟨O, hO⟩ : ∃ O, w.heap.size + 1 = O := ⟨_, rfl⟩
  have HWC := Lib.hid hC
  have he0 := HE0.out
  rw [hy, hO, hC] at he0
  rw [hy, hO, hC]
  have HE := Lib.hid he0
  clear hy hC hO he0 HE0
  obtain ⟨⟨c0, c1, c2⟩, f0, f1, f2⟩ := HE.out.all
  go_wp2_with fail
  refine (HLE.out _).mono ?_
  rintro e w1 ⟨rfl, hb⟩
  have HE1 := Lib.hid (HE.out.below hb)
  clear hb HE c0 c1 c2 f0 f1 f2 HLE
  go_wp2_with fail
  go_loopw [17] (fun s17 wr => ∃ j : Nat, j ≤ n ∧ s17 = .int .i64 (j : Int) ∧ Hid (∀ k, k < j → ¬ free q k) ∧ Hid (EnS C O A vs m w wr)) (fun s17 _ => n - (intOf s17).toNat)
  case atStart => exact ⟨0, Nat.zero_le _, rfl, Lib.hid fun k hk => absurd hk (Nat.not_lt_zero k), HE1⟩
  case round =>
    clear HE1
    obtain ⟨j, hj, rfl, HNF, HE⟩ := hrel
    obtain ⟨⟨c0, c1, c2⟩, f0, f1, f2⟩ := HE.out.all
    by_cases hjn : j < n
    · have hjn2 : (j : Int) < (n : Int) := by omega
      have HSJ := Lib.hid fun X (hX : On A (hS m) X) => HSL.out X hX j hjn
      have HTJ := Lib.hid fun X (hX : On A (hS m) X) => HTE.out X hX j hjn
      obtain ⟨x, hx⟩ : ∃ x, (q j).1 = x := ⟨_, rfl⟩
      obtain ⟨g, hg⟩ : ∃ g, (q j).2 = g := ⟨_, rfl⟩
      have HXG := Lib.hid (And.intro hx hg)
      rw [hx, hg] at HTJ
      have HJ : Hid (j < 256) := Lib.hid (by have := HN2.out; omega)
      have HJN := Lib.hid hjn
      clear hx hg hj hjn
      go_wp2_with fail
      refine (HSJ.out _ HE.out.on).mono ?_
      rintro e w1 ⟨rfl, hb⟩
      have HE1 := Lib.hid (HE.out.below hb)
      clear hb HE c0 c1 c2 f0 f1 f2 HSJ
      go_upto_region 7 with fail
      have HE2 : Hid (EnS C O A vs m w (w1.alloc (.cells #[.pointer (some ⟨A, 0, none⟩), .int .i64 ((16 + 16 * j : Nat) : Int), .int .i64 16] 27)) ∧ VwC w1.heap.size A (16 + 16 * j) (w1.alloc (.cells #[.pointer (some ⟨A, 0, none⟩), .int .i64 ((16 + 16 * j : Nat) : Int), .int .i64 16] 27))) := Lib.hid ⟨HE1.out.below (bel1 _ _), heap_new _ _⟩
      change Code.wp _ _ _ _ (w1.alloc (.cells #[.pointer (some ⟨A, 0, none⟩), .int .i64 ((16 + 16 * j : Nat) : Int), .int .i64 16] 27))
      obtain ⟨w2, hw2⟩ : ∃ y, w1.alloc (.cells #[.pointer (some ⟨A, 0, none⟩), .int .i64 ((16 + 16 * j : Nat) : Int), .int .i64 16] 27) = y := ⟨_, rfl⟩
      obtain ⟨F, hF⟩ : ∃ F, w1.heap.size = F := ⟨_, rfl⟩
      rw [hw2, hF] at HE2
      rw [hw2, hF]
      clear hw2 hF HE1
      obtain ⟨v0, v1, v2⟩ := HE2.out.2.all
      go_wp2_with fail
      refine (HTJ.out _ HE2.out.1.on).mono ?_
      rintro e w3 ⟨rfl, hb⟩
      have HE3 := Lib.hid (And.intro (HE2.out.1.below hb) (HE2.out.2.below hb))
      clear hb HE2 v0 v1 v2 HTJ
      by_cases hx0 : x = 0
      · by_cases hgl : g < 72057594037927935
        · have hgl2 : (g : Int) < 72057594037927935 := by omega
          have HGB := Lib.hid hgl
          have HWG : Hid (IntKind.u64.wrap ((g : Int) + 1) = ((g + 1 : Nat) : Int)) := Lib.hid (by rw [IntKind.wrap_u64]; omega)
          subst hx0
          clear hgl
          go_upto_region 9 with fail
          refine wp_region_held_drew (S := EnT F O A (16 + 16 * j)) (by kernel_rfl) (EnT.of (HE3.out.1.below (Below.refl w3.heap.size w3).drew) (HE3.out.2.below (Below.refl w3.heap.size w3).drew)) (fun hHeld => ?_)
          have HEX := Lib.hid (HE3.out.1.below (Below.refl w3.heap.size w3).drew)
          have HFX := Lib.hid (HE3.out.2.below (Below.refl w3.heap.size w3).drew)
          clear HE3
          generalize w3.drew = x0 at *
          refine wpAnyH_take (i := 0) (v := (.int .i64 (j : Int))) rfl (by kernel_rfl) (by kernel_rfl) (by kernel_rfl) (fun _ _ _ h => h) (Or.inl ⟨by rfl, fun X hS => ?_⟩) hHeld ?_
          · obtain ⟨hS1, v0, v1, v2⟩ := EnT.all hS
            go_simp
          try simp only [Act.put, List.getElem_toArray, List.getElem_cons_zero, List.getElem_cons_succ, List.setIfInBounds_toArray, List.set_cons_zero, List.set_cons_succ]
          refine wpAnyH_take (i := 1) (v := (.int .u64 (g : Int))) rfl (by kernel_rfl) (by kernel_rfl) (by kernel_rfl) (fun _ _ _ h => h) (Or.inl ⟨by rfl, fun X hS => ?_⟩) hHeld ?_
          · obtain ⟨hS1, v0, v1, v2⟩ := EnT.all hS
            go_simp
          try simp only [Act.put, List.getElem_toArray, List.getElem_cons_zero, List.getElem_cons_succ, List.setIfInBounds_toArray, List.set_cons_zero, List.set_cons_succ]
          refine wpAnyH_take (i := 2) (v := (.int .u64 ((g + 1 : Nat) : Int))) rfl (by kernel_rfl) (by kernel_rfl) (by kernel_rfl) (fun _ _ _ h => h) (Or.inl ⟨by rfl, fun X hS => ?_⟩) hHeld ?_
          · obtain ⟨hS1, v0, v1, v2⟩ := EnT.all hS
            have hw := HWG.out
            go_simp
          try simp only [Act.put, List.getElem_toArray, List.getElem_cons_zero, List.getElem_cons_succ, List.setIfInBounds_toArray, List.set_cons_zero, List.set_cons_succ]
          refine wpAnyH_take (i := 4) (v := (vwV A (16 + 16 * j) 16)) rfl (by kernel_rfl) (by kernel_rfl) (by kernel_rfl) (fun _ _ _ h => h) (Or.inl ⟨by rfl, fun X hS => ?_⟩) hHeld ?_
          · obtain ⟨hS1, v0, v1, v2⟩ := EnT.all hS
            go_simp
          try simp only [Act.put, List.getElem_toArray, List.getElem_cons_zero, List.getElem_cons_succ, List.setIfInBounds_toArray, List.set_cons_zero, List.set_cons_succ]
          refine wpAnyH_ready (rs := [3]) (by kernel_rfl) (by simp) (AllReadyH.cons rfl (fun K1 hK1 => ?_) AllReadyH.nil)
          go_simp
          have HH := Lib.hid hHeld
          clear hHeld
          refine (hname j (g + 1) (by have := HJ.out; omega) (by have := HGB.out; omega) _).mono ?_
          rintro e x1 ⟨rfl, hb⟩
          have HEX1 := Lib.hid (HEX.out.below hb)
          have HFX1 := Lib.hid (HFX.out.below hb)
          have hrb := EnT.of HEX1.out HFX1.out
          clear HH hb HEX HFX
          refine hK1.out _ _ hrb (fun hHeld => ?_)
          clear hK1
          try simp only [Act.put, List.getElem_toArray, List.getElem_cons_zero, List.getElem_cons_succ, List.setIfInBounds_toArray, List.set_cons_zero, List.set_cons_succ]
          refine wpAnyH_take (i := 5) (v := (.int .u64 ((256 * (g + 1) + j : Nat) : Int))) rfl (by kernel_rfl) (by kernel_rfl) (by kernel_rfl) (fun _ _ _ h => h) (Or.inl ⟨by rfl, fun X hS => ?_⟩) hHeld ?_
          · obtain ⟨hS1, v0, v1, v2⟩ := EnT.all hS
            go_simp
          try simp only [Act.put, List.getElem_toArray, List.getElem_cons_zero, List.getElem_cons_succ, List.setIfInBounds_toArray, List.set_cons_zero, List.set_cons_succ]
          refine wpAnyH_ready (rs := [6]) (by kernel_rfl) (by simp) (AllReadyH.cons rfl (fun K1 hK1 => ?_) AllReadyH.nil)
          obtain ⟨_, f0, f1, f2⟩ := HEX1.out.all
          obtain ⟨u0, u1, u2⟩ := HEX1.out.old
          go_simp
          have hz := st3_at HEX1.out.o (.pointer (some ⟨A, 0, none⟩)) (.int .i64 ((16 + 16 * j : Nat) : Int)) (.int .i64 16)
          have HZB := Lib.hid (st3_below HEX1.out.be HEX1.out.os (.pointer (some ⟨A, 0, none⟩)) (.int .i64 ((16 + 16 * j : Nat) : Int)) (.int .i64 16))
          have hrb := EnT.stored (v0 := .pointer (some ⟨A, 0, none⟩)) (v1 := .int .i64 ((16 + 16 * j : Nat) : Int)) (v2 := .int .i64 16) HEX1.out HFX1.out
          obtain ⟨z, hzz⟩ : ∃ z, st3 x1 O (.pointer (some ⟨A, 0, none⟩)) (.int .i64 ((16 + 16 * j : Nat) : Int)) (.int .i64 16) = z := ⟨_, rfl⟩
          rw [hzz] at hz HZB hrb
          have hzz2 : ((x1.setCell ⟨O, 0, none⟩ (.pointer (some ⟨A, 0, none⟩))).setCell ⟨O, 1, none⟩ (.int .i64 (16 + 16 * (j : Int)))).setCell ⟨O, 2, none⟩ (.int .i64 16) = z := by rw [← hzz]; unfold st3; push_cast; rfl
          rw [hzz2]
          have HZ := Lib.hid hz
          clear hHeld f0 f1 f2 u0 u1 u2 hzz hzz2 hz HEX1 HFX1
          refine hK1.out _ _ hrb (fun hHeld => ?_)
          clear hK1 hrb
          try simp only [Act.put, List.getElem_toArray, List.getElem_cons_zero, List.getElem_cons_succ, List.setIfInBounds_toArray, List.set_cons_zero, List.set_cons_succ]
          refine wpAnyH_take (i := 7) (v := (.int .i64 0)) rfl (by kernel_rfl) (by kernel_rfl) (by kernel_rfl) (fun _ _ _ h => h) (Or.inl ⟨by rfl, fun X hS => ?_⟩) hHeld ?_
          · obtain ⟨hS1, v0, v1, v2⟩ := EnT.all hS
            go_simp
          try simp only [Act.put, List.getElem_toArray, List.getElem_cons_zero, List.getElem_cons_succ, List.setIfInBounds_toArray, List.set_cons_zero, List.set_cons_succ]
          refine wpAnyH_done (by kernel_rfl) ?_ _
          clear hHeld
          have hz := HZ.out
          have g0 := (cell_blk hz 0).1; have g1 := (cell_blk hz 1).1; have g2 := (cell_blk hz 2).1
          go_wp2_with fail
          exact bodyPost_ret (v := .tuple #[.int .u64 ((256 * (g + 1) + j : Nat) : Int), vwV A (16 + 16 * j) 16, .int .i64 0]) (by simp [results, Try.results35, go_sem, g0, g1, g2]) rfl ⟨.inl ⟨j, HJN.out, ⟨HXG.out.1, by rw [HXG.out.2]; exact HGB.out⟩, HNF.out, by unfold hOf; rw [HXG.out.2]⟩, HZB.out⟩

        · have hgl2 : decide ((g : Int) < 72057594037927935) = false := decide_eq_false (by omega)
          have HNF2 : Hid (∀ k, k < j + 1 → ¬ free q k) := Lib.hid fun k hk => by
            rcases Nat.lt_or_ge k j with c | c
            · exact HNF.out k c
            · obtain rfl : k = j := by omega
              unfold free; rw [HXG.out.2]; omega
          have HE4 := Lib.hid HE3.out.1
          subst hx0
          clear hgl HE3
          have hjn := HJN.out
          have hn2 := HN2.out
          go_wp2_with fail
          go_roundw
          case rel => exact ⟨j + 1, by omega, by go_num, HNF2, HE4⟩
          case measure => simp [intOf]; omega
      · have hx1 : ¬ ((x : Int) = 0) := by omega
        have HNF2 : Hid (∀ k, k < j + 1 → ¬ free q k) := Lib.hid fun k hk => by
          rcases Nat.lt_or_ge k j with c | c
          · exact HNF.out k c
          · obtain rfl : k = j := by omega
            unfold free; rw [HXG.out.1]; omega
        have HE4 := Lib.hid HE3.out.1
        clear HE3
        have hjn := HJN.out
        have hn2 := HN2.out
        go_wp2_with fail
        go_roundw
        case rel => exact ⟨j + 1, by omega, by go_num, HNF2, HE4⟩
        case measure => simp [intOf]; omega
    · obtain rfl : j = n := by omega
      obtain ⟨u0, u1, u2⟩ := HE.out.old
      go_wp2_with fail
      change bodyPost _ _ _ _ _ (st3 wr O (.pointer none) (.int .i64 0) (.int .i64 0))
      have hz := st3_at HE.out.o (.pointer none) (.int .i64 0) (.int .i64 0)
      have HZB := Lib.hid (st3_below HE.out.be HE.out.os (.pointer none) (.int .i64 0) (.int .i64 0))
      obtain ⟨z, hzz⟩ : ∃ z, st3 wr O (.pointer none) (.int .i64 0) (.int .i64 0) = z := ⟨_, rfl⟩
      rw [hzz] at hz HZB ⊢
      have g0 := (cell_blk hz 0).1; have g1 := (cell_blk hz 1).1; have g2 := (cell_blk hz 2).1
      exact bodyPost_ret (v := .tuple #[.int .u64 0, zvV, .int .i64 10]) (by simp [results, Try.results35, go_sem, g0, g1, g2]) rfl ⟨.inr ⟨HNF.out, rfl⟩, HZB.out⟩
end
end Go.Proofs.Ytllghngjnhbmaaa.Bt
