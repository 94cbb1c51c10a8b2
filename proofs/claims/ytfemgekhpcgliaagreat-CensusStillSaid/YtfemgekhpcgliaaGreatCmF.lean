/- Several texts in one: BwO; LsH; BwP; BtA; BtB; BtC; BtD; BtE; BtF. -/
import Derived.Test.YtfemgekhpcgliaaGreatCmE
import Derived.Test.YtfemgekhpcgliaaGreatCmC
import Derived.BigRegion
import Derived.Deep.DeepCutAuto
/- A buddy's ownOf, over. -/
namespace Go.Proofs.YtfemgekhpcgliaaGreat.Bt
open Go Go.RowKit Go.Shelf
set_option linter.unusedVariables false
set_option linter.unusedSimpArgs false
section
variable {A : Nat} {s : ASt} {w : World}
theorem sum_two (L : Nat) (hL : L ≤ 2000) : Sz.sumV [256, (L : Int)] = 256 + L ∧ Sz.sumB [256, (L : Int)] = true := by
  have h1 : Sz.isSz 256 = true := by decide
  have h2 : Sz.isSz (L : Int) = true := by unfold Sz.isSz; rw [decide_eq_true_iff]; omega
  have h3 : Sz.isSz (256 + (L : Int)) = true := by unfold Sz.isSz; rw [decide_eq_true_iff]; omega
  simp [Sz.sumV, Sz.sumB, Sz.sumF, h1, h2, h3]
set_option maxHeartbeats 2000000 in
theorem bownof (h : On A s w) (hL : s.L ≤ 80) : Calls Tryz.prog 43 #[.pointer (some ⟨A, 0, none⟩)] w (Gives (.tuple #[.int .i64 ((256 + s.L : Nat) : Int), .int .i64 1]) w) := by
  obtain ⟨L, hLL⟩ : ∃ L, s.L = L := ⟨_, rfl⟩
  have HC := Lib.hid (on_cap8 h)
  rw [hLL] at hL HC ⊢
  obtain ⟨s1, s2⟩ := sum_two L (by omega)
  have HS := Lib.hid (Sz.sum_calls w.heap.size 0 2 [256, (L : Int)] (w.alloc (.cells #[.int .i64 256, .int .i64 (L : Int)] 3)) (by simp) (fun k hk => by
    have hk2 : k = 0 ∨ k = 1 := by simp at hk; omega
    rw [(cell_blk (heap_new w _) _).1]
    rcases hk2 with rfl | rfl <;> rfl))
  rw [s1, s2] at HS
  obtain ⟨m, hm⟩ : ∃ m, 256 + L = m := ⟨_, rfl⟩
  have e1 : (256 : Int) + (L : Int) = (m : Int) := by omega
  have HP := Lib.hid fun X => Sz.pages_calls (m : Int) X
  have hp : Sz.pgV (m : Int) = 1 := by unfold Sz.pgV; rw [if_pos (by unfold Sz.isSz; rw [decide_eq_true_iff]; omega)]; omega
  rw [hp] at HP
  rw [e1] at HS
  rw [hm]
  have HB := Lib.hid (bel1 w (.cells #[.int .i64 256, .int .i64 (L : Int)] 3))
  simp only [List.length_cons, List.length_nil, Nat.zero_add, Nat.reduceAdd] at HS
  clear h hLL s1 s2 hm hp e1
  go_enter Tryz.func43, Tryz.ntmps43
  go_wp2_with fail
  refine HC.out.mono ?_
  rintro e w' ⟨rfl, rfl⟩
  go_wp2_with fail
  refine HS.out.mono ?_
  rintro e w' ⟨rfl, rfl⟩
  go_wp2_with fail
  refine (HP.out _).mono ?_
  rintro e w' ⟨rfl, rfl⟩
  go_wp2_with fail
  go_ret2
  exact ⟨rfl, HB.out⟩
/-- a view's variable -/
def VwV (T A va vs : Nat) (w : World) : Prop := w.heap[T]? = some (.cells #[.pointer (some ⟨A, 0, none⟩), .int .i64 (va : Int), .int .i64 (vs : Int)] 40 (0, 0))
theorem VwV.below {T A va vs : Nat} {x y : World} (h : VwV T A va vs x) (hb : Below x.heap.size x y) : VwV T A va vs y := (hb.block _ (Array.getElem?_eq_some_iff.1 h).1).trans h
theorem VwV.all {T A va vs : Nat} {x : World} (h : VwV T A va vs x) : x.cell? ⟨T, 0, none⟩ = some (.pointer (some ⟨A, 0, none⟩)) ∧ x.cell? ⟨T, 1, none⟩ = some (.int .i64 (va : Int)) ∧ x.cell? ⟨T, 2, none⟩ = some (.int .i64 (vs : Int)) := by
  refine ⟨?_, ?_, ?_⟩ <;> (rw [(cell_blk h _).1]; rfl)
theorem VwV.lt {T A va vs : Nat} {x : World} (h : VwV T A va vs x) : T < x.heap.size := (Array.getElem?_eq_some_iff.1 h).1
theorem VwV.far {T A va vs R : Nat} {x : World} (h : VwV T A va vs x) (hne : T ≠ R) (u v z : Value) : VwV T A va vs (((x.setCell ⟨R, 0, none⟩ u).setCell ⟨R, 1, none⟩ v).setCell ⟨R, 2, none⟩ z) :=
  (Below.heap_setCell _ ⟨R, 2, none⟩ _ _ hne).trans ((Below.heap_setCell _ ⟨R, 1, none⟩ _ _ hne).trans ((Below.heap_setCell _ ⟨R, 0, none⟩ _ _ hne).trans h))
theorem VwV.new (A va vs : Nat) (w : World) : VwV w.heap.size A va vs (w.alloc (.cells #[.pointer (some ⟨A, 0, none⟩), .int .i64 (va : Int), .int .i64 (vs : Int)] 40)) := heap_new _ _
def OverP (A n : Nat) (w : World) (e : Ending) (w' : World) : Prop := ∃ B, e = .returned (.tuple #[bdyP B, .int .i64 0]) ∧ BdyAt B A n w' ∧ w.heap.size ≤ B ∧ Below w.heap.size w w'
def Tb11 (A n O F K : Nat) (w : World) (s10 s7 : Value) (wx : World) : Prop := ∃ T, s10 = .pointer (some ⟨T, 0, none⟩) ∧ s7 = .int .i64 0 ∧ VwV T A 256 n wx ∧ VwV F A 0 256 wx ∧ VwV K A 16 88 wx ∧ Below w.heap.size w wx
set_option maxRecDepth 100000 in
set_option maxHeartbeats 8000000 in
theorem bover_yes (n : Nat) (h : On A s w) (hL : s.L = n + 1) (hn : n < 80) (ht : thereE s.L s.es 0 ((256 + s.L : Nat) : Int) = 0) : Calls Tryz.prog 45 #[.pointer (some ⟨A, 0, none⟩)] w (OverP A n w) := by
  have HO := Lib.hid (bownof h (by omega))
  have HC := Lib.hid fun X (hX : On A s X) => on_cap8 hX
  rw [hL] at HC HO
  have hf : ∀ (a k : Int), ofV (some ⟨A, 0, none⟩) a k 0 = .agg #[.pointer (some ⟨A, 0, none⟩), .int .i64 a, .int .i64 k] := fun a k => by unfold ofV; rw [if_pos rfl]
  have g := h.good
  have t1 : thereE s.L s.es 0 256 = 0 := there_part g ht (by omega) (by omega) (by omega)
  have t2 : thereE s.L s.es 16 88 = 0 := there_part g ht (by omega) (by omega) (by omega)
  have t3 : thereE s.L s.es 256 (n : Int) = 0 := there_part g ht (by omega) (by omega) (by omega)
  rw [hL] at ht t1 t2 t3
  obtain ⟨m, hm⟩ : ∃ m, 256 + (n + 1) = m := ⟨_, rfl⟩
  rw [hm] at ht HO
  have hmb : m ≤ 400 ∧ 256 + n ≤ m := by omega
  have HF := Lib.hid fun X (hX : On A s X) => on_of hX 0 (m : Int) (by omega)
  rw [hL, ht, hf] at HF
  have HP1 := Lib.hid fun X (hX : On A s X) => on_part hX 0 m (by omega) (by omega) 0 256 (by omega)
  rw [show addrV 0 m 0 256 = 0 from by unfold addrV; rw [if_pos (by omega)]; omega, hL, t1, hf] at HP1
  have HP2 := Lib.hid fun X (hX : On A s X) => on_part hX 0 256 (by omega) (by omega) 16 88 (by omega)
  rw [show addrV 0 256 16 88 = 16 from by decide, hL, t2, hf] at HP2
  have HP3 := Lib.hid fun X (hX : On A s X) => on_part hX 0 m (by omega) (by omega) 256 (n : Int) (by omega)
  rw [show addrV 0 m 256 n = 256 from by unfold addrV; rw [if_pos (by omega)]; omega, hL, t3, hf] at HP3
  have H := Lib.hid h
  have hsub : IntKind.i64.wrap (((n + 1 : Nat) : Int) - 1) = (n : Int) := by rw [IntKind.wrap_i64]; omega
  have HSUB := Lib.hid hsub
  obtain ⟨L, hLL⟩ : ∃ L, n + 1 = L := ⟨_, rfl⟩
  rw [hLL] at HC HSUB
  clear h hm ht hL t1 t2 t3 hf g hsub hLL
  go_enter Tryz.func45, Tryz.ntmps45
  go_wp2_with fail
  refine HO.out.mono ?_
  rintro e w1 ⟨rfl, hb⟩
  have H1 := Lib.hid (H.out.below hb)
  have HB1 := Lib.hid hb
  clear hb HO
  go_wp2_with fail
  refine (HF.out _ H1.out).mono ?_
  rintro e w2 ⟨rfl, hb⟩
  have H2 := Lib.hid ((H1.out.below hb).below (bel1 w2 (.cells #[.pointer (some ⟨A, 0, none⟩), .int .i64 0, .int .i64 (m : Int)] 40)))
  have HB2 := Lib.hid ((HB1.out.trans (hb.mono HB1.out.size)).alloc (HB1.out.trans (hb.mono HB1.out.size)).size (.cells #[.pointer (some ⟨A, 0, none⟩), .int .i64 0, .int .i64 (m : Int)] 40))
  have HO2 : Hid (VwV w2.heap.size A 0 m _) := Lib.hid (VwV.new A 0 m w2)
  clear hb HF
  go_upto_region 5 with fail
  obtain ⟨y2, hy2⟩ : ∃ y, w2.alloc (.cells #[.pointer (some ⟨A, 0, none⟩), .int .i64 0, .int .i64 (m : Int)] 40) = y := ⟨_, rfl⟩
  obtain ⟨O, hO⟩ : ∃ O, w2.heap.size = O := ⟨_, rfl⟩
  have HO2' : Hid (VwV w2.heap.size A 0 m (w2.alloc (.cells #[.pointer (some ⟨A, 0, none⟩), .int .i64 0, .int .i64 (m : Int)] 40))) := HO2
  rw [hy2] at H2 HB2 HO2' ⊢
  rw [hO] at HO2' ⊢
  clear hy2 hO HO2
  obtain ⟨o0, o1, o2⟩ := HO2'.out.all
  go_wp2_with fail
  refine (HP1.out _ H2.out).mono ?_
  rintro e w3 ⟨rfl, hb⟩
  have H3 := Lib.hid ((H2.out.below hb).below (bel1 w3 (.cells #[.pointer (some ⟨A, 0, none⟩), .int .i64 0, .int .i64 256] 40)))
  have HB3 := Lib.hid ((HB2.out.trans (hb.mono HB2.out.size)).alloc (HB2.out.trans (hb.mono HB2.out.size)).size (.cells #[.pointer (some ⟨A, 0, none⟩), .int .i64 0, .int .i64 256] 40))
  have HF3 : Hid (VwV w3.heap.size A 0 256 (w3.alloc (.cells #[.pointer (some ⟨A, 0, none⟩), .int .i64 0, .int .i64 256] 40))) := Lib.hid (VwV.new A 0 256 w3)
  have HO3 := Lib.hid ((HO2'.out.below hb).below (bel1 w3 (.cells #[.pointer (some ⟨A, 0, none⟩), .int .i64 0, .int .i64 256] 40)))
  clear hb o0 o1 o2 HP1 HO2' H2 HB2
  go_upto_region 8 with fail
  obtain ⟨y3, hy3⟩ : ∃ y, w3.alloc (.cells #[.pointer (some ⟨A, 0, none⟩), .int .i64 0, .int .i64 256] 40) = y := ⟨_, rfl⟩
  obtain ⟨F, hF⟩ : ∃ F, w3.heap.size = F := ⟨_, rfl⟩
  rw [hy3] at H3 HB3 HF3 HO3 ⊢
  rw [hF] at HF3 ⊢
  clear hy3 hF
  obtain ⟨f0, f1, f2⟩ := HF3.out.all
  go_wp2_with fail
  refine (HP2.out _ H3.out).mono ?_
  rintro e w4 ⟨rfl, hb⟩
  have H4 := Lib.hid ((H3.out.below hb).below (bel1 w4 (.cells #[.pointer (some ⟨A, 0, none⟩), .int .i64 16, .int .i64 88] 40)))
  have HB4 := Lib.hid ((HB3.out.trans (hb.mono HB3.out.size)).alloc (HB3.out.trans (hb.mono HB3.out.size)).size (.cells #[.pointer (some ⟨A, 0, none⟩), .int .i64 16, .int .i64 88] 40))
  have HK4 : Hid (VwV w4.heap.size A 16 88 (w4.alloc (.cells #[.pointer (some ⟨A, 0, none⟩), .int .i64 16, .int .i64 88] 40))) := Lib.hid (VwV.new A 16 88 w4)
  have HO4 := Lib.hid ((HO3.out.below hb).below (bel1 w4 (.cells #[.pointer (some ⟨A, 0, none⟩), .int .i64 16, .int .i64 88] 40)))
  have HF4 := Lib.hid ((HF3.out.below hb).below (bel1 w4 (.cells #[.pointer (some ⟨A, 0, none⟩), .int .i64 16, .int .i64 88] 40)))
  clear hb f0 f1 f2 HP2 HO3 HF3 H3 HB3
  go_upto_region 11 with fail
  obtain ⟨y4, hy4⟩ : ∃ y, w4.alloc (.cells #[.pointer (some ⟨A, 0, none⟩), .int .i64 16, .int .i64 88] 40) = y := ⟨_, rfl⟩
  obtain ⟨K, hK⟩ : ∃ K, w4.heap.size = K := ⟨_, rfl⟩
  rw [hy4] at H4 HB4 HK4 HO4 HF4 ⊢
  rw [hK] at HK4 ⊢
  clear hy4 hK
  go_cut [10, 7] (fun s10 s7 wx => Tb11 A n O F K w s10 s7 wx)
  case first =>
    as_aux_lemma =>
    have hsub := HSUB.out
    have hw1 : On A s y4.drew := H4.out.below (Below.refl _ _).drew
    have hw2 : On A s (y4.alloc (.cells #[.pointer none, .int .i64 0, .int .i64 0] 40)).drew := H4.out.below ((bel1 y4 (.cells #[.pointer none, .int .i64 0, .int .i64 0] 40)).drew)
    have hw3 : On A s (y4.drew.alloc (.cells #[.pointer none, .int .i64 0, .int .i64 0] 40)) := H4.out.below ((Below.refl y4.heap.size y4).drew.alloc (Nat.le_refl _) (.cells #[.pointer none, .int .i64 0, .int .i64 0] 40))
    have hk1 : VwV O A 0 m y4.drew := HO4.out.below (Below.refl _ _).drew
    have hk2 : VwV O A 0 m (y4.alloc (.cells #[.pointer none, .int .i64 0, .int .i64 0] 40)).drew := HO4.out.below ((bel1 y4 (.cells #[.pointer none, .int .i64 0, .int .i64 0] 40)).drew)
    have hk3 : VwV O A 0 m (y4.drew.alloc (.cells #[.pointer none, .int .i64 0, .int .i64 0] 40)) := HO4.out.below ((Below.refl y4.heap.size y4).drew.alloc (Nat.le_refl _) (.cells #[.pointer none, .int .i64 0, .int .i64 0] 40))
    go_region_held3 (fun x => x.cell? ⟨O, 0, none⟩ = some (.pointer (some ⟨A, 0, none⟩)) ∧ x.cell? ⟨O, 1, none⟩ = some (.int .i64 0) ∧ x.cell? ⟨O, 2, none⟩ = some (.int .i64 (m : Int)))
      (first | assumption | exact hk1.all | exact hk2.all | exact hk3.all
             | exact hov.all | exact hov0.all | exact hov1.all | exact hov2.all)
      (first | (go_at_call 35
                with_reducible refine (HC.out _ hw1).mono ?_
                rintro e w' ⟨rfl, rfl⟩)
             | (go_at_call 35
                with_reducible refine (HC.out _ hw2).mono ?_
                rintro e w' ⟨rfl, rfl⟩)
             | (go_at_call 93
                refine (HP3.out _ hw1).mono ?_
                rintro e w'' ⟨rfl, hbg⟩
                have hbw : Below y4.heap.size y4 w'' := (Below.refl _ _).drew.trans hbg
                have hov := HO4.out.below hbw
                have hov0 := hov.below (bel1 w'' (.cells #[.pointer none, .int .i64 0, .int .i64 0] 40))
                have hov1 := hov.below (bel1 w'' (.cells #[.pointer (some ⟨A, 0, none⟩), .int .i64 256, .int .i64 (n : Int)] 40))
                have kk2 := hov.all)
             | (go_at_call 93
                refine (HP3.out _ hw2).mono ?_
                rintro e w'' ⟨rfl, hbg⟩
                have hT3 : w''.heap[y4.heap.size]? = some (.cells #[.pointer none, .int .i64 0, .int .i64 0] 40 (0, 0)) := (hbg.block y4.heap.size (by show y4.heap.size < (y4.alloc (.cells #[.pointer none, .int .i64 0, .int .i64 0] 40)).heap.size; simp)).trans (heap_new y4 (.cells #[.pointer none, .int .i64 0, .int .i64 0] 40))
                have r0 := (cell_blk hT3 0).1; have r1 := (cell_blk hT3 1).1; have r2 := (cell_blk hT3 2).1; have f0 := (cell_blk hT3 0).2; have f1 := (cell_blk hT3 1).2; have f2 := (cell_blk hT3 2).2
                have hneO : O ≠ y4.heap.size := Nat.ne_of_lt HO4.out.lt
                have hbw : Below y4.heap.size y4 w'' := ((bel1 y4 (.cells #[.pointer none, .int .i64 0, .int .i64 0] 40)).drew).trans (hbg.mono ((bel1 y4 (.cells #[.pointer none, .int .i64 0, .int .i64 0] 40)).drew).size)
                have hov := HO4.out.below hbw
                have HT3 := Lib.hid hT3
                have hov2 := hov.far hneO (.pointer (some ⟨A, 0, none⟩)) (.int .i64 256) (.int .i64 (n : Int))
                have kk2 := hov.all
                clear hT3)
             | (go_at_call 93
                refine (HP3.out _ hw3).mono ?_
                rintro e w'' ⟨rfl, hbg⟩
                have hT3 : w''.heap[y4.drew.heap.size]? = some (.cells #[.pointer none, .int .i64 0, .int .i64 0] 40 (0, 0)) := (hbg.block y4.drew.heap.size (by simp)).trans (heap_new y4.drew (.cells #[.pointer none, .int .i64 0, .int .i64 0] 40))
                have r0 := (cell_blk hT3 0).1; have r1 := (cell_blk hT3 1).1; have r2 := (cell_blk hT3 2).1; have f0 := (cell_blk hT3 0).2; have f1 := (cell_blk hT3 1).2; have f2 := (cell_blk hT3 2).2
                have hneO : O ≠ y4.heap.size := Nat.ne_of_lt HO4.out.lt
                have hbw : Below y4.heap.size y4 w'' := ((Below.refl y4.heap.size y4).drew.alloc (Nat.le_refl _) (.cells #[.pointer none, .int .i64 0, .int .i64 0] 40)).trans (hbg.mono ((Below.refl y4.heap.size y4).drew.alloc (Nat.le_refl _) (.cells #[.pointer none, .int .i64 0, .int .i64 0] 40)).size)
                have hov := HO4.out.below hbw
                have HT3 : Hid (w''.heap[y4.heap.size]? = some (.cells #[.pointer none, .int .i64 0, .int .i64 0] 40 (0, 0))) := Lib.hid hT3
                have hov2 := hov.far hneO (.pointer (some ⟨A, 0, none⟩)) (.int .i64 256) (.int .i64 (n : Int))
                have kk2 := hov.all
                clear hT3))
    all_goals go_wp2_with fail
    all_goals go_meet
    all_goals first
      | exact ⟨_, rfl, rfl, VwV.new A 256 n w'', (HF4.out.below hbw).below (bel1 w'' (.cells #[.pointer (some ⟨A, 0, none⟩), .int .i64 256, .int .i64 (n : Int)] 40)), (HK4.out.below hbw).below (bel1 w'' (.cells #[.pointer (some ⟨A, 0, none⟩), .int .i64 256, .int .i64 (n : Int)] 40)), (HB4.out.trans (hbw.mono HB4.out.size)).alloc (HB4.out.trans (hbw.mono HB4.out.size)).size (.cells #[.pointer (some ⟨A, 0, none⟩), .int .i64 256, .int .i64 (n : Int)] 40)⟩
      | exact ⟨y4.heap.size, rfl, rfl, three_set HT3.out rfl (.pointer (some ⟨A, 0, none⟩)) (.int .i64 256) (.int .i64 (n : Int)), (HF4.out.below hbw).far (Nat.ne_of_lt HF4.out.lt) (.pointer (some ⟨A, 0, none⟩)) (.int .i64 256) (.int .i64 (n : Int)), (HK4.out.below hbw).far (Nat.ne_of_lt HK4.out.lt) (.pointer (some ⟨A, 0, none⟩)) (.int .i64 256) (.int .i64 (n : Int)),
          (((HB4.out.trans (hbw.mono HB4.out.size)).setCell (p := ⟨y4.heap.size, 0, none⟩) HB4.out.size (.pointer (some ⟨A, 0, none⟩))).setCell (p := ⟨y4.heap.size, 1, none⟩) HB4.out.size (.int .i64 256)).setCell (p := ⟨y4.heap.size, 2, none⟩) HB4.out.size (.int .i64 (n : Int))⟩
  case rest =>
    obtain ⟨T, rfl, rfl, ht, hf, hk, hb⟩ := hcut
    obtain ⟨y5, hy5⟩ : ∃ y, wc = y := ⟨_, rfl⟩
    rw [hy5] at ht hf hk hb ⊢
    clear hy5
    have HT := Lib.hid ht; have HF5 := Lib.hid hf; have HK5 := Lib.hid hk; have HB5 := Lib.hid hb
    clear ht hf hk hb HF4 HK4 HB4 HO4 H4 HC HP3
    go_upto_region 14 with fail
    have ht1 := (HT.out.below (Below.refl _ _).drew).all
    have hf1 := (HF5.out.below (Below.refl _ _).drew).all
    have hk1 := (HK5.out.below (Below.refl _ _).drew).all
    go_region_held3 (fun x => x.cell? ⟨F, 0, none⟩ = some (.pointer (some ⟨A, 0, none⟩)) ∧ x.cell? ⟨F, 1, none⟩ = some (.int .i64 0) ∧ x.cell? ⟨F, 2, none⟩ = some (.int .i64 256) ∧ x.cell? ⟨K, 0, none⟩ = some (.pointer (some ⟨A, 0, none⟩)) ∧ x.cell? ⟨K, 1, none⟩ = some (.int .i64 16) ∧ x.cell? ⟨K, 2, none⟩ = some (.int .i64 88) ∧ x.cell? ⟨T, 0, none⟩ = some (.pointer (some ⟨A, 0, none⟩)) ∧ x.cell? ⟨T, 1, none⟩ = some (.int .i64 256) ∧ x.cell? ⟨T, 2, none⟩ = some (.int .i64 (n : Int)))
      (first | assumption | exact ⟨hf1.1, hf1.2.1, hf1.2.2, hk1.1, hk1.2.1, hk1.2.2, ht1.1, ht1.2.1, ht1.2.2⟩ | exact ⟨hf4.1, hf4.2.1, hf4.2.2, hk4.1, hk4.2.1, hk4.2.2, ht4.1, ht4.2.1, ht4.2.2⟩)
      (first | (go_at_call 94
                refine (lopenL (some ⟨A, 0, none⟩) 16 88 _).mono ?_
                rintro e w6 ⟨rfl, hb6⟩
                have hbx : Below y5.heap.size y5 w6 := (Below.refl _ _).drew.trans hb6
                have hf2 := (HF5.out.below hbx).all
                have hk2 := (HK5.out.below hbx).all
                have ht2 := (HT.out.below hbx).all
                have kk : _ ∧ _ ∧ _ ∧ _ ∧ _ ∧ _ ∧ _ ∧ _ ∧ _ := ⟨hf2.1, hf2.2.1, hf2.2.2, hk2.1, hk2.2.1, hk2.2.2, ht2.1, ht2.2.1, ht2.2.2⟩)
             | (go_at_call 95
                refine (topen_any (some ⟨A, 0, none⟩) 256 n _).mono ?_
                rintro e w7 ⟨rfl, hb7⟩
                have hby : Below y5.heap.size y5 w7 := hbx.trans (hb7.mono hbx.size)
                have hbz := hby.alloc hby.size (.cells #[.pointer (some ⟨A, 0, none⟩), .pointer (some ⟨A, 0, none⟩), .int .i64 0, .int .i64 256, .pointer (some ⟨A, 0, none⟩), .int .i64 16, .int .i64 88, .pointer (some ⟨A, 0, none⟩), .int .i64 256, .int .i64 (n : Int)] 45)
                have hf3 := (HF5.out.below hby).all
                have hk3 := (HK5.out.below hby).all
                have ht3 := (HT.out.below hby).all
                have hf4 := (HF5.out.below hbz).all
                have hk4 := (HK5.out.below hbz).all
                have ht4 := (HT.out.below hbz).all
                have kk2 : _ ∧ _ ∧ _ ∧ _ ∧ _ ∧ _ ∧ _ ∧ _ ∧ _ := ⟨hf3.1, hf3.2.1, hf3.2.2, hk3.1, hk3.2.1, hk3.2.2, ht3.1, ht3.2.1, ht3.2.2⟩))
    have HF : Hid (OverP A n w (.returned (.tuple #[bdyP w7.heap.size, .int .i64 0])) (w7.alloc (.cells #[.pointer (some ⟨A, 0, none⟩), .pointer (some ⟨A, 0, none⟩), .int .i64 0, .int .i64 256, .pointer (some ⟨A, 0, none⟩), .int .i64 16, .int .i64 88, .pointer (some ⟨A, 0, none⟩), .int .i64 256, .int .i64 (n : Int)] 45))) := Lib.hid ⟨w7.heap.size, rfl, heap_new w7 (.cells #[.pointer (some ⟨A, 0, none⟩), .pointer (some ⟨A, 0, none⟩), .int .i64 0, .int .i64 256, .pointer (some ⟨A, 0, none⟩), .int .i64 16, .int .i64 88, .pointer (some ⟨A, 0, none⟩), .int .i64 256, .int .i64 (n : Int)] 45), Nat.le_trans HB5.out.size hby.size, HB5.out.trans (hbz.mono HB5.out.size)⟩
    clear hf1 hk1 ht1 hf2 hk2 ht2 hf3 hk3 ht3 hf4 hk4 ht4 kk kk2 hby hbx hb6 hb7
    go_wp2_with fail
    go_ret2
    exact HF.out
end
end Go.Proofs.YtfemgekhpcgliaaGreat.Bt
/- An arena of three pages, two of them committed; lists in it; the statements' open and example. -/
namespace Go.Proofs.YtfemgekhpcgliaaGreat.Bt
open Go Go.RowKit Go.Shelf
set_option linter.unusedVariables false

def twoS (m : Nat → UInt8) : ASt := ⟨3, [0, 2], m, false, 0⟩
theorem good_two : Good 3 [0, 2] := ⟨by simp [Rising], by simp, (fun e h => by simp at h; omega), by omega⟩
theorem there_two {a k : Int} (h0 : 0 ≤ a) (h1 : 0 ≤ k) (h2 : a + k ≤ 8192) : thereE 3 [0, 2] a k = 0 := by
  unfold thereE
  rw [if_pos]
  exact (there_iff good_two a k).2 ⟨h0, h1, by omega, fun i i1 i2 => by have := mem_full (L := 2) (by omega) (i / 4096); rw [this]; simp; omega⟩
theorem two_new : commitE (newS 3) 0 2 = 0 ∧ commitS (newS 3) 0 2 = twoS (fun _ => 0) := by
  have he : commitE (newS 3) 0 2 = 0 := by decide
  refine ⟨he, ?_⟩
  unfold commitE at he
  unfold commitS
  have hn : ¬ (countE (newS 3).L 0 2 ≠ 0 ∨ 0 < countR (newS 3).L (newS 3).es 0 2) := by decide
  rw [if_neg hn, show refB (newS 3) = false from rfl]
  show ASt.mk _ _ _ _ _ = _
  rw [show laidS (newS 3).L (newS 3).es 0 2 true = [0, 2] from by decide]; rfl
theorem numV_zero (a k : Nat) : numV (fun _ => 0) a k = 0 := by
  induction k with
  | zero => rfl
  | succ k ih => unfold numV; rw [ih]; simp
/-- two links apart -/
abbrev Off (a b : Nat) : Prop := a + 8 ≤ b ∨ b + 8 ≤ a
section
variable {A : Nat} {s : ASt} {w : World}
/-- what a list becomes by a member more; other lists stay -/
def AddP (A : Nat) (s : ASt) (va vs : Nat) (k : Int) (h0 x : Nat) (ms : List Nat) (w : World) (e : Ending) (w' : World) : Prop :=
  ∃ m', e = .returned (.int .i64 0) ∧ On A { s with mm := m' } w' ∧ Went A w w' ∧ LsK { s with mm := m' } va vs k h0 (ins x ms) ∧
    ∀ k' h1 ns, LsK s va vs k' h1 ns → (∀ c ∈ h1 :: ns, Off x c ∧ ∀ d ∈ h0 :: ms, Off d c) → LsK { s with mm := m' } va vs k' h1 ns
theorem ladd_ls (h : On A s w) (va vs : Nat) (h1 : va ≤ 4294967296) (h2 : vs ≤ 4294967296) (k : Int) (h0 x : Nat) (ms : List Nat) (hl : LsK s va vs k h0 ms) (hx : 0 < x) (hm : x ∉ ms) (hT : thereE s.L s.es x 16 = 0)
    (ha : Apart (h0 :: ms)) (hf : ∀ c ∈ h0 :: ms, x + 8 ≤ c ∨ c + 8 ≤ x) :
    Calls Tryz.prog 115 #[lsP (some ⟨A, 0, none⟩) va vs, .int .i64 k, .int .i64 (x : Int)] w (AddP A s va vs k h0 x ms w) :=
  (ladd_yes h va vs h1 h2 k h0 x ms hl hx hm hT).mono fun e w' ⟨he, ho, hg⟩ => by
    refine ⟨_, he, ho, hg, ?_, fun k' g0 ns hn hc => ?_⟩
    · obtain ⟨kn, e1, e2, e3, e4⟩ := hl
      exact ⟨kn, e1, e2, e3, add_ch h.good hT 8 e4 hx hm ha hf⟩
    · obtain ⟨kn, e1, e2, e3, e4⟩ := hn
      refine ⟨kn, e1, e2, e3, e4.keep fun c hcm => ?_⟩
      have h3 := hc c hcm
      have h4 := h3.2 _ (fnd_mem h0 8 ms x)
      show numV (put8 (put8 s.mm x _) _ x) c 8 = _
      rw [put8_far _ _ (by omega), put8_far _ _ (by omega)]
end
/-- the lists of a new arena -/
theorem ls_new (vs k : Nat) (hk : k < vs / 8) (hv : vs ≤ 4000) : LsK (twoS fun _ => 0) 64 vs k (64 + 8 * k) [] := ⟨k, rfl, hk, rfl, there_two (by omega) (by omega) (by omega), numV_zero _ _⟩
def OpenQ (n : Nat) (w : World) (e : Ending) (w' : World) : Prop :=
  ∃ A, e = .returned (.tuple #[.pointer (some ⟨A, 0, none⟩), lsP (some ⟨A, 0, none⟩) 64 (8 * n + 3), .bool true]) ∧ On A (twoS (fun _ => 0)) w' ∧ Base A w w'
set_option maxHeartbeats 2000000 in
theorem open7 (n : Nat) (hn : n ≤ 400) (w : World) : Calls Tryz.prog 125 #[.int .i64 (n : Int)] w (OpenQ n w) := by
  have L1 : Hid (lenN 3 = 3) := Lib.hid (by decide)
  have E1 : Hid (commitE (newS 3) 0 2 = 0) := Lib.hid two_new.1
  have S1 : Hid (commitS (newS 3) 0 2 = twoS (fun _ => 0)) := Lib.hid two_new.2
  obtain ⟨vs, hvs⟩ : ∃ vs : Nat, 8 * n + 3 = vs := ⟨_, rfl⟩
  have T1 : Hid (thereE (twoS fun _ => 0).L (twoS fun _ => 0).es 64 vs = 0) := Lib.hid (there_two (by omega) (by omega) (by omega))
  have HV : Hid (∀ pu a k, ofV pu a k 0 = .agg #[.pointer pu, .int .i64 a, .int .i64 k]) := Lib.hid fun pu a k => by unfold ofV; rw [if_pos rfl]
  have q1 : IntKind.i64.wrap (IntKind.i64.wrap (8 * (n : Int)) + 3) = (vs : Int) := by rw [IntWalk.i64_in (8 * (n : Int)) (by omega), IntWalk.i64_in _ (by omega)]; omega
  have q2 : (8 * (n : Int)) + 3 = (vs : Int) := by omega
  have hvl : vs ≤ 4294967296 := by omega
  have HQ := Lib.hid (And.intro q1 q2)
  unfold OpenQ
  rw [hvs]
  clear hvs q1 q2 hn
  go_enter Tryz.func125, Tryz.ntmps125
  go_wp2_with fail
  refine (on_new 3 _).mono ?_
  rintro e w1 ⟨A, rfl, hA, hx, hb, hm⟩
  rw [L1.out] at hx
  have HX1 := Lib.hid hx
  have HB1 := Lib.hid (show Base A w w1 from hb.rebase (bel1 w (.cells #[.pointer none, .int .i64 0, .int .i64 0] 42)))
  have HM1 := Lib.hid (hm w.heap.size (by simp))
  have HR1 := Lib.hid ((hb.bel.block w.heap.size (by simp)).trans (heap_new w (.cells #[.pointer none, .int .i64 0, .int .i64 0] 42)))
  clear hx hb hA hm
  go_wp2_with fail
  refine (on_commit HX1.out 0 2 (by omega)).mono ?_
  rintro e w2 ⟨rfl, hx, hg⟩
  rw [E1.out]; rw [S1.out] at hx
  have HX2 := Lib.hid hx
  have HB2 := Lib.hid (HB1.out.went hg)
  have HR2 := Lib.hid (HM1.out.at hg HR1.out)
  have HM2 := Lib.hid (HM1.out.went hg)
  clear hx hg
  obtain ⟨q1, q2⟩ := HQ.out
  go_wp2_with fail
  refine (on_of HX2.out 64 vs (by omega)).mono ?_
  rintro e w3 ⟨rfl, hb⟩
  rw [T1.out, HV.out]
  have HX3 := Lib.hid (HX2.out.below hb)
  have HB3 := Lib.hid (HB2.out.below HX2.out hb)
  have HR3 := Lib.hid ((hb.block _ (Array.getElem?_eq_some_iff.1 HR2.out).1).trans HR2.out)
  have HM3 := Lib.hid (HM2.out.went (Went.of_below HX2.out hb))
  clear hb q1 q2
  go_wp2_with fail
  have bV := Lib.hid (bel1 w3 (.cells #[.pointer (some ⟨A, 0, none⟩), .int .i64 64, .int .i64 (vs : Int)] 40))
  refine (lopenL (some ⟨A, 0, none⟩) 64 vs _).mono ?_
  rintro e w4 ⟨rfl, hb⟩
  have HX4 := Lib.hid ((HX3.out.below bV.out).below hb)
  have HB4 := Lib.hid ((HB3.out.below HX3.out bV.out).below (HX3.out.below bV.out) hb)
  have hr3 := HR3.out
  have hr4 := (hb.block w.heap.size (Nat.lt_of_lt_of_le (Array.getElem?_eq_some_iff.1 hr3).1 bV.out.size)).trans ((bV.out.block _ (Array.getElem?_eq_some_iff.1 hr3).1).trans hr3)
  have HR4 := Lib.hid hr4
  have HM4 := Lib.hid ((HM3.out.went (Went.of_below HX3.out bV.out)).went (Went.of_below (HX3.out.below bV.out) hb))
  have c0 := (cell_blk hr4 0).1; have c1 := (cell_blk hr4 1).1; have c2 := (cell_blk hr4 2).1
  have f0 := (cell_blk hr4 0).2; have f1 := (cell_blk hr4 1).2; have f2 := (cell_blk hr4 2).2
  clear hr3 hr4 hb
  go_wp2_with fail
  have h3 := three_set HR4.out rfl (.pointer (some ⟨A, 0, none⟩)) (.int .i64 64) (.int .i64 (vs : Int))
  have g0 := (cell_blk h3 0).1; have g1 := (cell_blk h3 1).1; have g2 := (cell_blk h3 2).1
  have hF := set3 (w0 := w) HX4.out HB4.out HM4.out (Nat.le_refl _) (.pointer (some ⟨A, 0, none⟩)) (.int .i64 64) (.int .i64 (vs : Int))
  have HF := Lib.hid hF
  clear hF
  exact bodyPost_ret (v := .tuple #[.pointer (some ⟨A, 0, none⟩), lsP (some ⟨A, 0, none⟩) 64 vs, .bool true]) (by simp [results, Tryz.results125, go_sem, g0, g1, g2]) rfl ⟨A, rfl, HF.out.1, HF.out.2⟩
/-- the statements' variable, the arena, what came in -/
structure LsV (R A vs : Nat) (s : ASt) (w0 x : World) : Prop where
  v : x.heap[R]? = some (.cells #[.pointer (some ⟨A, 0, none⟩), .int .i64 64, .int .i64 (vs : Int)] 42 (0, 0))
  o : On A s x
  b : Base A w0 x
theorem LsV.below {R A vs : Nat} {s : ASt} {w0 x y : World} (h : LsV R A vs s w0 x) (hb : Below x.heap.size x y) : LsV R A vs s w0 y := ⟨blk_on (A := A) hb h.v, h.o.below hb, h.b.below h.o hb⟩
theorem LsV.went {R A vs : Nat} {s s' : ASt} {w0 x y : World} (h : LsV R A vs s w0 x) (ho : On A s' y) (hg : Went A x y) : LsV R A vs s' w0 y := ⟨hg.keep h.o h.v (by decide) (by decide) (by decide), ho, h.b.went hg⟩
theorem LsV.all {R A vs : Nat} {s : ASt} {w0 x : World} (h : LsV R A vs s w0 x) : x.cell? ⟨R, 0, none⟩ = some (.pointer (some ⟨A, 0, none⟩)) ∧ x.cell? ⟨R, 1, none⟩ = some (.int .i64 64) ∧ x.cell? ⟨R, 2, none⟩ = some (.int .i64 (vs : Int)) :=
  ⟨(cell_blk h.v 0).1, (cell_blk h.v 1).1, (cell_blk h.v 2).1⟩
theorem LsV.start {A vs : Nat} {s : ASt} {w0 x : World} (ho : On A s x) (hb : Base A w0 x) : LsV x.heap.size A vs s w0 (x.alloc (.cells #[.pointer (some ⟨A, 0, none⟩), .int .i64 64, .int .i64 (vs : Int)] 42)) :=
  ⟨heap_new _ _, ho.below (bel1 _ _), hb.below ho (bel1 _ _)⟩
theorem apart1 (a : Nat) : Apart [a] := List.pairwise_singleton _ _
theorem apart2 {a b : Nat} (h : Off a b) : Apart [a, b] := List.pairwise_cons.2 ⟨fun c hc => by rw [List.mem_singleton.1 hc]; exact h, apart1 b⟩
set_option maxHeartbeats 4000000 in
set_option maxRecDepth 100000 in
theorem awake7 (w : World) : Calls Tryz.prog 86 #[] w (Gives (.bool true) w) := by
  have N0 := Lib.hid (ls_new 11 0 (by omega) (by omega))
  have TA : Hid (∀ m, thereE (twoS m).L (twoS m).es ((4128 : Nat) : Int) 16 = 0) := Lib.hid fun m => there_two (by omega) (by omega) (by omega)
  have TB : Hid (∀ m, thereE (twoS m).L (twoS m).es ((4096 : Nat) : Int) 16 = 0) := Lib.hid fun m => there_two (by omega) (by omega) (by omega)
  go_enter Tryz.func86, Tryz.ntmps86
  go_wp2_with fail
  refine (open7 1 (by omega) _).mono ?_
  rintro e w1 ⟨A, rfl, hx, hb⟩
  obtain ⟨R, hR⟩ : ∃ R, w1.heap.size = R := ⟨_, rfl⟩
  obtain ⟨w2, hw2⟩ : ∃ w2, w1.alloc (.cells #[.pointer (some ⟨A, 0, none⟩), .int .i64 64, .int .i64 11] 42) = w2 := ⟨_, rfl⟩
  have HV2 : Hid (LsV R A 11 (twoS fun _ => 0) w w2) := Lib.hid (by rw [← hw2, ← hR]; exact LsV.start hx hb)
  have HW2 := Lib.hid hw2
  clear hx hb hw2
  go_wp2_with fail
  rw [HW2.out]
  clear HW2 hR
  refine (ladd_ls HV2.out.o 64 11 (by omega) (by omega) 0 64 4128 [] N0.out (by omega) (by simp) (TA.out _) (apart1 _) (fun c hc => by rw [List.mem_singleton.1 hc]; omega)).mono ?_
  rintro e w3 ⟨m3, rfl, ho, hg, hl, _⟩
  have HV3 := Lib.hid (HV2.out.went ho hg)
  have HL3 : Hid (LsK (twoS m3) 64 11 0 64 [4128]) := Lib.hid hl
  obtain ⟨c0, c1, c2⟩ := HV3.out.all
  clear ho hg hl HV2 N0
  go_wp2_with fail
  refine (ladd_ls HV3.out.o 64 11 (by omega) (by omega) 0 64 4096 [4128] HL3.out (by omega) (by simp) (TB.out _) (apart2 (by omega)) (fun c hc => by simp at hc; omega)).mono ?_
  rintro e w4 ⟨m4, rfl, ho, hg, hl, _⟩
  have HV4 := Lib.hid (HV3.out.went ho hg)
  have HL4 : Hid (LsK (twoS m4) 64 11 0 64 [4096, 4128]) := Lib.hid hl
  clear c0 c1 c2
  obtain ⟨c0, c1, c2⟩ := HV4.out.all
  clear ho hg hl HV3 HL3
  go_wp2_with fail
  refine (lfirst HV4.out.o 64 11 (by omega) (by omega) 0 _ HL4.out.lk).mono ?_
  rintro e w5 ⟨rfl, hb⟩
  have HR : Hid (atV (prs 64 8 [4096, 4128]) 1 = 4096) := Lib.hid (by decide)
  rw [HR.out]
  have HV5 := Lib.hid (HV4.out.below hb)
  clear c0 c1 c2 hb HL4
  go_wp2_with fail
  refine (awake4 _).mono ?_
  rintro e w6 ⟨rfl, hb⟩
  have HV6 := Lib.hid (HV5.out.below hb)
  clear hb
  go_wp2_with fail
  go_ret
  exact ⟨rfl, HV6.out.b.bel⟩
end Go.Proofs.YtfemgekhpcgliaaGreat.Bt
/- A buddy's New, Open. -/
namespace Go.Proofs.YtfemgekhpcgliaaGreat.Bt
open Go Go.RowKit Go.Shelf
set_option linter.unusedVariables false
set_option linter.unusedSimpArgs false
/-- an arena on which nothing is committed yet -/
def Fr0 (s : ASt) : Prop := s.es = [] ∧ s.mm = fun _ => 0
theorem good_nil {L : Nat} (hL : L ≤ 1048576) : Good L [] := ⟨List.Pairwise.nil, rfl, (fun e h => by cases h), hL⟩
theorem there_none8 {L : Nat} (hL : L ≤ 1048576) {a k : Int} (hk : 0 < k) : thereE L [] a k = 3 := by
  unfold thereE
  rw [if_neg]
  intro h
  obtain ⟨h0, h1, h2, h3⟩ := (there_iff (good_nil hL) a k).1 h
  have := h3 a (Int.le_refl _) (by omega)
  cases this
theorem one_laid {L : Nat} (h1 : 1 ≤ L) (hL : L ≤ 1048576) : laidS L [] 0 1 true = [0, 1] := by
  refine good_ext (L := L) (laidS_good (good_nil hL) _ _ _) (good_up (by omega) h1 hL) fun i hi => ?_
  rw [mem_laidS (good_nil hL) (by unfold withinB; rw [decide_eq_true_iff]; omega), mem_up (by omega)]
  by_cases c : (0 : Int) ≤ i ∧ (i : Int) < 0 + 1
  · rw [if_pos c, decide_eq_true (by omega)]
  · rw [if_neg c, decide_eq_false (by omega)]; rfl
section
variable {A B : Nat} {s : ASt} {w : World}
theorem first_commit (hF : Fr0 s) (h1 : 1 ≤ s.L) (hL : s.L ≤ 1048576) : (refB s = true → commitE s 0 1 = 4 ∧ commitS s 0 1 = refS s) ∧ (refB s = false → commitE s 0 1 = 0 ∧ commitS s 0 1 = { refS s with es := [0, 1] }) := by
  have hc : countE s.L 0 1 = 0 := by
    unfold countE laidErr
    rw [if_neg (by omega), if_pos (by unfold withinB; rw [decide_eq_true_iff]; omega)]
  have hr : countR s.L s.es 0 1 = 0 := by
    rw [hF.1]
    unfold countR countV
    rw [if_neg (by omega), if_pos (by unfold withinB; rw [decide_eq_true_iff]; omega)]
    unfold memCount
    rw [Int.natCast_eq_zero, List.countP_eq_zero]
    intro i hi h
    cases h
  constructor <;> intro r <;> unfold commitE commitS <;> rw [hc, hr, r]
  · exact ⟨rfl, rfl⟩
  · refine ⟨rfl, ?_⟩
    rw [hF.1, one_laid h1 hL]
    rfl
/-- a buddy that has grown to nothing -/
theorem Bud.start (n : Nat) (hn : 1 ≤ n) (hn2 : n < 80) (rf : Bool) (lf : Nat) : Bud (n + 1) 0 0 (fun _ => Option.none) 0 ⟨n + 1, [0, 1], put8 (fun _ => 0) 0 bMark, rf, lf⟩ where
  cL := rfl
  c2 := by omega
  es := rfl
  gG := by omega
  mr := put8_same _ _ _ (by decide)
  gr := (put8_far _ _ (by omega)).trans (numV_zero 8 8)
  tg := fun p hp hh => by
    show (put8 (fun _ => 0) 0 bMark (256 + p)).toNat = _
    rw [put8_byte _ _ (by omega)]
    unfold codeR
    rw [if_neg (by omega)]; rfl
  ls := fun k hk => by
    have : freeL 1 (fun _ => Option.none) 0 0 k = [] := by
      cases e : freeL 1 (fun _ => Option.none) 0 0 k with
      | nil => rfl
      | cons c t => have : c ∈ freeL 1 (fun _ => Option.none) 0 0 k := by rw [e]; exact List.mem_cons_self ..
                    obtain ⟨i, h, _⟩ := freeL_mem.1 this; omega
    rw [this]
    exact ⟨there_up (L := n + 1) (e := 1) (by omega) (by omega) (by omega) (by omega) (by omega) (by omega), (put8_far _ _ (by omega)).trans (numV_zero _ 8)⟩
  ti := Til.start
def bS0 (s : ASt) (n : Nat) : ASt := ⟨n + 1, [0, 1], put8 (fun _ => 0) 0 bMark, (refS s).rf, (refS s).lf⟩
def NewPost (A : Nat) (s : ASt) (w : World) (e : Ending) (w' : World) : Prop :=
  (s.L ≤ 1 ∧ e = .returned (.tuple #[.pointer none, .int .i64 3]) ∧ On A s w' ∧ Went A w w') ∨
  (2 ≤ s.L ∧ refB s = true ∧ e = .returned (.tuple #[.pointer none, .int .i64 4]) ∧ On A (refS s) w' ∧ Went A w w') ∨
  (∃ n B, s.L = n + 1 ∧ 1 ≤ n ∧ refB s = false ∧ e = .returned (.tuple #[bdyP B, .int .i64 0]) ∧ BV B A n (bS0 s n) w' ∧ Went A w w' ∧ w.heap.size ≤ B)
set_option maxRecDepth 100000 in
set_option maxHeartbeats 8000000 in
theorem bnewP (h : On A s w) (hL : s.L ≤ 80) (hF : Fr0 s) : Calls Tryz.prog 11 #[.pointer (some ⟨A, 0, none⟩)] w (NewPost A s w) := by
  have HO := Lib.hid (bownof h hL)
  have HC := Lib.hid fun X (hX : On A s X) => on_cap8 hX
  have HCM := Lib.hid fun X (hX : On A s X) => on_commit hX 0 1 (by omega)
  have HFC : Hid (1 ≤ s.L → (refB s = true → commitE s 0 1 = 4 ∧ commitS s 0 1 = refS s) ∧ (refB s = false → commitE s 0 1 = 0 ∧ commitS s 0 1 = { refS s with es := [0, 1] })) := Lib.hid fun h1 => first_commit hF h1 (by omega)
  have HP : Hid (∀ e w', NewPost A s w e w' ↔ ((s.L ≤ 1 ∧ e = .returned (.tuple #[.pointer none, .int .i64 3]) ∧ On A s w' ∧ Went A w w') ∨
  (2 ≤ s.L ∧ refB s = true ∧ e = .returned (.tuple #[.pointer none, .int .i64 4]) ∧ On A (refS s) w' ∧ Went A w w') ∨
  (∃ n B, s.L = n + 1 ∧ 1 ≤ n ∧ refB s = false ∧ e = .returned (.tuple #[bdyP B, .int .i64 0]) ∧ BV B A n (bS0 s n) w' ∧ Went A w w' ∧ w.heap.size ≤ B))) := Lib.hid fun e w' => Iff.rfl
  have H := Lib.hid h
  have HZ := Lib.hid hF
  obtain ⟨L, hLL⟩ : ∃ L, s.L = L := ⟨_, rfl⟩
  have HLL := Lib.hid hLL
  rw [hLL] at HC hL HO
  clear h hLL hF
  go_enter Tryz.func11, Tryz.ntmps11
  go_wp2_with fail
  refine HO.out.mono ?_
  rintro e w1 ⟨rfl, hb⟩
  have H1 := Lib.hid (H.out.below hb)
  have HW1 := Lib.hid (Went.of_below H.out hb)
  have HB1 := Lib.hid hb.size
  clear hb HO
  by_cases hl1 : L ≤ 1
  · have hl2 : ¬ (1 : Int) < (L : Int) := by omega
    have HF := Lib.hid ((HP.out (.returned (.tuple #[.pointer none, .int .i64 3])) w1).2 (.inl ⟨by rw [HLL.out]; exact hl1, rfl, H1.out, HW1.out⟩))
    clear HP
    go_wp2_with fail
    refine (HC.out _ H1.out).mono ?_
    rintro e w' ⟨rfl, rfl⟩
    go_wp2_with fail
    go_ret2
    exact HF.out
  · have hl2 : (1 : Int) < (L : Int) := by omega
    obtain ⟨FC1, FC2⟩ := HFC.out (by rw [HLL.out]; omega)
    go_wp2_with fail
    refine (HC.out _ H1.out).mono ?_
    rintro e w' ⟨rfl, rfl⟩
    go_wp2_with fail
    refine (HCM.out _ H1.out).mono ?_
    rintro e w2 ⟨rfl, hx, hg⟩
    cases r : refB s with
    | true =>
      obtain ⟨q1, q2⟩ := FC1 r
      rw [q1]; rw [q2] at hx
      have HF := Lib.hid ((HP.out (.returned (.tuple #[.pointer none, .int .i64 4])) w2).2 (.inr (.inl ⟨by rw [HLL.out]; omega, r, rfl, hx, HW1.out.trans hg⟩)))
      clear HP hx hg FC1 FC2 q1 q2 r
      go_wp2_with fail
      go_ret2
      exact HF.out
    | false =>
      obtain ⟨q1, q2⟩ := FC2 r
      rw [q1]; rw [q2] at hx
      obtain ⟨n, hn⟩ : ∃ n, L = n + 1 := ⟨L - 1, by omega⟩
      have hLr : ({ refS s with es := [0, 1] } : ASt).L = n + 1 := by show (refS s).L = _; rw [refS_L, HLL.out, hn]
      have HOV := Lib.hid (bover_yes n hx hLr (by omega) (by rw [hLr]; exact there_up (by omega) (by omega) (by omega) (by omega) (by omega) (by omega)))
      have HX := Lib.hid (And.intro hx hLr)
      have HG := Lib.hid (HW1.out.trans hg)
      have HR := Lib.hid r
      have HN := Lib.hid (And.intro hn hl1)
      have HS2 := Lib.hid (Nat.le_trans HB1.out hg.size)
      clear hx hg FC1 FC2 q1 q2 r hn hLr hl1 hl2
      go_wp2_with fail
      refine HOV.out.mono ?_
      rintro e w3 ⟨B, rfl, hbd, hBw, hb⟩
      have HV3 : Hid (BV B A n { refS s with es := [0, 1] } w3) := Lib.hid ⟨HX.out.1.below hb, HX.out.2, hbd⟩
      have HG3 := Lib.hid (HG.out.trans (Went.of_below HX.out.1 hb))
      have HBW := Lib.hid (Nat.le_trans HS2.out hBw)
      have HST := Lib.hid (on_store HV3.out.1 0 256 (by omega) (by omega) 0 8 18405771255755860333 (by omega) (by omega))
      have ha : addrV 0 256 0 8 = 0 := by decide
      have he : numE ({ refS s with es := [0, 1] } : ASt).L ({ refS s with es := [0, 1] } : ASt).es 0 8 = 0 := by
        unfold numE; rw [show wholeB 8 = true from rfl, if_pos rfl, HX.out.2]
        exact there_up (by omega) (by have := HN.out; omega) (by have := HN.out; omega) (by omega) (by omega) (by omega)
      have hv : storeS ({ refS s with es := [0, 1] } : ASt) 0 8 18405771255755860333 = bS0 s n := by
        unfold storeS
        rw [if_pos he]
        unfold bS0
        show ASt.mk (refS s).L [0, 1] (putM (refS s).mm _ (numB 18405771255755860333 8)) _ _ = _
        rw [show (refS s).L = n + 1 from HX.out.2, refS_mm, HZ.out.2]
        rfl
      rw [ha, he, hv] at HST
      obtain ⟨c0, c1, c2, c3, _⟩ := HV3.out.all
      clear ha he hv hbd hBw hb HOV
      go_wp2_with fail
      refine HST.out.mono ?_
      rintro e w4 ⟨rfl, hx, hg⟩
      have hbv : BV B A n (bS0 s n) w4 := HV3.out.went hx hg (by show n + 1 = (refS s).L; exact HX.out.2.symm)
      have HF := Lib.hid ((HP.out (.returned (.tuple #[bdyP B, .int .i64 0])) w4).2 (.inr (.inr ⟨n, B, by rw [HLL.out]; exact HN.out.1, by have := HN.out; omega, HR.out, rfl, hbv, HG3.out.trans hg, HBW.out⟩)))
      clear hx hg hbv HP HST c0 c1 c2 c3
      go_wp2_with fail
      go_ret2
      exact HF.out
end
end Go.Proofs.YtfemgekhpcgliaaGreat.Bt
/- The buddy's statement: rows beside an arena; how many Commits are OK yet; the document's Order and Free of a buddy's runs. -/
namespace Go.Proofs.YtfemgekhpcgliaaGreat.Bt
open Go Go.RowKit Go.Shelf
set_option linter.unusedVariables false
set_option linter.unusedSimpArgs false
/-- a row of runs is no block of an arena's -/
theorem rn_own {A : Nat} {s : ASt} {x : World} (h : On A s x) {u : Option Addr} {L : List (Nat × Nat × Bool)} (hr : RnAt x u L) (hL : L ≠ []) {g : Nat} (hu : u = some ⟨g, 0, none⟩) : ¬ OwnW A x g := by
  obtain ⟨P, ps, p, n, cap, hx⟩ := h
  intro ho
  rcases hr with e | ⟨g', e, hg, hc⟩
  · exact hL e
  rw [hu] at e
  simp at e
  subst e
  have hl : 0 < L.length := List.length_pos_iff.2 hL
  obtain ⟨c0, c1, c2⟩ := hc 0 hl
  rw [Nat.zero_mul] at c0 c1 c2
  rcases (ownW_iff hx g).1 ho with rfl | rfl | ⟨i, hi⟩
  · rw [(cell_blk hx.hd _).1] at c1
    simp [headV] at c1
  · rw [(cell_blk hx.row _).1, rowV_get] at c0
    cases hps : ps[0]? with
    | none => rw [hps] at c0; cases c0
    | some v => rw [hps] at c0; cases v <;> simp [ptrV] at c0
  · rw [(cell_blk (hx.pg i g hi) _).1] at c0
    simp [pgCells] at c0
theorem RnAt.went {A : Nat} {s : ASt} {x y : World} (h : On A s x) (k : Went A x y) {u : Option Addr} {L : List (Nat × Nat × Bool)} (hr : RnAt x u L) : RnAt y u L := by
  by_cases hL : L = []
  · exact .inl hL
  refine hr.far k.size fun g hg => ?_
  have hlt : g < x.heap.size := by
    rcases hr with e | ⟨g', e, hl, _⟩
    · exact absurd e hL
    · rw [hg] at e; simp at e; omega
  exact k.block g hlt (rn_own h hr hL hg)
theorem BqAt.went {A D : Nat} {s : ASt} {o q g r : Int} {T : Value} {x y : World} (h : On A s x) (k : Went A x y) (hd : BqAt D o q g r T x) : BqAt D o q g r T y := k.keep h hd (by decide) (by decide) (by decide)
/-- how many Commits are OK yet -/
def rfI (s : ASt) : Int := if s.rf = true then (s.lf : Int) else -1
theorem rfI_same {s t : ASt} (h1 : t.rf = s.rf) (h2 : t.lf = s.lf) : rfI t = rfI s := by unfold rfI; rw [h1, h2]
theorem rfI_ref (s : ASt) : rfI (refS s) = comR (rfI s) := by
  cases h : s.rf with
  | false =>
    have e : refS s = s := by unfold refS; rw [h]; rfl
    rw [e]; unfold rfI comR; rw [h]; simp
  | true =>
    by_cases c : s.lf = 0
    · have e : refS s = { s with rf := false } := by unfold refS; rw [h, if_pos rfl, if_pos c]
      rw [e]; unfold rfI comR; rw [h]; simp [c]
    · have e : refS s = { s with lf := s.lf - 1 } := by unfold refS; rw [h, if_pos rfl, if_neg c]
      rw [e]; unfold rfI comR; simp only [h, if_true]
      rw [if_neg (by omega), if_pos (by omega)]
      omega
theorem rfI_B (s : ASt) : (refB s = true → comE (rfI s) = 4) ∧ (refB s = false → comE (rfI s) = 0) := by
  unfold refB rfI comE
  cases h : s.rf with
  | false => simp
  | true => by_cases c : s.lf = 0 <;> simp [c]
theorem On.lfB {A : Nat} {s : ASt} {w : World} (h : On A s w) : s.lf ≤ 9223372036854775807 := by obtain ⟨P, ps, p, n, cap, h⟩ := h; exact h.lfb
theorem rfI_le {A : Nat} {s : ASt} {w : World} (h : On A s w) : rfI s ≤ 9223372036854775807 := by have := h.lfB; unfold rfI; split <;> omega
/-- the document's Order of a taken run; of none -/
theorem ord_tk {g x i k : Nat} {R : Runs} (h : Til g R x) (e : R i = some (k, true)) : ordV (tkT R g) (i : Int) = .tuple #[.int .i64 (k : Int), .int .i64 0] := by
  unfold ordV
  have : (tkT R g).find? (fun y => decide ((y.1 : Int) = (i : Int))) = some (i, k, true) := by
    cases q : (tkT R g).find? (fun y => decide ((y.1 : Int) = (i : Int))) with
    | none =>
      rw [List.find?_eq_none] at q
      have := q (i, k, true) (tkT_mem.2 ⟨rfl, h.lt e, e⟩)
      simp at this
    | some y =>
      have h1 := List.find?_some q
      have h2 := List.mem_of_find?_eq_some q
      obtain ⟨a, b, c⟩ := y
      simp only [decide_eq_true_eq] at h1
      have ha : a = i := by omega
      subst ha
      obtain ⟨rfl, _, h3⟩ := tkT_mem.1 h2
      rw [e] at h3
      rw [(some_of h3).1]
  rw [this]
theorem ord_no {g : Nat} {R : Runs} {a : Int} (h : ∀ i k : Nat, a = (i : Int) → R i ≠ some (k, true)) : ordV (tkT R g) a = .tuple #[.int .i64 0, .int .i64 8] := by
  unfold ordV
  have : (tkT R g).find? (fun y => decide ((y.1 : Int) = a)) = none := by
    rw [List.find?_eq_none]
    rintro ⟨i, k, t⟩ hm
    have := (tkT_mem.1 hm).2.2
    simp only [decide_eq_true_eq]
    intro c
    exact h i k c.symm this
  rw [this]
theorem wr8_tk {R R' : Runs} {g i a b : Nat} (h : Til g R a) (h1 : Til g R' b) (t : TkLess R R' i) : wr8 (tkT R g) (i : Int) = tkT R' g := by
  unfold wr8 tkT
  rw [tkL_less (R := R) (S := R') (g := g) (f := g) (x := i) fun j l => ⟨fun q => ⟨((t j l).1 q.2).1, h.lt ((t j l).1 q.2).2, ((t j l).1 q.2).2⟩, fun q => ⟨h.lt q.2.2, (t j l).2 ⟨q.1, q.2.2⟩⟩⟩, List.filter_map]
  congr 1
  refine List.filter_congr fun y _ => ?_
  simp only [Function.comp_def, decide_eq_decide]
  omega
end Go.Proofs.YtfemgekhpcgliaaGreat.Bt
/- The statement's Of and Pick; slices.Equal of rows of runs. -/
namespace Go.Proofs.YtfemgekhpcgliaaGreat.Bt
open Go Go.RowKit Go.Shelf
set_option linter.unusedVariables false
set_option linter.unusedSimpArgs false
def RbV (T : Nat) (y : Nat × Nat × Bool) (x : World) : Prop := x.heap[T]? = some (.cells (rnA y) 79 (0, 0))
theorem RbV.below {T : Nat} {y : Nat × Nat × Bool} {x z : World} (h : RbV T y x) (hb : Below x.heap.size x z) : RbV T y z := (hb.block _ (Array.getElem?_eq_some_iff.1 h).1).trans h
theorem RbV.all {T : Nat} {y : Nat × Nat × Bool} {x : World} (h : RbV T y x) : x.cell? ⟨T, 0, none⟩ = some (.int .i64 (y.1 : Int)) ∧ x.cell? ⟨T, 1, none⟩ = some (.int .i64 (y.2.1 : Int)) ∧ x.cell? ⟨T, 2, none⟩ = some (.bool y.2.2) := by
  refine ⟨?_, ?_, ?_⟩ <;> (rw [(cell_blk h _).1]; rfl)
structure RGr (b0 : Nat) (w : World) (L : List (Nat × Nat × Bool)) (v : Value) (x : World) : Prop where
  ow : x.ownsRow b0 51 3 v L.length (rnL L)
  be : Below b0 w x
  sz : b0 ≤ x.heap.size
theorem RGr.below {b0 : Nat} {w x y : World} {L : List (Nat × Nat × Bool)} {v : Value} (h : RGr b0 w L v x) (hb : Below x.heap.size x y) : RGr b0 w L v y :=
  ⟨ownsRow_bel h.ow hb, h.be.trans (hb.mono h.sz), Nat.le_trans h.sz hb.size⟩
theorem adL_get {L : List (Nat × Nat × Bool)} {j : Nat} (h : j < L.length) : (adL L).getD j r0 = (adr (L.getD j r0).1, (L.getD j r0).2.1, (L.getD j r0).2.2) := by
  rw [List.getD_eq_getElem?_getD, List.getD_eq_getElem?_getD]
  unfold adL
  rw [List.getElem?_map, List.getElem?_eq_getElem h]
  rfl
section
variable {B A n g : Nat} {R : Runs} {s : ASt} {w : World}
end
end Go.Proofs.YtfemgekhpcgliaaGreat.Bt
/- The statement's Pick; slices.Equal of rows of runs. -/
namespace Go.Proofs.YtfemgekhpcgliaaGreat.Bt
open Go Go.RowKit Go.Shelf
set_option linter.unusedVariables false
set_option linter.unusedSimpArgs false
theorem Tryz.infoInt8 : (Tryz.prog.info? 3).map (fun i => (i.zero, i.size, i.bytes)) = some (some (.int .i64 0), 1, 8) := by kernel_rfl
def pk (L : List (Nat × Nat × Bool)) : List Int := (L.filter fun y => y.2.2).map fun y => ((adr y.1 : Nat) : Int)
def pkV (L : List (Nat × Nat × Bool)) : List Value := (pk L).map (Value.int .i64)
theorem pk_len (L : List (Nat × Nat × Bool)) : (pk L).length ≤ L.length := by unfold pk; rw [List.length_map]; exact List.length_filter_le _ _
theorem pk_snoc (L : List (Nat × Nat × Bool)) (y : Nat × Nat × Bool) : pk (L ++ [y]) = if y.2.2 then pk L ++ [((adr y.1 : Nat) : Int)] else pk L := by
  unfold pk
  rw [List.filter_append]
  cases h : y.2.2 <;> simp [h]
theorem pk_mem {R : Runs} {g j : Nat} {a : Int} (h : (pk (runL R g))[j]? = some a) : ∃ x k : Nat, a = (adr x : Int) ∧ R x = some (k, true) := by
  have := List.mem_of_getElem? h
  unfold pk at this
  rw [List.mem_map] at this
  obtain ⟨⟨x, k, t⟩, h1, h2⟩ := this
  rw [List.mem_filter] at h1
  have h3 := h1.2
  simp only at h3
  subst h3
  exact ⟨x, k, h2.symm, (runL_mem.1 h1.1).2⟩
theorem pk_none {R : Runs} {g x : Nat} (hR : Til g R x) (h : pk (runL R g) = []) : ∀ i k, R i ≠ some (k, true) := fun i k e => by
  have hm : (i, k, true) ∈ runL R g := runL_mem.2 ⟨hR.lt e, e⟩
  have : ((adr i : Nat) : Int) ∈ pk (runL R g) := by
    unfold pk
    exact List.mem_map.2 ⟨(i, k, true), List.mem_filter.2 ⟨hm, rfl⟩, rfl⟩
  rw [h] at this; cases this
structure PGr (b0 : Nat) (w : World) (L : List (Nat × Nat × Bool)) (v : Value) (x : World) : Prop where
  ow : x.ownsRow b0 3 1 v (pk L).length (pkV L)
  be : Below b0 w x
  sz : b0 ≤ x.heap.size
section
variable {B A n g : Nat} {R : Runs} {s : ASt} {w : World}
def PickP (R : Runs) (w : World) (e : Ending) (w' : World) : Prop :=
  ∃ a : Int, e = .returned (.int .i64 a) ∧ Below w.heap.size w w' ∧ ((a = 0 ∧ ∀ i k, R i ≠ some (k, true)) ∨ ∃ x k : Nat, a = (adr x : Int) ∧ R x = some (k, true))
set_option maxRecDepth 100000 in
set_option maxHeartbeats 8000000 in
theorem bpick_any (h : BV B A n s w) (hB : Bud (n + 1) g g R g s) (q : Int) (hq : q ≤ 9223372036854775807) : Calls Tryz.prog 51 #[bdyP B, .int .i64 q] w (PickP R w) := by
  obtain ⟨i0, hi0, hz0, hz1, hz2⟩ := info_parts Tryz.infoInt8
  have HI := Lib.hid hi0; have HZ0 := Lib.hid hz0; have HZ1 := Lib.hid hz1; have HZ2 := Lib.hid hz2
  clear hi0 hz0 hz1 hz2
  have HGB : Hid (g ≤ 80) := Lib.hid (by have := hB.sz h.2.1; omega)
  have HRU := Lib.hid (bRuns_any h hB)
  have HT := Lib.hid hB.ti
  have HQ := Lib.hid hq
  clear h hB hq
  go_enter Tryz.func51, Tryz.ntmps51
  go_wp2_with fail
  refine HRU.out.mono ?_
  rintro e w1 ⟨u, cap, rfl, hru, huf, hb⟩
  obtain ⟨nl, hnl⟩ : ∃ nl, (runL R g).length = nl := ⟨_, rfl⟩
  have HNL := Lib.hid hnl
  have hnl80 : nl ≤ 80 := by have := runL_len R g; have := HGB.out; omega
  obtain ⟨b0, hb0⟩ : ∃ b0, w1.heap.size = b0 := ⟨_, rfl⟩
  have HBW : Hid (w.heap.size ≤ b0 ∧ b0 = w1.heap.size ∧ Below w.heap.size w w1) := Lib.hid ⟨by rw [← hb0]; exact hb.size, hb0.symm, hb⟩
  have HR1 := Lib.hid hru
  have HG0 : Hid (PGr b0 w1 ((runL R g).take 0) (.slice none 0 0) w1) := Lib.hid ⟨World.ownsRow_nil _ _ _ _, by rw [← hb0]; exact Below.refl _ _, by omega⟩
  rw [adL_len, hnl]
  clear hru huf hb hb0 HRU hnl
  go_wp2_with fail
  go_loopw [5, 11] (fun v s11 wr => ∃ j : Nat, j ≤ nl ∧ s11 = .int .i64 (j : Int) ∧ Hid (PGr b0 w1 ((runL R g).take j) v wr)) (fun _ s11 _ => nl - (intOf s11).toNat)
  case atStart => exact ⟨0, Nat.zero_le _, rfl, HG0⟩
  case round =>
    clear HG0
    obtain ⟨j, hj, rfl, HRG⟩ := hrel
    have HWr : Hid (Below w1.heap.size w1 wr) := Lib.hid (by rw [← HBW.out.2.1]; exact HRG.out.be)
    by_cases hjn : j < nl
    · have hjn2 : (j : Int) < (nl : Int) := by omega
      have hjL : j < (runL R g).length := by rw [HNL.out]; exact hjn
      rcases HR1.out.below HWr.out with e | ⟨gb, rfl, hgl, hcc⟩
      · have := congrArg List.length e; rw [adL_len, HNL.out] at this; simp at this; omega
      obtain ⟨q0, q1, q2⟩ := hcc j (by rw [adL_len]; exact hjL)
      obtain ⟨y, hy⟩ : ∃ y, (runL R g).getD j r0 = y := ⟨_, rfl⟩
      rw [adL_get hjL, hy] at q0 q1 q2
      have htk := take_snoc hjL
      rw [hy] at htk
      have HPN := Lib.hid (pk_snoc ((runL R g).take j) y)
      rw [← htk] at HPN
      have HLJ : Hid ((pk ((runL R g).take j)).length ≤ 80) := Lib.hid (Nat.le_trans (pk_len _) (by rw [List.length_take]; omega))
      obtain ⟨i, k, t⟩ := y
      simp only at q0 q1 q2
      clear hcc hjL hgl hy htk
      cases t with
      | true =>
        have HPN2 : Hid (pk ((runL R g).take (j + 1)) = pk ((runL R g).take j) ++ [((adr i : Nat) : Int)]) := Lib.hid (by have := HPN.out; simpa using this)
        have HB2 := Lib.hid ((HRG.out.be.alloc HRG.out.sz (.cells #[.int .i64 (adr i : Int), .int .i64 (k : Int), .bool true] 79)).alloc (by have := HRG.out.sz; simp; omega) (.cells #[.int .i64 (adr i : Int)] 3))
        have hrow2 := (HRG.out.ow.alloc (.cells #[.int .i64 (adr i : Int), .int .i64 (k : Int), .bool true] 79)).alloc (.cells #[.int .i64 (adr i : Int)] 3)
        have HR2 := Lib.hid hrow2
        have hln := HLJ.out
        have hsz2 := HRG.out.sz
        have hcn : ∀ j' u', [Value.int .i64 (adr i : Int)][j']? = some u' → ((wr.alloc (.cells #[.int .i64 (adr i : Int), .int .i64 (k : Int), .bool true] 79)).alloc (.cells #[.int .i64 (adr i : Int)] 3)).cell? ((⟨wr.heap.size + 1, 0, none⟩ : Addr).add j') = some u' := by
          have := cell_one_new (wr.alloc (.cells #[.int .i64 (adr i : Int), .int .i64 (k : Int), .bool true] 79)) (.int .i64 (adr i : Int)) 3
          rw [show (wr.alloc (.cells #[.int .i64 (adr i : Int), .int .i64 (k : Int), .bool true] 79)).heap.size = wr.heap.size + 1 from by simp] at this
          exact this
        have HCN := Lib.hid hcn
        clear HPN hcn
        go_wp2_with (at_builtin; refine wpList_append_own _ rfl _ _ 80 rfl b0 3 i0 (.int .i64 0) 1 8 Tryz.underlying80 HI.out HZ0.out HZ1.out HZ2.out rfl (by decide) _ _ _ rfl hrow2 ⟨_, 0, none⟩ 1 1 [.int .i64 (adr i : Int)] rfl rfl HCN.out (by simp [Value.oneCell']) (by unfold maxLen; omega) (by omega) (by simp; omega) ?_; intro v' w3 hown' hgrow _; have hhgrow := hgrow.size; simp at hhgrow)
        have HNX : Hid (PGr b0 w1 ((runL R g).take (j + 1)) v' w3) := Lib.hid ⟨by unfold pkV; rw [HPN2.out, List.map_append, List.length_append]; simpa [pkV] using hown', rn_grow HR2.out hgrow (by simp; omega) HB2.out, by omega⟩
        clear hrow2 hown' hgrow hhgrow
        go_wp2_with fail
        go_roundw
        case rel => exact ⟨j + 1, by omega, by go_num, HNX⟩
        case measure => simp [intOf]; omega
      | false =>
        have HPN2 : Hid (pk ((runL R g).take (j + 1)) = pk ((runL R g).take j)) := Lib.hid (by have := HPN.out; simpa using this)
        have HNX : Hid (PGr b0 w1 ((runL R g).take (j + 1)) _ (wr.alloc (.cells #[.int .i64 (adr i : Int), .int .i64 (k : Int), .bool false] 79))) := Lib.hid ⟨by unfold pkV; rw [HPN2.out]; exact HRG.out.ow.alloc _, HRG.out.be.alloc HRG.out.sz _, by have := HRG.out.sz; simp; omega⟩
        clear HPN
        go_wp2_with fail
        go_roundw
        case rel => exact ⟨j + 1, by omega, by go_num, HNX⟩
        case measure => simp [intOf]; omega
    · obtain rfl : j = nl := by omega
      have HRG2 : Hid (PGr b0 w1 (runL R g) _ wr) := Lib.hid (by have := HRG.out; rw [List.take_of_length_le (by rw [HNL.out]; exact Nat.le_refl _)] at this; exact this)
      have HBE := Lib.hid (HBW.out.2.2.trans (HWr.out.mono HBW.out.2.2.size))
      obtain ⟨m, hm⟩ : ∃ m, (pk (runL R g)).length = m := ⟨_, rfl⟩
      have HM := Lib.hid hm
      have hm80 : m ≤ 80 := by have := pk_len (runL R g); have := HNL.out; omega
      have how := HRG2.out.ow
      rw [hm] at how
      rcases how.2 with ⟨hv, h0⟩ | ⟨gp, cap', cur, hv, hbg, hg, hnc, _, hcs, htk⟩
      · subst hv
        have HNO : Hid (∀ i k, R i ≠ some (k, true)) := Lib.hid (pk_none HT.out (List.eq_nil_of_length_eq_zero (by rw [HM.out, h0])))
        clear how hm
        go_wp2_with fail
        go_ret
        exact ⟨0, rfl, HBE.out, .inl ⟨rfl, HNO.out⟩⟩
      · by_cases hm0 : m = 0
        · subst hm0
          subst hv
          have HNO : Hid (∀ i k, R i ≠ some (k, true)) := Lib.hid (pk_none HT.out (List.eq_nil_of_length_eq_zero HM.out))
          clear how hm hg htk hcs
          go_wp2_with fail
          go_ret
          exact ⟨0, rfl, HBE.out, .inl ⟨rfl, HNO.out⟩⟩
        · subst hv
          have hmm : ¬ ((m : Int) = 0) := by omega
          obtain ⟨z, hz⟩ : ∃ z : Nat, max 0 q = (z : Int) := ⟨(max 0 q).toNat, by omega⟩
          have hzz : (if 0 < q then q else 0) = (z : Int) := by rw [← hz]; split <;> omega
          have hr : Int.tmod (z : Int) (m : Int) = ((z % m : Nat) : Int) := by rw [Int.tmod_eq_emod_of_nonneg (by omega)]; rfl
          have hlt := Nat.mod_lt z (show 0 < m by omega)
          obtain ⟨d, hd⟩ : ∃ d, z % m = d := ⟨_, rfl⟩
          rw [hd] at hr hlt
          obtain ⟨a, ha⟩ : ∃ a, (pk (runL R g))[d]? = some a := ⟨_, List.getElem?_eq_getElem (by rw [HM.out]; exact hlt)⟩
          have HA := Lib.hid (pk_mem ha)
          have hcell : wr.cell? ⟨gp, d, none⟩ = some (.int .i64 a) := by
            rw [(cell_blk hg _).1]
            have h1 : (pkV (runL R g))[d]? = some (.int .i64 a) := by unfold pkV; rw [List.getElem?_map, ha]; rfl
            rw [← h1, ← htk, List.getElem?_take, if_pos (by omega)]
            simp
          have hd2 : (d : Int) < (m : Int) := by omega
          clear how hm hg htk hcs ha hd hz
          go_wp2_with fail
          go_ret
          exact ⟨a, rfl, HBE.out, .inr HA.out⟩
end
end Go.Proofs.YtfemgekhpcgliaaGreat.Bt
/- The statement's Do: what stands while it runs. -/
namespace Go.Proofs.YtfemgekhpcgliaaGreat.Bt
open Go Go.RowKit Go.Shelf
set_option linter.unusedVariables false
set_option linter.unusedSimpArgs false
abbrev acA (d k nn : Int) : Array Value := #[.int .u8 d, .int .i64 k, .int .i64 nn]
def AcAt (C : Nat) (d k nn : Int) (x : World) : Prop := x.heap[C]? = some (.cells (acA d k nn) 37 (0, 0))
theorem AcAt.all {C : Nat} {d k nn : Int} {x : World} (h : AcAt C d k nn x) : x.cell? ⟨C, 0, none⟩ = some (.int .u8 d) ∧ x.cell? ⟨C, 1, none⟩ = some (.int .i64 k) ∧ x.cell? ⟨C, 2, none⟩ = some (.int .i64 nn) := by
  refine ⟨?_, ?_, ?_⟩ <;> (rw [(cell_blk h _).1]; rfl)
/-- the buddy's part of it -/
structure DP (A B n g : Nat) (R : Runs) (s : ASt) (u : Option Addr) (x : World) : Prop where
  bv : BV B A n s x
  bu : Bud (n + 1) g g R g s
  rn : RnAt x u (tkT R g)
/-- the local variables' -/
structure DL (A D C E n : Nat) (g r : Int) (v : Value) (d k nn : Int) (w x : World) : Prop where
  bd : BqAt D 1 (n : Int) g r v x
  bc : AcAt C d k nn x
  be : BqAt E 0 0 0 0 (.slice none 0 0) x
  md : Mine A D x
  me : Mine A E x
  wt : Went A w x
structure DN (w : World) (D C E : Nat) : Prop where
  lt : w.heap.size ≤ D ∧ w.heap.size ≤ C ∧ w.heap.size ≤ E
  ne : D ≠ E ∧ C ≠ E ∧ D ≠ C
section
variable {A B C D E n g : Nat} {R : Runs} {s s' : ASt} {u : Option Addr} {x y w : World} {gv r d k nn : Int} {v : Value}
theorem DP.below (h : DP A B n g R s u x) (hb : Below x.heap.size x y) : DP A B n g R s u y := ⟨h.bv.below hb, h.bu, h.rn.below hb⟩
theorem DL.below (h : DL A D C E n gv r v d k nn w x) (ho : On A s x) (hb : Below x.heap.size x y) : DL A D C E n gv r v d k nn w y :=
  have hg := Went.of_below ho hb
  ⟨h.bd.below hb, (hb.block _ (Array.getElem?_eq_some_iff.1 h.bc).1).trans h.bc, h.be.below hb, h.md.went hg, h.me.went hg, h.wt.trans hg⟩
theorem DL.went (h : DL A D C E n gv r v d k nn w x) (ho : On A s x) (hg : Went A x y) : DL A D C E n gv r v d k nn w y :=
  ⟨h.bd.went ho hg, hg.keep ho h.bc (by decide) (by decide) (by decide), h.be.went ho hg, h.md.went hg, h.me.went hg, h.wt.trans hg⟩
theorem DL.setD (h : DL A D C E n gv r v d k nn w x) (hn : DN w D C E) (ho : On A s x) (g' r' : Int) (v' : Value) : DL A D C E n g' r' v' d k nn w (set5 x D (.int .i64 1) (.int .i64 (n : Int)) (.int .i64 g') (.int .i64 r') v') := by
  have a0 := ho.set h.md 0 (.int .i64 1)
  have a1 := a0.set (Mine.set ho h.md h.md 0 (.int .i64 1)) 1 (.int .i64 (n : Int))
  have m0 := Mine.set ho h.md h.md 0 (.int .i64 1)
  have m1 := Mine.set a0 m0 m0 1 (.int .i64 (n : Int))
  have a2 := a1.set m1 2 (.int .i64 g')
  have m2 := Mine.set a1 m1 m1 2 (.int .i64 g')
  have a3 := a2.set m2 3 (.int .i64 r')
  have m3 := Mine.set a2 m2 m2 3 (.int .i64 r')
  have a4 := a3.set m3 4 v'
  have m4 := Mine.set a3 m3 m3 4 v'
  have e0 := Mine.set ho h.md h.me 0 (.int .i64 1)
  have e1 := Mine.set a0 m0 e0 1 (.int .i64 (n : Int))
  have e2 := Mine.set a1 m1 e1 2 (.int .i64 g')
  have e3 := Mine.set a2 m2 e2 3 (.int .i64 r')
  have e4 := Mine.set a3 m3 e3 4 v'
  exact ⟨set5_at h.bd _ _ _ _ _, (set5_far (fun c => hn.ne.2.2 c.symm) _ _ _ _ _).trans h.bc, (set5_far (fun c => hn.ne.1 c.symm) _ _ _ _ _).trans h.be, m4, e4,
    ((((h.wt.set ho h.md hn.lt.1 0 _).set a0 m0 hn.lt.1 1 _).set a1 m1 hn.lt.1 2 _).set a2 m2 hn.lt.1 3 _).set a3 m3 hn.lt.1 4 _⟩
theorem RnAt.set5 {L : List (Nat × Nat × Bool)} {u : Option Addr} {x : World} (h : RnAt x u L) {E : Nat} (hne : ∀ j, u = some ⟨j, 0, none⟩ → L = [] ∨ j ≠ E) (v0 v1 v2 v3 v4 : Value) : RnAt (Bt.set5 x E v0 v1 v2 v3 v4) u L := by
  rcases h with c | ⟨gb, e, hgl, hcc⟩
  · exact .inl c
  · rcases hne gb e with c | c
    · exact .inl c
    · exact RnAt.far (.inr ⟨gb, e, hgl, hcc⟩) (by simp [Bt.set5, World.setCell]) fun j hj => set5_far (by rw [e] at hj; simp at hj; omega) _ _ _ _ _
/-- a buddy's block is no row of runs -/
theorem rn_bq {L : List (Nat × Nat × Bool)} (h : RnAt x u L) {E : Nat} {o q g r : Int} {v : Value} (he : BqAt E o q g r v x) : ∀ j, u = some ⟨j, 0, none⟩ → L = [] ∨ j ≠ E := fun j hj => by
  rcases h with c | ⟨gb, e, hgl, hcc⟩
  · exact .inl c
  · by_cases hL : L = []
    · exact .inl hL
    refine .inr fun c => ?_
    subst c
    rw [hj] at e
    simp at e
    subst e
    obtain ⟨c0, c1, c2⟩ := hcc 0 (List.length_pos_iff.2 hL)
    rw [Nat.zero_mul] at c2
    rw [(cell_blk he _).1] at c2
    simp at c2
theorem set5_on {E : Nat} (ho : On A s x) (he : Mine A E x) (v0 v1 v2 v3 v4 : Value) : On A s (set5 x E v0 v1 v2 v3 v4) := by
  have m0 := Mine.set ho he he 0 v0
  have a0 := ho.set he 0 v0
  have m1 := Mine.set a0 m0 m0 1 v1
  have a1 := a0.set m0 1 v1
  have m2 := Mine.set a1 m1 m1 2 v2
  have a2 := a1.set m1 2 v2
  have m3 := Mine.set a2 m2 m2 3 v3
  have a3 := a2.set m2 3 v3
  exact a3.set m3 4 v4
theorem set5_went {E : Nat} (hw : Went A w x) (ho : On A s x) (he : Mine A E x) (hE : w.heap.size ≤ E) (v0 v1 v2 v3 v4 : Value) : Went A w (set5 x E v0 v1 v2 v3 v4) := by
  have m0 := Mine.set ho he he 0 v0
  have a0 := ho.set he 0 v0
  have m1 := Mine.set a0 m0 m0 1 v1
  have a1 := a0.set m0 1 v1
  have m2 := Mine.set a1 m1 m1 2 v2
  have a2 := a1.set m1 2 v2
  have m3 := Mine.set a2 m2 m2 3 v3
  have a3 := a2.set m2 3 v3
  exact ((((hw.set ho he hE 0 _).set a0 m0 hE 1 _).set a1 m1 hE 2 _).set a2 m2 hE 3 _).set a3 m3 hE 4 _
theorem DP.set5 {E : Nat} {o q g0 r0 : Int} {v : Value} (h : DP A B n g R s u x) (he : Mine A E x) (hE : BqAt E o q g0 r0 v x) (v0 v1 v2 v3 v4 : Value) : DP A B n g R s u (Bt.set5 x E v0 v1 v2 v3 v4) :=
  ⟨⟨set5_on h.bv.1 he _ _ _ _ _, h.bv.2.1, (set5_far (fun c => by
    have h1 := h.bv.2.2
    unfold BdyAt at h1
    rw [c, show x.heap[E]? = _ from hE] at h1
    simp only [Option.some.injEq, Obj.cells.injEq] at h1
    exact absurd h1.2.1 (by decide)) _ _ _ _ _).trans h.bv.2.2⟩, h.bu, h.rn.set5 (rn_bq h.rn hE) _ _ _ _ _⟩
end
/-- what Do leaves -/
def DoP (A B n : Nat) (w : World) (e : Ending) (w' : World) : Prop :=
  ∃ (g : Nat) (R : Runs) (s : ASt) (u : Option Addr) (tc : Nat), e = .returned (.tuple #[bqV 1 (n : Int) (g : Int) (rfI s) (.slice u (tkT R g).length tc), .bool true]) ∧ DP A B n g R s u w' ∧ Went A w w'
/-- the end of it: the answer is stored, and told -/
theorem do_end {A B C D E n g : Nat} {R : Runs} {s : ASt} {u : Option Addr} {tc : Nat} {x w : World} {gv r d k nn : Int} {v : Value} (hp : DP A B n g R s u x) (hl : DL A D C E n gv r v d k nn w x) (hn : DN w D C E) :
    ∀ z, z = set5 x E (.int .i64 1) (.int .i64 (n : Int)) (.int .i64 (g : Int)) (.int .i64 (rfI s)) (.slice u (tkT R g).length tc) →
      BqAt E 1 (n : Int) (g : Int) (rfI s) (.slice u (tkT R g).length tc) z ∧ DoP A B n w (.returned (.tuple #[bqV 1 (n : Int) (g : Int) (rfI s) (.slice u (tkT R g).length tc), .bool true])) z := by
  rintro z rfl
  exact ⟨set5_at hl.be _ _ _ _ _, g, R, s, u, tc, rfl, hp.set5 hl.me hl.be _ _ _ _ _, set5_went hl.wt hp.bv.1 hl.me hn.lt.2.2 _ _ _ _ _⟩
theorem DoP.drew {A B n : Nat} {w : World} {e : Ending} {z : World} (h : DoP A B n w e z) : DoP A B n w e z.drew := by
  obtain ⟨g, R, s, u, tc, rfl, hp, hg⟩ := h
  have hb := (Below.refl z.heap.size z).drew
  exact ⟨g, R, s, u, tc, rfl, hp.below hb, hg.trans (Went.of_below hp.bv.1 hb)⟩
theorem three_new8 (w : World) (a b c : Obj) : (((w.alloc a).alloc b).alloc c).heap[w.heap.size]? = some a ∧ (((w.alloc a).alloc b).alloc c).heap[w.heap.size + 1]? = some b ∧ (((w.alloc a).alloc b).alloc c).heap[w.heap.size + 2]? = some c := by
  refine ⟨?_, ?_, ?_⟩
  · exact (Below.heap_alloc _ _ _ (by simp; omega)).trans ((Below.heap_alloc _ _ _ (by simp)).trans (heap_new _ _))
  · exact (Below.heap_alloc _ _ _ (by simp)).trans (heap_old2 _ _ _)
  · have := heap_new ((w.alloc a).alloc b) c
    rwa [show ((w.alloc a).alloc b).heap.size = w.heap.size + 2 from by simp] at this
/-- the beginning of it -/
theorem do_begin {A B n g : Nat} {R : Runs} {s : ASt} {u : Option Addr} {tc : Nat} {w : World} (d k nn : Int) (hp : DP A B n g R s u w) :
    ∀ z, z = ((w.alloc (.cells (bqA 1 (n : Int) (g : Int) (rfI s) (.slice u (tkT R g).length tc)) 33)).alloc (.cells (acA d k nn) 37)).alloc (.cells (bqA 0 0 0 0 (.slice none 0 0)) 33) →
      DP A B n g R s u z ∧ DL A w.heap.size (w.heap.size + 1) (w.heap.size + 2) n (g : Int) (rfI s) (.slice u (tkT R g).length tc) d k nn w z ∧ DN w w.heap.size (w.heap.size + 1) (w.heap.size + 2) := by
  rintro z rfl
  obtain ⟨h1, h2, h3⟩ := three_new8 w (.cells (bqA 1 (n : Int) (g : Int) (rfI s) (.slice u (tkT R g).length tc)) 33) (.cells (acA d k nn) 37) (.cells (bqA 0 0 0 0 (.slice none 0 0)) 33)
  have b1 := bel1 w (.cells (bqA 1 (n : Int) (g : Int) (rfI s) (.slice u (tkT R g).length tc)) 33)
  have b2 := b1.alloc b1.size (.cells (acA d k nn) 37)
  have b3 := b2.alloc b2.size (.cells (bqA 0 0 0 0 (.slice none 0 0)) 33)
  have o1 := hp.bv.1.below b1
  have o2 := hp.bv.1.below b2
  have m1 := Mine.new hp.bv.1 (.cells (bqA 1 (n : Int) (g : Int) (rfI s) (.slice u (tkT R g).length tc)) 33)
  have m2 := (m1.went (Went.of_below o1 (bel1 _ (.cells (acA d k nn) 37)))).went (Went.of_below o2 (bel1 _ (.cells (bqA 0 0 0 0 (.slice none 0 0)) 33)))
  have m3 := Mine.new o2 (.cells (bqA 0 0 0 0 (.slice none 0 0)) 33)
  rw [show ((w.alloc (.cells (bqA 1 (n : Int) (g : Int) (rfI s) (.slice u (tkT R g).length tc)) 33)).alloc (.cells (acA d k nn) 37)).heap.size = w.heap.size + 2 from by simp] at m3
  exact ⟨hp.below b3, ⟨h1, h2, h3, m2, m3, Went.of_below hp.bv.1 b3⟩, ⟨by omega, by omega⟩⟩
end Go.Proofs.YtfemgekhpcgliaaGreat.Bt
/- The statement's Do: Grow, Shrink, Refuse. -/
namespace Go.Proofs.YtfemgekhpcgliaaGreat.Bt
open Go Go.RowKit Go.Shelf
set_option linter.unusedVariables false
set_option linter.unusedSimpArgs false
theorem grow_both {A B n g : Nat} {R : Runs} {s : ASt} {u : Option Addr} {w : World} (hp : DP A B n g R s u w) (kn : Nat) (hk : kn ≤ 10) :
    Calls Tryz.prog 56 #[bdyP B, .int .i64 (kn : Int)] w fun e w' => ∃ (g' : Nat) (R' : Runs) (s' : ASt) (c : Int), e = .returned (.int .i64 c) ∧ growQ n g (rfI s) kn (upN g (2 ^ kn)) = ((g' : Int), rfI s', c) ∧ DP A B n g' R' s' u w' ∧ tkT R' g' = tkT R g ∧ Went A w w' := by
  refine (bgrow_any hp.bv hp.bu kn hk).mono ?_
  rintro e w' (⟨rfl, q1, q2, q3⟩ | ⟨rfl, q1, q2, q3⟩ | ⟨rfl, q1, q2, R', s', q3⟩)
  · refine ⟨g, R, s, 4, rfl, ?_, ⟨q2, hp.bu, hp.rn.went hp.bv.1 q3⟩, rfl, q3⟩
    unfold growQ; rw [if_pos (by omega)]
  · refine ⟨g, R, refS s, 4, rfl, ?_, ⟨q3.1, q3.2.1, hp.rn.went hp.bv.1 q3.2.2⟩, rfl, q3.2.2⟩
    unfold growQ; rw [if_neg (by omega), (rfI_B s).1 q2, if_pos (by decide), rfI_ref]
  · have hr : rfI s' = comR (rfI s) := by rw [← rfI_ref]; exact rfI_same q3.rf q3.lf
    have ht := tkT_same hp.bu.ti q3.bu.ti q3.tk
    refine ⟨_, R', s', 0, rfl, ?_, ⟨q3.bv, q3.bu, by rw [ht]; exact hp.rn.went hp.bv.1 q3.wt⟩, ht, q3.wt⟩
    unfold growQ; rw [if_neg (by omega), (rfI_B s).2 q2, if_neg (by decide), hr]
set_option maxHeartbeats 16000000 in
set_option maxRecDepth 100000 in
theorem do_grow {A B n g : Nat} {R : Runs} {s : ASt} {u : Option Addr} {tc : Nat} {w : World} (d k nn : Int) (hm : Int.tmod d 8 = 5) (hd : 0 ≤ d ∧ d ≤ 255) (hk : -9223372036854775808 ≤ k ∧ k ≤ 9223372036854775807) (hnn : -9223372036854775808 ≤ nn ∧ nn ≤ 9223372036854775807) (hp : DP A B n g R s u w) :
    Calls Tryz.prog 15 #[bdyP B, bqV 1 (n : Int) (g : Int) (rfI s) (.slice u (tkT R g).length tc), .agg #[.int .u8 d, .int .i64 k, .int .i64 nn]] w (DoP A B n w) := by
  have hz := hp.bu.sz hp.bv.2.1
  have hr := rfI_le hp.bv.1
  have HP := Lib.hid hp
  have HB := Lib.hid (do_begin (tc := tc) d k nn hp)
  have HZ := Lib.hid hz
  have HR := Lib.hid hr
  have HKK := Lib.hid hk; have HNN := Lib.hid hnn
  obtain ⟨m, hmm⟩ : ∃ m, (tkT R g).length = m := ⟨_, rfl⟩
  have HM := Lib.hid hmm
  obtain ⟨r, hrr⟩ : ∃ r, rfI s = r := ⟨_, rfl⟩
  have HRR := Lib.hid hrr
  rw [hmm, hrr] at HB
  rw [hmm, hrr]
  rw [hrr] at HR
  clear hp hz hr hmm hrr hk hnn
  go_enter Tryz.func15, Tryz.ntmps15
  go_upto_region 1 with fail
  obtain ⟨y, hy⟩ : ∃ y, ((w.alloc (.cells (bqA 1 (n : Int) (g : Int) r (.slice u m tc)) 33)).alloc (.cells (acA d k nn) 37)).alloc (.cells (bqA 0 0 0 0 (.slice none 0 0)) 33) = y := ⟨_, rfl⟩
  obtain ⟨hpy, hly, hny⟩ := HB.out y hy.symm
  rw [hy]
  obtain ⟨D, hD⟩ : ∃ D, w.heap.size = D := ⟨_, rfl⟩
  obtain ⟨C, hC⟩ : ∃ C, w.heap.size + 1 = C := ⟨_, rfl⟩
  obtain ⟨E, hE⟩ : ∃ E, w.heap.size + 2 = E := ⟨_, rfl⟩
  have hE2 : w.heap.size + 1 + 1 = E := hE
  rw [hE, hC, hD] at hly hny
  rw [hE2, hC, hD]
  have HPY := Lib.hid hpy; have HLY := Lib.hid hly; have HDN := Lib.hid hny
  obtain ⟨d0, d1, d2, d3, d4⟩ := hly.bd.all
  obtain ⟨c0, c1, c2⟩ := hly.bc.all
  clear hpy hly hny hy hD hC hE hE2 HB
  by_cases hk10 : k < 0 ∨ 10 < k
  · have HQ := Lib.hid fun X => bgrow_arg 1 (n : Int) (g : Int) r u m tc k hk10 X
    go_wp2_with fail
    refine (bgrow_out HPY.out.bv k hk10).mono ?_
    rintro e w' ⟨rfl, rfl⟩
    go_wp2_with fail
    refine (HQ.out _).mono ?_
    rintro e x2 ⟨rfl, hb⟩
    have HP2 := Lib.hid (HPY.out.below hb)
    have HL2 := Lib.hid (HLY.out.below HPY.out.bv.1 hb)
    clear hb d0 d1 d2 d3 d4 c0 c1 c2 HQ
    obtain ⟨d0, d1, d2, d3, d4⟩ := HL2.out.bd.all
    obtain ⟨k0, k1, k2, k3, k4⟩ := HL2.out.bd.free
    go_upto_region 25 with fail
    change Code.wp _ _ _ _ (set5 x2 D (.int .i64 1) (.int .i64 (n : Int)) (.int .i64 (g : Int)) (.int .i64 r) (.slice u m tc))
    have HL : Hid (DL A D C E n (g : Int) r (.slice u m tc) d k nn w (set5 x2 D (.int .i64 1) (.int .i64 (n : Int)) (.int .i64 (g : Int)) (.int .i64 r) (.slice u m tc))) := Lib.hid (HL2.out.setD HDN.out HP2.out.bv.1 _ _ _)
    have HP3 : Hid (DP A B n g R s u (set5 x2 D (.int .i64 1) (.int .i64 (n : Int)) (.int .i64 (g : Int)) (.int .i64 r) (.slice u m tc))) := Lib.hid (HP2.out.set5 HL2.out.md HL2.out.bd _ _ _ _ _)
    obtain ⟨x3, hx3⟩ : ∃ x3, set5 x2 D (.int .i64 1) (.int .i64 (n : Int)) (.int .i64 (g : Int)) (.int .i64 r) (.slice u m tc) = x3 := ⟨_, rfl⟩
    rw [hx3] at HL HP3 ⊢
    have HDO := Lib.hid (do_end (tc := tc) HP3.out HL.out HDN.out)
    rw [HM.out, HRR.out] at HDO
    clear hx3 d0 d1 d2 d3 d4 k0 k1 k2 k3 k4 HP2 HL2
    obtain ⟨d0, d1, d2, d3, d4⟩ := HL.out.bd.all
    obtain ⟨e0, e1, e2, e3, e4⟩ := HL.out.be.all
    obtain ⟨f0, f1, f2, f3, f4⟩ := HL.out.be.free
    go_wp2_with fail
    change bodyPost _ _ _ _ _ (set5 x3 E (.int .i64 1) (.int .i64 (n : Int)) (.int .i64 (g : Int)) (.int .i64 r) (.slice u m tc))
    obtain ⟨z, hzz⟩ : ∃ z, set5 x3 E (.int .i64 1) (.int .i64 (n : Int)) (.int .i64 (g : Int)) (.int .i64 r) (.slice u m tc) = z := ⟨_, rfl⟩
    obtain ⟨hz1, hz2⟩ := HDO.out z hzz.symm
    have HZ2 := Lib.hid hz2
    rw [hzz]
    clear hzz hz2 d0 d1 d2 d3 d4 e0 e1 e2 e3 e4 f0 f1 f2 f3 f4
    obtain ⟨gg0, gg1, gg2, gg3, gg4⟩ := hz1.all
    exact bodyPost_ret (v := .tuple #[bqV 1 (n : Int) (g : Int) r (.slice u m tc), .bool true]) (by simp [results, Tryz.results15, go_sem, gg0, gg1, gg2, gg3, gg4]) rfl HZ2.out

  · obtain ⟨kn, rfl⟩ := Int.eq_ofNat_of_zero_le (show 0 ≤ k by omega)
    have HQ := Lib.hid fun X => bgrow_on 1 r n g kn HR.out (by have := HZ.out; omega) (by have := HZ.out; omega) (by omega) u m tc X
    have HG := Lib.hid (grow_both HPY.out kn (by omega))
    rw [HRR.out] at HG
    go_wp2_with fail
    refine HG.out.mono ?_
    rintro e x1 ⟨g', R', s', c, rfl, hq, hp1, ht, hg⟩
    have HP1 := Lib.hid hp1
    have HL1 := Lib.hid (HLY.out.went HPY.out.bv.1 hg)
    have HT := Lib.hid ht
    rw [hq] at HQ
    obtain ⟨r', hr'⟩ : ∃ r', rfI s' = r' := ⟨_, rfl⟩
    have HR' := Lib.hid hr'
    rw [hr'] at HQ
    clear hp1 hg hq ht hr' d0 d1 d2 d3 d4 c0 c1 c2 HG
    obtain ⟨d0, d1, d2, d3, d4⟩ := HL1.out.bd.all
    obtain ⟨c0, c1, c2⟩ := HL1.out.bc.all
    go_wp2_with fail
    refine (HQ.out _).mono ?_
    rintro e x2 ⟨rfl, hb⟩
    have HP2 := Lib.hid (HP1.out.below hb)
    have HL2 := Lib.hid (HL1.out.below HP1.out.bv.1 hb)
    clear hb d0 d1 d2 d3 d4 c0 c1 c2 HQ
    obtain ⟨d0, d1, d2, d3, d4⟩ := HL2.out.bd.all
    obtain ⟨k0, k1, k2, k3, k4⟩ := HL2.out.bd.free
    go_upto_region 25 with fail
    change Code.wp _ _ _ _ (set5 x2 D (.int .i64 1) (.int .i64 (n : Int)) (.int .i64 (g' : Int)) (.int .i64 r') (.slice u m tc))
    have HL : Hid (DL A D C E n (g' : Int) r' (.slice u m tc) d (kn : Int) nn w (set5 x2 D (.int .i64 1) (.int .i64 (n : Int)) (.int .i64 (g' : Int)) (.int .i64 r') (.slice u m tc))) := Lib.hid (HL2.out.setD HDN.out HP2.out.bv.1 _ _ _)
    have HP3 : Hid (DP A B n g' R' s' u (set5 x2 D (.int .i64 1) (.int .i64 (n : Int)) (.int .i64 (g' : Int)) (.int .i64 r') (.slice u m tc))) := Lib.hid (HP2.out.set5 HL2.out.md HL2.out.bd _ _ _ _ _)
    obtain ⟨x3, hx3⟩ : ∃ x3, set5 x2 D (.int .i64 1) (.int .i64 (n : Int)) (.int .i64 (g' : Int)) (.int .i64 r') (.slice u m tc) = x3 := ⟨_, rfl⟩
    rw [hx3] at HL HP3 ⊢
    have HDO := Lib.hid (do_end (tc := tc) HP3.out HL.out HDN.out)
    rw [HT.out, HM.out, HR'.out] at HDO
    clear hx3 d0 d1 d2 d3 d4 k0 k1 k2 k3 k4 HP2 HL2
    obtain ⟨d0, d1, d2, d3, d4⟩ := HL.out.bd.all
    obtain ⟨e0, e1, e2, e3, e4⟩ := HL.out.be.all
    obtain ⟨f0, f1, f2, f3, f4⟩ := HL.out.be.free
    go_wp2_with fail
    change bodyPost _ _ _ _ _ (set5 x3 E (.int .i64 1) (.int .i64 (n : Int)) (.int .i64 (g' : Int)) (.int .i64 r') (.slice u m tc))
    obtain ⟨z, hzz⟩ : ∃ z, set5 x3 E (.int .i64 1) (.int .i64 (n : Int)) (.int .i64 (g' : Int)) (.int .i64 r') (.slice u m tc) = z := ⟨_, rfl⟩
    obtain ⟨hz1, hz2⟩ := HDO.out z hzz.symm
    have HZ2 := Lib.hid hz2
    rw [hzz]
    clear hzz hz2 d0 d1 d2 d3 d4 e0 e1 e2 e3 e4 f0 f1 f2 f3 f4
    obtain ⟨gg0, gg1, gg2, gg3, gg4⟩ := hz1.all
    exact bodyPost_ret (v := .tuple #[bqV 1 (n : Int) (g' : Int) r' (.slice u m tc), .bool true]) (by simp [results, Tryz.results15, go_sem, gg0, gg1, gg2, gg3, gg4]) rfl HZ2.out

end Go.Proofs.YtfemgekhpcgliaaGreat.Bt
/- The statement's Do: Shrink, Refuse. -/
namespace Go.Proofs.YtfemgekhpcgliaaGreat.Bt
open Go Go.RowKit Go.Shelf
set_option linter.unusedVariables false
set_option linter.unusedSimpArgs false
set_option maxHeartbeats 16000000 in
set_option maxRecDepth 100000 in
theorem do_shrink {A B n g : Nat} {R : Runs} {s : ASt} {u : Option Addr} {tc : Nat} {w : World} (d k nn : Int) (hm : Int.tmod d 8 = 6) (hd : 0 ≤ d ∧ d ≤ 255) (hk : -9223372036854775808 ≤ k ∧ k ≤ 9223372036854775807) (hnn : -9223372036854775808 ≤ nn ∧ nn ≤ 9223372036854775807) (hp : DP A B n g R s u w) :
    Calls Tryz.prog 15 #[bdyP B, bqV 1 (n : Int) (g : Int) (rfI s) (.slice u (tkT R g).length tc), .agg #[.int .u8 d, .int .i64 k, .int .i64 nn]] w (DoP A B n w) := by
  have hz := hp.bu.sz hp.bv.2.1
  have hr := rfI_le hp.bv.1
  have HP := Lib.hid hp
  have HB := Lib.hid (do_begin (tc := tc) d k nn hp)
  have HZ := Lib.hid hz
  have HR := Lib.hid hr
  have HKK := Lib.hid hk; have HNN := Lib.hid hnn
  obtain ⟨m, hmm⟩ : ∃ m, (tkT R g).length = m := ⟨_, rfl⟩
  have HM := Lib.hid hmm
  obtain ⟨r, hrr⟩ : ∃ r, rfI s = r := ⟨_, rfl⟩
  have HRR := Lib.hid hrr
  rw [hmm, hrr] at HB
  rw [hmm, hrr]
  rw [hrr] at HR
  clear hp hz hr hmm hrr hk hnn
  go_enter Tryz.func15, Tryz.ntmps15
  go_upto_region 1 with fail
  obtain ⟨y, hy⟩ : ∃ y, ((w.alloc (.cells (bqA 1 (n : Int) (g : Int) r (.slice u m tc)) 33)).alloc (.cells (acA d k nn) 37)).alloc (.cells (bqA 0 0 0 0 (.slice none 0 0)) 33) = y := ⟨_, rfl⟩
  obtain ⟨hpy, hly, hny⟩ := HB.out y hy.symm
  rw [hy]
  obtain ⟨D, hD⟩ : ∃ D, w.heap.size = D := ⟨_, rfl⟩
  obtain ⟨C, hC⟩ : ∃ C, w.heap.size + 1 = C := ⟨_, rfl⟩
  obtain ⟨E, hE⟩ : ∃ E, w.heap.size + 2 = E := ⟨_, rfl⟩
  have hE2 : w.heap.size + 1 + 1 = E := hE
  rw [hE, hC, hD] at hly hny
  rw [hE2, hC, hD]
  have HPY := Lib.hid hpy; have HLY := Lib.hid hly; have HDN := Lib.hid hny
  obtain ⟨d0, d1, d2, d3, d4⟩ := hly.bd.all
  obtain ⟨c0, c1, c2⟩ := hly.bc.all
  clear hpy hly hny hy hD hC hE hE2 HB
  have HS := Lib.hid (bshrink_any HPY.out.bv HPY.out.bu)
  have HQ := Lib.hid fun X (hX : RnAt X u (tkT R g)) => bshr_any 1 (n : Int) r g (by have := HZ.out; omega) u tc R HPY.out.bu.ti X hX
  rw [HM.out] at HQ
  go_wp2_with fail
  refine HS.out.mono ?_
  rintro e x1 ⟨g1, R1, s1, hE1, rfl, hsh⟩
  have ht := tkT_same HPY.out.bu.ti hsh.bu.ti hsh.tk
  have HP1 : Hid (DP A B n g1 R1 s1 u x1) := Lib.hid ⟨hsh.bv, hsh.bu, by rw [ht]; exact HPY.out.rn.went HPY.out.bv.1 hsh.wt⟩
  have HL1 := Lib.hid (HLY.out.went HPY.out.bv.1 hsh.wt)
  have HT := Lib.hid ht
  have HR' : Hid (rfI s1 = r) := Lib.hid (by rw [rfI_same hsh.rf hsh.lf]; exact HRR.out)
  have HE1 := Lib.hid hE1
  have HRN : Hid (RnAt x1 u (tkT R g)) := Lib.hid (by rw [← ht]; exact HP1.out.rn)
  clear hsh ht hE1 d0 d1 d2 d3 d4 c0 c1 c2 HS
  obtain ⟨d0, d1, d2, d3, d4⟩ := HL1.out.bd.all
  go_wp2_with fail
  refine (HQ.out _ HRN.out).mono ?_
  rintro e x2 ⟨e1, hE2, hle, rfl, hb⟩
  have hee := HE1.out.one hE2
  subst hee
  have HP2 := Lib.hid (HP1.out.below (hb.alloc hb.size (.cells (bqA 1 (n : Int) (g1 : Int) r (.slice u m tc)) 33)))
  have HL := Lib.hid (HL1.out.below HP1.out.bv.1 (hb.alloc hb.size (.cells (bqA 1 (n : Int) (g1 : Int) r (.slice u m tc)) 33)))
  have HG : Hid (BqAt x2.heap.size 1 (n : Int) (g1 : Int) r (.slice u m tc) (x2.alloc (.cells (bqA 1 (n : Int) (g1 : Int) r (.slice u m tc)) 33))) := Lib.hid (heap_new x2 _)
  clear hb hE2 hle d0 d1 d2 d3 d4
  go_upto_region 21 with fail
  obtain ⟨x3, hx3⟩ : ∃ x3, x2.alloc (.cells (bqA 1 (n : Int) (g1 : Int) r (.slice u m tc)) 33) = x3 := ⟨_, rfl⟩
  obtain ⟨G, hG⟩ : ∃ G, x2.heap.size = G := ⟨_, rfl⟩
  rw [hx3] at HP2 HL HG ⊢
  rw [hG] at HG ⊢
  clear hx3 hG
  have HDO := Lib.hid (do_end (tc := tc) HP2.out HL.out HDN.out)
  rw [HT.out, HM.out, HR'.out] at HDO
  obtain ⟨k0, k1, k2, k3, k4⟩ := HG.out.all
  obtain ⟨d0, d1, d2, d3, d4⟩ := HL.out.bd.all
  obtain ⟨e0, e1, e2, e3, e4⟩ := HL.out.be.all
  obtain ⟨f0, f1, f2, f3, f4⟩ := HL.out.be.free
  go_wp2_with fail
  change bodyPost _ _ _ _ _ (set5 x3 E (.int .i64 1) (.int .i64 (n : Int)) (.int .i64 (g1 : Int)) (.int .i64 r) (.slice u m tc))
  obtain ⟨z, hzz⟩ : ∃ z, set5 x3 E (.int .i64 1) (.int .i64 (n : Int)) (.int .i64 (g1 : Int)) (.int .i64 r) (.slice u m tc) = z := ⟨_, rfl⟩
  obtain ⟨hz1, hz2⟩ := HDO.out z hzz.symm
  have HZ2 := Lib.hid hz2
  rw [hzz]
  clear hzz hz2 d0 d1 d2 d3 d4 e0 e1 e2 e3 e4 f0 f1 f2 f3 f4
  obtain ⟨gg0, gg1, gg2, gg3, gg4⟩ := hz1.all
  exact bodyPost_ret (v := .tuple #[bqV 1 (n : Int) (g1 : Int) r (.slice u m tc), .bool true]) (by simp [results, Tryz.results15, go_sem, gg0, gg1, gg2, gg3, gg4]) rfl HZ2.out

theorem DL.setR {A D C E n : Nat} {gv r d k nn : Int} {v : Value} {w x : World} {s : ASt} (h : DL A D C E n gv r v d k nn w x) (hn : DN w D C E) (ho : On A s x) (r' : Int) : DL A D C E n gv r' v d k nn w (x.setCell ⟨D, 3, none⟩ (.int .i64 r')) := by
  exact ⟨heap_set (o := 3) h.bd (.int .i64 r'), (Below.heap_setCell _ ⟨D, 3, none⟩ _ _ (fun c => hn.ne.2.2 c.symm)).trans h.bc, (Below.heap_setCell _ ⟨D, 3, none⟩ _ _ (fun c => hn.ne.1 c.symm)).trans h.be, Mine.set ho h.md h.md 3 _, Mine.set ho h.md h.me 3 _, h.wt.set ho h.md hn.lt.1 3 _⟩
theorem DP.set1 {A B n g E : Nat} {R : Runs} {s : ASt} {u : Option Addr} {x : World} {o q g0 r0 : Int} {v : Value} (h : DP A B n g R s u x) (he : Mine A E x) (hE : BqAt E o q g0 r0 v x) (k : Nat) (z : Value) : DP A B n g R s u (x.setCell ⟨E, k, none⟩ z) :=
  ⟨⟨h.bv.1.set he k z, h.bv.2.1, (Below.heap_setCell _ ⟨E, k, none⟩ _ _ (fun c => by
    have h1 := h.bv.2.2
    unfold BdyAt at h1
    rw [c, show x.heap[E]? = _ from hE] at h1
    simp only [Option.some.injEq, Obj.cells.injEq] at h1
    exact absurd h1.2.1 (by decide))).trans h.bv.2.2⟩, h.bu, by
    rcases h.rn with c | ⟨gb, e, hgl, hcc⟩
    · exact .inl c
    · rcases rn_bq h.rn hE gb e with c | c
      · exact .inl c
      · exact RnAt.set1 (.inr ⟨gb, e, hgl, hcc⟩) (fun j hj => by rw [e] at hj; simp at hj; omega) k z⟩
theorem on_refuse8 {A : Nat} {s : ASt} {w : World} (h : On A s w) (k : Int) (hk : k ≤ 9223372036854775807) :
    Calls Tryz.prog 10 #[.pointer (some ⟨A, 0, none⟩), .int .i64 k] w (Ret A { s with rf := true, lf := k.toNat } (.tuple #[]) w) := by
  obtain ⟨P, ps, p, n, cap, h⟩ := h
  obtain ⟨c0, c1, c2, c3, c4⟩ := h.head
  have f3 := h.free 3
  have f4 := h.free 4
  have hF : ArX A { s with rf := true, lf := k.toNat } P ps p n cap ((w.setCell ⟨A, 3, none⟩ (.bool true)).setCell ⟨A, 4, none⟩ (.int .i64 (k.toNat : Int))) ∧ Step A P ps ps w ((w.setCell ⟨A, 3, none⟩ (.bool true)).setCell ⟨A, 4, none⟩ (.int .i64 (k.toNat : Int))) :=
    headed h rfl rfl rfl (by show k.toNat ≤ _; omega) (by rw [set_size, set_size]) rfl rfl rfl (by rw [heap_set (heap_set h.hd _) _]; rfl) fun j hj => (Below.heap_setCell _ _ _ _ (by exact hj)).trans (Below.heap_setCell _ _ _ _ (by exact hj))
  obtain ⟨g1, g2⟩ := Went.of_turned h ⟨ps, p, n, cap, hF.1, hF.2, fun b off e => .inl rfl⟩
  have HG := Lib.hid (And.intro g1 g2)
  clear h hF g1 g2
  by_cases h0 : 0 ≤ k
  · obtain ⟨kn, rfl⟩ := Int.eq_ofNat_of_zero_le h0
    rw [Int.toNat_natCast] at HG
    go_enter Tryz.func10, Tryz.ntmps10
    go_wp2_with fail
    go_end0
    exact ⟨rfl, HG.out.1, HG.out.2⟩
  · have e : k.toNat = 0 := by omega
    rw [e] at HG
    go_enter Tryz.func10, Tryz.ntmps10
    go_wp2_with fail
    go_end0
    refine ⟨by rfl, ?_, HG.out.2⟩
    first | exact HG.out.1 | (rw [e]; exact HG.out.1)
theorem Bud.refuse {cap G g x : Nat} {R : Runs} {s : ASt} (h : Bud cap G g R x s) (rf : Bool) (lf : Nat) : Bud cap G g R x { s with rf := rf, lf := lf } :=
  { cL := h.cL, c2 := h.c2, es := h.es, gG := h.gG, mr := h.mr, gr := h.gr, tg := h.tg, ls := h.ls, ti := h.ti }
set_option maxHeartbeats 16000000 in
set_option maxRecDepth 100000 in
theorem do_refuse {A B n g : Nat} {R : Runs} {s : ASt} {u : Option Addr} {tc : Nat} {w : World} (d k nn : Int) (hm : Int.tmod d 8 = 7) (hd : 0 ≤ d ∧ d ≤ 255) (hk : -9223372036854775808 ≤ k ∧ k ≤ 9223372036854775807) (hnn : -9223372036854775808 ≤ nn ∧ nn ≤ 9223372036854775807) (hp : DP A B n g R s u w) :
    Calls Tryz.prog 15 #[bdyP B, bqV 1 (n : Int) (g : Int) (rfI s) (.slice u (tkT R g).length tc), .agg #[.int .u8 d, .int .i64 k, .int .i64 nn]] w (DoP A B n w) := by
  have hz := hp.bu.sz hp.bv.2.1
  have hr := rfI_le hp.bv.1
  have HP := Lib.hid hp
  have HB := Lib.hid (do_begin (tc := tc) d k nn hp)
  have HZ := Lib.hid hz
  have HR := Lib.hid hr
  have HKK := Lib.hid hk; have HNN := Lib.hid hnn
  obtain ⟨m, hmm⟩ : ∃ m, (tkT R g).length = m := ⟨_, rfl⟩
  have HM := Lib.hid hmm
  obtain ⟨r, hrr⟩ : ∃ r, rfI s = r := ⟨_, rfl⟩
  have HRR := Lib.hid hrr
  rw [hmm, hrr] at HB
  rw [hmm, hrr]
  rw [hrr] at HR
  clear hp hz hr hmm hrr hk hnn
  go_enter Tryz.func15, Tryz.ntmps15
  go_upto_region 1 with fail
  obtain ⟨y, hy⟩ : ∃ y, ((w.alloc (.cells (bqA 1 (n : Int) (g : Int) r (.slice u m tc)) 33)).alloc (.cells (acA d k nn) 37)).alloc (.cells (bqA 0 0 0 0 (.slice none 0 0)) 33) = y := ⟨_, rfl⟩
  obtain ⟨hpy, hly, hny⟩ := HB.out y hy.symm
  rw [hy]
  obtain ⟨D, hD⟩ : ∃ D, w.heap.size = D := ⟨_, rfl⟩
  obtain ⟨C, hC⟩ : ∃ C, w.heap.size + 1 = C := ⟨_, rfl⟩
  obtain ⟨E, hE⟩ : ∃ E, w.heap.size + 2 = E := ⟨_, rfl⟩
  have hE2 : w.heap.size + 1 + 1 = E := hE
  rw [hE, hC, hD] at hly hny
  rw [hE2, hC, hD]
  have HPY := Lib.hid hpy; have HLY := Lib.hid hly; have HDN := Lib.hid hny
  obtain ⟨d0, d1, d2, d3, d4⟩ := hly.bd.all
  obtain ⟨c0, c1, c2⟩ := hly.bc.all
  clear hpy hly hny hy hD hC hE hE2 HB
  have HRF := Lib.hid fun X (hX : On A s X) => on_refuse8 hX nn HNN.out.2
  obtain ⟨q, hq⟩ : ∃ q : Nat, nn.toNat = q := ⟨_, rfl⟩
  have hq1 : (if nn < 0 then 0 else nn) = (q : Int) := by split <;> omega
  have hq2 : (if 0 < nn then nn else 0) = (q : Int) := by split <;> omega
  have hq3 : max nn 0 = (q : Int) := by omega
  rw [hq] at HRF
  have HR' : Hid (rfI { s with rf := true, lf := q } = (q : Int)) := Lib.hid rfl
  clear hq
  go_wp2_with fail
  have hk1 := (HPY.out.bv.below (Below.refl y.heap.size y).drew).all
  have hk2 := ((HLY.out.below HPY.out.bv.1 (Below.refl y.heap.size y).drew).bc).all
  have hw1 : On A s y.drew := HPY.out.bv.1.below (Below.refl y.heap.size y).drew
  clear d0 d1 d2 d3 d4 c0 c1 c2
  go_region_held3 (fun x => x.cell? ⟨B, 0, none⟩ = some (.pointer (some ⟨A, 0, none⟩)) ∧ x.cell? ⟨C, 2, none⟩ = some (.int .i64 nn))
    (first | assumption | exact ⟨hk1.1, hk2.2.2⟩)
    (first | (go_at_call 10
              refine (HRF.out _ hw1).mono ?_
              rintro e x1 ⟨rfl, ho, hg⟩
              have hgg := (Went.of_below HPY.out.bv.1 (Below.refl y.heap.size y).drew).trans hg
              have hp1 : DP A B n g R { s with rf := true, lf := q } u x1 := ⟨HPY.out.bv.went ho hgg rfl, HPY.out.bu.refuse true q, HPY.out.rn.went HPY.out.bv.1 hgg⟩
              have hl1 := HLY.out.went HPY.out.bv.1 hgg
              have kk := And.intro hp1.bv.all.1 hl1.bc.all.2.2))
  have HP1 := Lib.hid hp1
  have HL1 := Lib.hid hl1
  clear hk1 hk2 hw1 hgg hp1 hl1 kk ho hg
  obtain ⟨d0, d1, d2, d3, d4⟩ := HL1.out.bd.all
  obtain ⟨c0, c1, c2⟩ := HL1.out.bc.all
  obtain ⟨k0, k1, k2, k3, k4⟩ := HL1.out.bd.free
  go_upto_region 25 with fail
  change Code.wp _ _ _ _ (x1.setCell ⟨D, 3, none⟩ (.int .i64 (q : Int)))
  have HL := Lib.hid (HL1.out.setR HDN.out HP1.out.bv.1 (q : Int))
  have HP3 := Lib.hid (HP1.out.set1 HL1.out.md HL1.out.bd 3 (.int .i64 (q : Int)))
  obtain ⟨x3, hx3⟩ : ∃ x3, x1.setCell ⟨D, 3, none⟩ (.int .i64 (q : Int)) = x3 := ⟨_, rfl⟩
  rw [hx3] at HL HP3 ⊢
  have HDO := Lib.hid (do_end (tc := tc) HP3.out HL.out HDN.out)
  rw [HM.out, HR'.out] at HDO
  clear hx3 d0 d1 d2 d3 d4 k0 k1 k2 k3 k4 c0 c1 c2
  obtain ⟨d0, d1, d2, d3, d4⟩ := HL.out.bd.all
  obtain ⟨e0, e1, e2, e3, e4⟩ := HL.out.be.all
  obtain ⟨f0, f1, f2, f3, f4⟩ := HL.out.be.free
  go_wp2_with fail
  change bodyPost _ _ _ _ _ (set5 x3 E (.int .i64 1) (.int .i64 (n : Int)) (.int .i64 (g : Int)) (.int .i64 (q : Int)) (.slice u m tc))
  obtain ⟨z, hzz⟩ : ∃ z, set5 x3 E (.int .i64 1) (.int .i64 (n : Int)) (.int .i64 (g : Int)) (.int .i64 (q : Int)) (.slice u m tc) = z := ⟨_, rfl⟩
  obtain ⟨hz1, hz2⟩ := HDO.out z hzz.symm
  have HZ2 := Lib.hid hz2
  rw [hzz]
  clear hzz hz2 d0 d1 d2 d3 d4 e0 e1 e2 e3 e4 f0 f1 f2 f3 f4
  obtain ⟨gg0, gg1, gg2, gg3, gg4⟩ := hz1.all
  exact bodyPost_ret (v := .tuple #[bqV 1 (n : Int) (g : Int) (q : Int) (.slice u m tc), .bool true]) (by simp [results, Tryz.results15, go_sem, gg0, gg1, gg2, gg3, gg4]) rfl HZ2.out

end Go.Proofs.YtfemgekhpcgliaaGreat.Bt
