/- The walk of ListWrong. -/
import Derived.Test.YtfappdiipflpfaaLsH
import Derived.Test.YtfappdiipflpfaaBitsVar
import Derived.Deep.DeepCutAuto
namespace Go.Proofs.Ytfappdiipflpfaa.Bt
open Go Go.RowKit Go.Shelf
set_option linter.unusedVariables false

/-- what stands in the two lists -/
def Two (s : ASt) : Prop := LsK s 64 19 0 64 [4096, 5000] ∧ LsK s 64 19 1 72 []
theorem ints_len {w : World} {v : Value} {zs : List Int} (h : IntsAt w v zs) : ∃ p cap, v = .slice p zs.length cap ∧ IntsRow w p zs := h.row
theorem irow_below {w w' : World} {p : Option Addr} {zs : List Int} (h : IntsRow w p zs) (hb : Below w.heap.size w w') : IntsRow w' p zs := by
  rcases h with h | ⟨b, off, e, hlt, hc⟩
  · exact .inl h
  · exact .inr ⟨b, off, e, Nat.lt_of_lt_of_le hlt hb.size, fun k hk => (hb.cell (p := ⟨b, off + k, none⟩) hlt).trans (hc k hk)⟩
theorem two_row {w : World} {b : Nat} {x y : Int} (h : w.heap[b]? = some (.cells #[.int .i64 x, .int .i64 y] 3 (0, 0))) : IntsRow w (some ⟨b, 0, none⟩) [x, y] := by
  refine .inr ⟨b, 0, rfl, (Array.getElem?_eq_some_iff.1 h).1, fun k hk => ?_⟩
  rw [Nat.zero_add, (cell_blk h k).1]
  match k, hk with
  | 0, _ => rfl
  | 1, _ => rfl
theorem toL_two : toL (prs 64 8 [4096, 5000]) = [4096, 5000] := by decide
theorem toL_none : toL (prs 72 8 []) = [] := by decide

set_option maxHeartbeats 4000000 in
set_option maxRecDepth 100000 in
theorem wrong_bad (k at_ er : Int) (lp : List Lk) (hkk : k < 0 ∧ er = 3 ∨ 1 < k ∧ er = 3 ∨ k = 1 ∧ er = 8 ∨ k = 0 ∧ er = 8 ∧ ¬ at_ = 4096 ∧ ¬ at_ = 5000)
    (hlk : ∀ s, Two s → LkL s 64 19 k lp) (hrm : ∀ A s w, On A s w → Two s → Calls Try.prog 80 #[lsP (some ⟨A, 0, none⟩) 64 19, .int .i64 k, .int .i64 at_] w (Gives (.int .i64 er) w))
    (hhas : hasV lp at_ = false) (w : World) : Calls Try.prog 17 #[.int .i64 k, .int .i64 at_] w (TrueAt w) := by
  have N0 := Lib.hid (ls_new 19 0 (by omega) (by omega))
  have N1 := Lib.hid (ls_new 19 1 (by omega) (by omega))
  have TA : Hid (∀ m, thereE (twoS m).L (twoS m).es ((4096 : Nat) : Int) 16 = 0) := Lib.hid fun m => there_two (by omega) (by omega) (by omega)
  have TB : Hid (∀ m, thereE (twoS m).L (twoS m).es ((5000 : Nat) : Int) 16 = 0) := Lib.hid fun m => there_two (by omega) (by omega) (by omega)
  have HLK := Lib.hid hlk
  have HRM := Lib.hid hrm
  have HHS := Lib.hid hhas
  have HKK := Lib.hid hkk
  clear hlk hrm hhas hkk
  go_enter Try.func17, Try.ntmps17
  go_wp2_with fail
  refine (awake7 _).mono ?_
  rintro e w0 ⟨rfl, hb0⟩
  go_wp2_with fail
  refine (open7 2 (by omega) _).mono ?_
  rintro e w1 ⟨A, rfl, hx, hb⟩
  obtain ⟨R, hR⟩ : ∃ R, w1.heap.size = R := ⟨_, rfl⟩
  obtain ⟨w2, hw2⟩ : ∃ w2, w1.alloc (.cells #[.pointer (some ⟨A, 0, none⟩), .int .i64 64, .int .i64 19] 115) = w2 := ⟨_, rfl⟩
  have HV2 : Hid (LsV R A 19 (twoS fun _ => 0) w w2) := Lib.hid (by rw [← hw2, ← hR]; exact LsV.start hx (hb.rebase hb0))
  have HW2 := Lib.hid hw2
  clear hx hb hw2 hb0
  go_wp2_with fail
  rw [HW2.out]
  clear HW2 hR
  refine (ladd_ls HV2.out.o 64 19 (by omega) (by omega) 0 64 4096 [] N0.out (by omega) (by simp) (TA.out _) (apart1 _) (fun c hc => by rw [List.mem_singleton.1 hc]; omega)).mono ?_
  rintro e w3 ⟨m3, rfl, ho, hg, hl, hoth⟩
  have HV3 := Lib.hid (HV2.out.went ho hg)
  have HL3 : Hid (LsK (twoS m3) 64 19 0 64 [4096]) := Lib.hid hl
  have HM3 : Hid (LsK (twoS m3) 64 19 1 72 []) := Lib.hid (hoth 1 72 [] N1.out (fun c hc => by rw [List.mem_singleton.1 hc]; exact ⟨by omega, fun d hd => by rw [List.mem_singleton.1 hd]; omega⟩))
  obtain ⟨c0, c1, c2⟩ := HV3.out.all
  clear ho hg hl HV2 N0 hoth
  go_wp2_with fail
  refine (ladd_ls HV3.out.o 64 19 (by omega) (by omega) 0 64 5000 [4096] HL3.out (by omega) (by simp) (TB.out _) (apart2 (by omega)) (fun c hc => by simp at hc; omega)).mono ?_
  rintro e w4 ⟨m4, rfl, ho, hg, hl, hoth⟩
  have HV4 := Lib.hid (HV3.out.went ho hg)
  have HT4 : Hid (Two (twoS m4)) := Lib.hid ⟨hl, hoth 1 72 [] HM3.out (fun c hc => by rw [List.mem_singleton.1 hc]; exact ⟨by omega, fun d hd => by simp at hd; omega⟩)⟩
  clear c0 c1 c2
  obtain ⟨c0, c1, c2⟩ := HV4.out.all
  clear ho hg hl HV3 HL3 HM3 hoth
  obtain ⟨bt, hbt⟩ : ∃ bt : Bool, decide (at_ = 4096 ∨ at_ = 5000) = bt := ⟨_, rfl⟩
  have HBT := Lib.hid hbt
  clear hbt c0 c1 c2
  go_upto_region 6 with fail
  go_cut [8] (fun s8 wx => s8 = .bool bt ∧ w4 = wx)
  case first =>
    as_aux_lemma =>
    by_cases h4 : at_ = 4096
    · have hbt : bt = true := by rw [← HBT.out]; simp [h4]
      subst h4 hbt
      go_wp2_with fail
      go_meet
      exact ⟨rfl, rfl⟩
    · have d4 : (at_ == 4096) = false := by simpa using h4
      by_cases h5 : at_ = 5000
      · have hbt : bt = true := by rw [← HBT.out]; simp [h5]
        subst h5 hbt
        clear h4
        go_wp2_with fail
        go_meet
        exact ⟨rfl, rfl⟩
      · have hbt : bt = false := by rw [← HBT.out]; simp [h4, h5]
        have d5 : (at_ == 5000) = false := by simpa using h5
        subst hbt
        clear h4 h5
        go_wp2_with fail
        go_meet
        exact ⟨rfl, rfl⟩
  case rest =>
  obtain ⟨rfl, rfl⟩ := hcut
  have HK0 : Hid (bt = true → (k == 0) = false ∧ (k != 0) = true) := Lib.hid fun h => by
    rw [← HBT.out] at h
    have h1 : at_ = 4096 ∨ at_ = 5000 := by simpa using h
    have h2 : k ≠ 0 := by rcases HKK.out with ⟨hk, _⟩ | ⟨hk, _⟩ | ⟨hk, _⟩ | ⟨hk, _, h4, h5⟩ <;> omega
    exact ⟨by simpa using h2, by simpa using h2⟩
  clear HBT
  go_upto_region 7 with fail
  go_cut [45] (fun s45 wx => s45 = .bool false ∧ LsV R A 19 (twoS m4) w wx)
  case first =>
    as_aux_lemma =>
    obtain ⟨c0, c1, c2⟩ := HV4.out.all
    go_wp2_with fail
    refine (lhas HV4.out.o 64 19 (by omega) (by omega) _ _ lp (HLK.out _ HT4.out)).mono ?_
    rintro e w5 ⟨rfl, hb⟩
    rw [HHS.out]
    have HV5 := Lib.hid (HV4.out.below hb)
    clear c0 c1 c2 hb
    cases bt with
    | false =>
      go_wp2_with fail
      go_meet
      exact ⟨rfl, HV5.out⟩
    | true =>
      have hk0 := (HK0.out rfl).1
      go_wp2_with fail
      go_meet
      exact ⟨rfl, HV5.out⟩
  case rest =>
  rename_i w5
  obtain ⟨rfl, hv5⟩ := hcut
  have HV5 := Lib.hid hv5
  obtain ⟨c0, c1, c2⟩ := hv5.all
  clear hv5
  go_wp2_with fail
  refine (HRM.out _ _ _ HV5.out.o HT4.out).mono ?_
  rintro e w6 ⟨rfl, hb⟩
  have HV6 := Lib.hid (HV5.out.below hb)
  clear c0 c1 c2 hb
  go_upto_region 10 with fail
  go_cut [55] (fun s55 wx => s55 = .bool true ∧ w6 = wx)
  case first =>
    as_aux_lemma =>
    cases bt with
    | false =>
      go_wp2_with fail
      go_meet
      exact ⟨rfl, rfl⟩
    | true =>
      have hk0 := (HK0.out rfl).2
      go_wp2_with fail
      go_meet
      exact ⟨rfl, rfl⟩
  case rest =>
  obtain ⟨rfl, rfl⟩ := hcut
  have hkx : k < 0 ∧ er = 3 ∨ 1 < k ∧ er = 3 ∨ (¬ k < 0 ∧ ¬ 1 < k) ∧ er = 8 := by
    rcases HKK.out with ⟨hk, h⟩ | ⟨hk, h⟩ | ⟨hk, h⟩ | ⟨hk, h, _⟩
    · exact .inl ⟨hk, h⟩
    · exact .inr (.inl ⟨hk, h⟩)
    · exact .inr (.inr ⟨by omega, h⟩)
    · exact .inr (.inr ⟨by omega, h⟩)
  clear HK0 HKK HRM HLK HHS HV5 HV4
  obtain ⟨c0, c1, c2⟩ := HV6.out.all
  rcases hkx with ⟨hk, rfl⟩ | ⟨hk, rfl⟩ | ⟨⟨hk, hk2⟩, rfl⟩
  rotate_left
  · have hk2 : ¬ k < 0 := by omega
    go_wp2_with fail
    refine (lall HV6.out.o 64 19 (by omega) (by omega) 0 _ HT4.out.1.lk (by simp [prs])).mono ?_
    rintro e w7 ⟨v, rfl, hi, hb⟩
    rw [toL_two] at hi
    obtain ⟨p, cap, rfl, hrow⟩ := ints_len hi
    have HV7 := Lib.hid (HV6.out.below hb)
    have HRW := Lib.hid hrow
    have bN := bel1 w7 (.cells #[.int .i64 4096, .int .i64 5000] 3)
    have hn := heap_new w7 (.cells #[.int .i64 4096, .int .i64 5000] 3)
    have HEQ := Lib.hid (equal_any p (some ⟨w7.heap.size, 0, none⟩) cap 2 2 2 [4096, 5000] [4096, 5000] rfl rfl (by omega) (w7.alloc (.cells #[.int .i64 4096, .int .i64 5000] 3)) (irow_below hrow bN) (two_row hn))
    have HV8 := Lib.hid (HV7.out.below bN)
    clear c0 c1 c2 hb hi hrow bN hn
    go_wp2_with fail
    refine HEQ.out.mono ?_
    rintro e w8 ⟨rfl, nd, hw8⟩
    have HV9 := Lib.hid (show LsV R A 19 (twoS m4) w w8 by rw [hw8]; exact HV8.out.below (below_drewN (Below.refl _ _) nd))
    obtain ⟨c0, c1, c2⟩ := HV9.out.all
    clear hw8
    go_wp2_with fail
    refine (lall HV9.out.o 64 19 (by omega) (by omega) 1 _ HT4.out.2.lk (by simp [prs])).mono ?_
    rintro e w10 ⟨v, rfl, hi, hb⟩
    rw [toL_none] at hi
    obtain ⟨p2, cap2, rfl, _⟩ := ints_len hi
    have HV10 := Lib.hid (HV9.out.below hb)
    clear c0 c1 c2 hb hi
    go_wp2_with fail
    go_ret
    exact ⟨rfl, HV10.out.b.bel⟩
  · go_wp2_with fail
    refine (lall HV6.out.o 64 19 (by omega) (by omega) 0 _ HT4.out.1.lk (by simp [prs])).mono ?_
    rintro e w7 ⟨v, rfl, hi, hb⟩
    rw [toL_two] at hi
    obtain ⟨p, cap, rfl, hrow⟩ := ints_len hi
    have HV7 := Lib.hid (HV6.out.below hb)
    have HRW := Lib.hid hrow
    have bN := bel1 w7 (.cells #[.int .i64 4096, .int .i64 5000] 3)
    have hn := heap_new w7 (.cells #[.int .i64 4096, .int .i64 5000] 3)
    have HEQ := Lib.hid (equal_any p (some ⟨w7.heap.size, 0, none⟩) cap 2 2 2 [4096, 5000] [4096, 5000] rfl rfl (by omega) (w7.alloc (.cells #[.int .i64 4096, .int .i64 5000] 3)) (irow_below hrow bN) (two_row hn))
    have HV8 := Lib.hid (HV7.out.below bN)
    clear c0 c1 c2 hb hi hrow bN hn
    go_wp2_with fail
    refine HEQ.out.mono ?_
    rintro e w8 ⟨rfl, nd, hw8⟩
    have HV9 := Lib.hid (show LsV R A 19 (twoS m4) w w8 by rw [hw8]; exact HV8.out.below (below_drewN (Below.refl _ _) nd))
    obtain ⟨c0, c1, c2⟩ := HV9.out.all
    clear hw8
    go_wp2_with fail
    refine (lall HV9.out.o 64 19 (by omega) (by omega) 1 _ HT4.out.2.lk (by simp [prs])).mono ?_
    rintro e w10 ⟨v, rfl, hi, hb⟩
    rw [toL_none] at hi
    obtain ⟨p2, cap2, rfl, _⟩ := ints_len hi
    have HV10 := Lib.hid (HV9.out.below hb)
    clear c0 c1 c2 hb hi
    go_wp2_with fail
    go_ret
    exact ⟨rfl, HV10.out.b.bel⟩
  · go_wp2_with fail
    refine (lall HV6.out.o 64 19 (by omega) (by omega) 0 _ HT4.out.1.lk (by simp [prs])).mono ?_
    rintro e w7 ⟨v, rfl, hi, hb⟩
    rw [toL_two] at hi
    obtain ⟨p, cap, rfl, hrow⟩ := ints_len hi
    have HV7 := Lib.hid (HV6.out.below hb)
    have HRW := Lib.hid hrow
    have bN := bel1 w7 (.cells #[.int .i64 4096, .int .i64 5000] 3)
    have hn := heap_new w7 (.cells #[.int .i64 4096, .int .i64 5000] 3)
    have HEQ := Lib.hid (equal_any p (some ⟨w7.heap.size, 0, none⟩) cap 2 2 2 [4096, 5000] [4096, 5000] rfl rfl (by omega) (w7.alloc (.cells #[.int .i64 4096, .int .i64 5000] 3)) (irow_below hrow bN) (two_row hn))
    have HV8 := Lib.hid (HV7.out.below bN)
    clear c0 c1 c2 hb hi hrow bN hn
    go_wp2_with fail
    refine HEQ.out.mono ?_
    rintro e w8 ⟨rfl, nd, hw8⟩
    have HV9 := Lib.hid (show LsV R A 19 (twoS m4) w w8 by rw [hw8]; exact HV8.out.below (below_drewN (Below.refl _ _) nd))
    obtain ⟨c0, c1, c2⟩ := HV9.out.all
    clear hw8
    go_wp2_with fail
    refine (lall HV9.out.o 64 19 (by omega) (by omega) 1 _ HT4.out.2.lk (by simp [prs])).mono ?_
    rintro e w10 ⟨v, rfl, hi, hb⟩
    rw [toL_none] at hi
    obtain ⟨p2, cap2, rfl, _⟩ := ints_len hi
    have HV10 := Lib.hid (HV9.out.below hb)
    clear c0 c1 c2 hb hi
    go_wp2_with fail
    go_ret
    exact ⟨rfl, HV10.out.b.bel⟩
set_option maxHeartbeats 4000000 in
set_option maxRecDepth 100000 in
theorem wrong_good (x y : Nat) (hxy : x = 4096 ∧ y = 5000 ∨ x = 5000 ∧ y = 4096) (w : World) : Calls Try.prog 17 #[.int .i64 0, .int .i64 (x : Int)] w (TrueAt w) := by
  have N0 := Lib.hid (ls_new 19 0 (by omega) (by omega))
  have N1 := Lib.hid (ls_new 19 1 (by omega) (by omega))
  have TA : Hid (∀ m, thereE (twoS m).L (twoS m).es ((4096 : Nat) : Int) 16 = 0) := Lib.hid fun m => there_two (by omega) (by omega) (by omega)
  have TB : Hid (∀ m, thereE (twoS m).L (twoS m).es ((5000 : Nat) : Int) 16 = 0) := Lib.hid fun m => there_two (by omega) (by omega) (by omega)
  have HXY := Lib.hid hxy
  clear hxy
  go_enter Try.func17, Try.ntmps17
  go_wp2_with fail
  refine (awake7 _).mono ?_
  rintro e w0 ⟨rfl, hb0⟩
  go_wp2_with fail
  refine (open7 2 (by omega) _).mono ?_
  rintro e w1 ⟨A, rfl, hx, hb⟩
  obtain ⟨R, hR⟩ : ∃ R, w1.heap.size = R := ⟨_, rfl⟩
  obtain ⟨w2, hw2⟩ : ∃ w2, w1.alloc (.cells #[.pointer (some ⟨A, 0, none⟩), .int .i64 64, .int .i64 19] 115) = w2 := ⟨_, rfl⟩
  have HV2 : Hid (LsV R A 19 (twoS fun _ => 0) w w2) := Lib.hid (by rw [← hw2, ← hR]; exact LsV.start hx (hb.rebase hb0))
  have HW2 := Lib.hid hw2
  clear hx hb hw2 hb0
  go_wp2_with fail
  rw [HW2.out]
  clear HW2 hR
  refine (ladd_ls HV2.out.o 64 19 (by omega) (by omega) 0 64 4096 [] N0.out (by omega) (by simp) (TA.out _) (apart1 _) (fun c hc => by rw [List.mem_singleton.1 hc]; omega)).mono ?_
  rintro e w3 ⟨m3, rfl, ho, hg, hl, hoth⟩
  have HV3 := Lib.hid (HV2.out.went ho hg)
  have HL3 : Hid (LsK (twoS m3) 64 19 0 64 [4096]) := Lib.hid hl
  have HM3 : Hid (LsK (twoS m3) 64 19 1 72 []) := Lib.hid (hoth 1 72 [] N1.out (fun c hc => by rw [List.mem_singleton.1 hc]; exact ⟨by omega, fun d hd => by rw [List.mem_singleton.1 hd]; omega⟩))
  obtain ⟨c0, c1, c2⟩ := HV3.out.all
  clear ho hg hl HV2 N0 hoth
  go_wp2_with fail
  refine (ladd_ls HV3.out.o 64 19 (by omega) (by omega) 0 64 5000 [4096] HL3.out (by omega) (by simp) (TB.out _) (apart2 (by omega)) (fun c hc => by simp at hc; omega)).mono ?_
  rintro e w4 ⟨m4, rfl, ho, hg, hl, hoth⟩
  have HV4 := Lib.hid (HV3.out.went ho hg)
  have HT4 : Hid (Two (twoS m4)) := Lib.hid ⟨hl, hoth 1 72 [] HM3.out (fun c hc => by rw [List.mem_singleton.1 hc]; exact ⟨by omega, fun d hd => by simp at hd; omega⟩)⟩
  clear c0 c1 c2
  obtain ⟨c0, c1, c2⟩ := HV4.out.all
  clear ho hg hl HV3 HL3 HM3 hoth
  have HHS : Hid (hasV (prs 64 8 [4096, 5000]) x = true) := Lib.hid (by rcases HXY.out with ⟨rfl, rfl⟩ | ⟨rfl, rfl⟩ <;> decide)
  have HER : Hid (([4096, 5000] : List Nat).erase x = [y]) := Lib.hid (by rcases HXY.out with ⟨rfl, rfl⟩ | ⟨rfl, rfl⟩ <;> decide)
  have HMM : Hid (0 < x ∧ x ∈ ([4096, 5000] : List Nat)) := Lib.hid (by rcases HXY.out with ⟨rfl, rfl⟩ | ⟨rfl, rfl⟩ <;> decide)
  have HAP : Hid (Apart [64, 4096, 5000]) := Lib.hid (List.pairwise_cons.2 ⟨fun c hc => by simp at hc; omega, apart2 (by omega)⟩)
  have HT8 : Hid (∀ m, thereE (twoS m).L (twoS m).es 8177 16 = 3) := Lib.hid fun m => there_two_no (by omega)
  clear c0 c1 c2
  go_upto_region 6 with fail
  go_cut [8] (fun s8 wx => s8 = .bool true ∧ w4 = wx)
  case first =>
    as_aux_lemma =>
    rcases HXY.out with ⟨rfl, rfl⟩ | ⟨rfl, rfl⟩
    · go_wp2_with fail
      go_meet
      exact ⟨rfl, rfl⟩
    · go_wp2_with fail
      go_meet
      exact ⟨rfl, rfl⟩
  case rest =>
  obtain ⟨rfl, rfl⟩ := hcut
  clear HXY
  obtain ⟨c0, c1, c2⟩ := HV4.out.all
  go_wp2_with fail
  refine (lhas HV4.out.o 64 19 (by omega) (by omega) _ _ _ HT4.out.1.lk).mono ?_
  rintro e w5 ⟨rfl, hb⟩
  rw [HHS.out]
  have HV5 := Lib.hid (HV4.out.below hb)
  clear c0 c1 c2 hb
  obtain ⟨c0, c1, c2⟩ := HV5.out.all
  go_wp2_with fail
  refine (lrem_ls HV5.out.o 64 19 (by omega) (by omega) 0 64 x _ HT4.out.1 HMM.out.1 HMM.out.2 HAP.out).mono ?_
  rintro e w6 ⟨m6, rfl, ho, hg, hl, _⟩
  rw [HER.out] at hl
  have HV6 := Lib.hid (HV5.out.went ho hg)
  have HL6 : Hid (LsK (twoS m6) 64 19 0 64 [y]) := Lib.hid hl
  clear c0 c1 c2 ho hg hl HT4 HMM HER HHS HAP
  obtain ⟨c0, c1, c2⟩ := HV6.out.all
  go_wp2_with fail
  refine (lall HV6.out.o 64 19 (by omega) (by omega) 0 _ HL6.out.lk (by simp [prs])).mono ?_
  rintro e w7 ⟨v, rfl, hi, hb⟩
  rw [toL_prs 64 8 [y] HL6.out.ch.gt] at hi
  obtain ⟨p, cap, rfl, _⟩ := ints_len hi
  have HV7 := Lib.hid (HV6.out.below hb)
  clear c0 c1 c2 hb hi
  obtain ⟨c0, c1, c2⟩ := HV7.out.all
  go_wp2_with fail
  refine (ladd_arg HV7.out.o 64 19 (by omega) (by omega) 0 0 64 _ HL6.out (by omega)).mono ?_
  rintro e w8 ⟨rfl, hb⟩
  have HV8 := Lib.hid (HV7.out.below hb)
  clear c0 c1 c2 hb
  obtain ⟨c0, c1, c2⟩ := HV8.out.all
  go_wp2_with fail
  refine (ladd_arg HV8.out.o 64 19 (by omega) (by omega) 0 (-1) 64 _ HL6.out (by omega)).mono ?_
  rintro e w9 ⟨rfl, hb⟩
  have HV9 := Lib.hid (HV8.out.below hb)
  clear c0 c1 c2 hb
  obtain ⟨c0, c1, c2⟩ := HV9.out.all
  go_wp2_with fail
  refine (ladd_no HV9.out.o 64 19 (by omega) (by omega) 0 8177 64 _ HL6.out (by omega) (by omega) (HT8.out _)).mono ?_
  rintro e w10 ⟨rfl, hb⟩
  have HV10 := Lib.hid (HV9.out.below hb)
  clear c0 c1 c2 hb
  obtain ⟨c0, c1, c2⟩ := HV10.out.all
  go_wp2_with fail
  refine (ladd_out HV10.out.o 64 19 (by omega) (by omega) 2 0 (by omega)).mono ?_
  rintro e w11 ⟨rfl, hb⟩
  have HV11 := Lib.hid (HV10.out.below hb)
  clear c0 c1 c2 hb
  go_wp2_with fail
  go_ret
  exact ⟨rfl, HV11.out.b.bel⟩
theorem hasV_zero {lp : List Lk} {f : Int} (h : atV lp f = 0) : hasV lp f = false := by
  unfold hasV; rw [h, decide_eq_false]; rintro ⟨h1, h2⟩; omega
theorem wrong_all (k at_ : Int) (w : World) : Calls Try.prog 17 #[.int .i64 k, .int .i64 at_] w (TrueAt w) := by
  by_cases hk : k < 0 ∨ 1 < k
  · refine wrong_bad k at_ 3 [] (by omega) (fun s hs => .inl ⟨by omega, rfl⟩) (fun A s w ho hs => lrem_out ho 64 19 (by omega) (by omega) k at_ (by omega)) ?_ w
    exact hasV_zero rfl
  · by_cases h1 : k = 1
    · subst h1
      refine wrong_bad 1 at_ 8 (prs 72 8 []) (by omega) (fun s hs => hs.2.lk) (fun A s w ho hs => lrem_none ho 64 19 (by omega) (by omega) 1 at_ 72 [] hs.2 (by simp)) ?_ w
      exact hasV_zero (by simp [atV, prs, isF])
    · obtain rfl : k = 0 := by omega
      by_cases h4 : at_ = 4096
      · subst h4; exact wrong_good 4096 5000 (.inl ⟨rfl, rfl⟩) w
      · by_cases h5 : at_ = 5000
        · subst h5; exact wrong_good 5000 4096 (.inr ⟨rfl, rfl⟩) w
        · refine wrong_bad 0 at_ 8 (prs 64 8 [4096, 5000]) (.inr (.inr (.inr ⟨rfl, rfl, h4, h5⟩))) (fun s hs => hs.1.lk) (fun A s w ho hs => lrem_none ho 64 19 (by omega) (by omega) 0 at_ 64 _ hs.1 (fun x hx => by subst hx; simp; omega)) ?_ w
          by_cases h0 : 0 < at_
          · obtain ⟨x, rfl⟩ : ∃ x : Nat, at_ = x := ⟨at_.toNat, by omega⟩
            have hm : x ∉ ([4096, 5000] : List Nat) := by simp; omega
            have h3 : ∀ z, (fnd 64 8 [4096, 5000] (x : Int)).2.2 = z → z = x → False := fun z e e2 => by
              unfold fnd at e
              split at e
              · simp at e; omega
              · unfold fnd at e
                split at e
                · simp at e; omega
                · simp [fnd] at e; omega
            unfold hasV
            rw [show atV (prs 64 8 [4096, 5000]) (x : Int) = ((fnd 64 8 [4096, 5000] (x : Int)).2.2 : Int) from by
              unfold atV; rw [find_prs 64 8 [4096, 5000] x (by simp)]]
            rw [decide_eq_false]
            rintro ⟨_, e⟩
            exact h3 _ rfl (by omega)
          · unfold hasV; rw [decide_eq_false]; rintro ⟨h, _⟩; exact h0 h
end Go.Proofs.Ytfappdiipflpfaa.Bt
