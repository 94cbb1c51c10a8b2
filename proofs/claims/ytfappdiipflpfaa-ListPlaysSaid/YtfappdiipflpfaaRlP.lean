/- Several texts in one: LsI; LsJ; LsK; RlA; RlB; RlC; RlD; RlE; RlF; RlG; RlH. -/
import Derived.Test.YtfappdiipflpfaaLsH
import Derived.Test.YtfappdiipflpfaaBitsVar
import Derived.Deep.DeepCutAuto
import Derived.BigQuiet
import Derived.Deep.QuietTactic
import Derived.OpenShut
import Derived.Laws.AppendOwn
import Derived.WalkSpells
import Derived.WalkLawsBesides
import Derived.Maps.AppendAt
import Derived.Test.YtfappdiipflpfaaArClone
import Derived.Deep.Slices
import Derived.Deep.Strs
import Derived.ChangeSame
/- The walk of ListWrong. -/
namespace Go.Proofs.Ytfappdiipflpfaa.Bt
open Go Go.RowKit Go.Shelf
set_option linter.unusedVariables false

/-- what stands in the two lists -/
def Two (s : ASt) : Prop := LsK s 64 19 0 64 [4096, 5000] ∧ LsK s 64 19 1 72 []
theorem ints_len {w : World} {v : Value} {zs : List Int} (h : IntsAt w v zs) : ∃ p cap, v = .slice p zs.length cap ∧ IntsRow w p zs := h.row
theorem irow_below {w w' : World} {p : Option Addr} {zs : List Int} (h : IntsRow w p zs) (hb : Below w.heap.size w w') : IntsRow w' p zs := by
  rcases h with h | ⟨b, off, e, hlt, hc⟩
  · exact .inl h
  · exact .inr ⟨b, off, e, Nat.lt_of_lt_of_le hlt hb.size, fun k hk => (hb.cell (p := ⟨b, off + k, none⟩) hlt).trans (hc k hk)⟩
theorem two_row {w : World} {b : Nat} {x y : Int} (h : w.heap[b]? = some (.cells #[.int .i64 x, .int .i64 y] 3 (0, 0))) : IntsRow w (some ⟨b, 0, none⟩) [x, y] := by
  refine .inr ⟨b, 0, rfl, (Array.getElem?_eq_some_iff.1 h).1, fun k hk => ?_⟩
  rw [Nat.zero_add, (cell_blk h k).1]
  match k, hk with
  | 0, _ => rfl
  | 1, _ => rfl
theorem toL_two : toL (prs 64 8 [4096, 5000]) = [4096, 5000] := by decide
theorem toL_none : toL (prs 72 8 []) = [] := by decide

set_option maxHeartbeats 4000000 in
set_option maxRecDepth 100000 in
theorem wrong_bad (k at_ er : Int) (lp : List Lk) (hkk : k < 0 ∧ er = 3 ∨ 1 < k ∧ er = 3 ∨ k = 1 ∧ er = 8 ∨ k = 0 ∧ er = 8 ∧ ¬ at_ = 4096 ∧ ¬ at_ = 5000)
    (hlk : ∀ s, Two s → LkL s 64 19 k lp) (hrm : ∀ A s w, On A s w → Two s → Calls Try.prog 80 #[lsP (some ⟨A, 0, none⟩) 64 19, .int .i64 k, .int .i64 at_] w (Gives (.int .i64 er) w))
    (hhas : hasV lp at_ = false) (w : World) : Calls Try.prog 17 #[.int .i64 k, .int .i64 at_] w (TrueAt w) := by
  have N0 := Lib.hid (ls_new 19 0 (by omega) (by omega))
  have N1 := Lib.hid (ls_new 19 1 (by omega) (by omega))
  have TA : Hid (∀ m, thereE (twoS m).L (twoS m).es ((4096 : Nat) : Int) 16 = 0) := Lib.hid fun m => there_two (by omega) (by omega) (by omega)
  have TB : Hid (∀ m, thereE (twoS m).L (twoS m).es ((5000 : Nat) : Int) 16 = 0) := Lib.hid fun m => there_two (by omega) (by omega) (by omega)
  have HLK := Lib.hid hlk
  have HRM := Lib.hid hrm
  have HHS := Lib.hid hhas
  have HKK := Lib.hid hkk
  clear hlk hrm hhas hkk
  go_enter Try.func17, Try.ntmps17
  go_wp2_with fail
  refine (awake7 _).mono ?_
  rintro e w0 ⟨rfl, hb0⟩
  go_wp2_with fail
  refine (open7 2 (by omega) _).mono ?_
  rintro e w1 ⟨A, rfl, hx, hb⟩
  obtain ⟨R, hR⟩ : ∃ R, w1.heap.size = R := ⟨_, rfl⟩
  obtain ⟨w2, hw2⟩ : ∃ w2, w1.alloc (.cells #[.pointer (some ⟨A, 0, none⟩), .int .i64 64, .int .i64 19] 115) = w2 := ⟨_, rfl⟩
  have HV2 : Hid (LsV R A 19 (twoS fun _ => 0) w w2) := Lib.hid (by rw [← hw2, ← hR]; exact LsV.start hx (hb.rebase hb0))
  have HW2 := Lib.hid hw2
  clear hx hb hw2 hb0
  go_wp2_with fail
  rw [HW2.out]
  clear HW2 hR
  refine (ladd_ls HV2.out.o 64 19 (by omega) (by omega) 0 64 4096 [] N0.out (by omega) (by simp) (TA.out _) (apart1 _) (fun c hc => by rw [List.mem_singleton.1 hc]; omega)).mono ?_
  rintro e w3 ⟨m3, rfl, ho, hg, hl, hoth⟩
  have HV3 := Lib.hid (HV2.out.went ho hg)
  have HL3 : Hid (LsK (twoS m3) 64 19 0 64 [4096]) := Lib.hid hl
  have HM3 : Hid (LsK (twoS m3) 64 19 1 72 []) := Lib.hid (hoth 1 72 [] N1.out (fun c hc => by rw [List.mem_singleton.1 hc]; exact ⟨by omega, fun d hd => by rw [List.mem_singleton.1 hd]; omega⟩))
  obtain ⟨c0, c1, c2⟩ := HV3.out.all
  clear ho hg hl HV2 N0 hoth
  go_wp2_with fail
  refine (ladd_ls HV3.out.o 64 19 (by omega) (by omega) 0 64 5000 [4096] HL3.out (by omega) (by simp) (TB.out _) (apart2 (by omega)) (fun c hc => by simp at hc; omega)).mono ?_
  rintro e w4 ⟨m4, rfl, ho, hg, hl, hoth⟩
  have HV4 := Lib.hid (HV3.out.went ho hg)
  have HT4 : Hid (Two (twoS m4)) := Lib.hid ⟨hl, hoth 1 72 [] HM3.out (fun c hc => by rw [List.mem_singleton.1 hc]; exact ⟨by omega, fun d hd => by simp at hd; omega⟩)⟩
  clear c0 c1 c2
  obtain ⟨c0, c1, c2⟩ := HV4.out.all
  clear ho hg hl HV3 HL3 HM3 hoth
  obtain ⟨bt, hbt⟩ : ∃ bt : Bool, decide (at_ = 4096 ∨ at_ = 5000) = bt := ⟨_, rfl⟩
  have HBT := Lib.hid hbt
  clear hbt c0 c1 c2
  go_upto_region 6 with fail
  go_cut [8] (fun s8 wx => s8 = .bool bt ∧ w4 = wx)
  case first =>
    as_aux_lemma =>
    by_cases h4 : at_ = 4096
    · have hbt : bt = true := by rw [← HBT.out]; simp [h4]
      subst h4 hbt
      go_wp2_with fail
      go_meet
      exact ⟨rfl, rfl⟩
    · have d4 : (at_ == 4096) = false := by simpa using h4
      by_cases h5 : at_ = 5000
      · have hbt : bt = true := by rw [← HBT.out]; simp [h5]
        subst h5 hbt
        clear h4
        go_wp2_with fail
        go_meet
        exact ⟨rfl, rfl⟩
      · have hbt : bt = false := by rw [← HBT.out]; simp [h4, h5]
        have d5 : (at_ == 5000) = false := by simpa using h5
        subst hbt
        clear h4 h5
        go_wp2_with fail
        go_meet
        exact ⟨rfl, rfl⟩
  case rest =>
  obtain ⟨rfl, rfl⟩ := hcut
  have HK0 : Hid (bt = true → (k == 0) = false ∧ (k != 0) = true) := Lib.hid fun h => by
    rw [← HBT.out] at h
    have h1 : at_ = 4096 ∨ at_ = 5000 := by simpa using h
    have h2 : k ≠ 0 := by rcases HKK.out with ⟨hk, _⟩ | ⟨hk, _⟩ | ⟨hk, _⟩ | ⟨hk, _, h4, h5⟩ <;> omega
    exact ⟨by simpa using h2, by simpa using h2⟩
  clear HBT
  go_upto_region 7 with fail
  go_cut [45] (fun s45 wx => s45 = .bool false ∧ LsV R A 19 (twoS m4) w wx)
  case first =>
    as_aux_lemma =>
    obtain ⟨c0, c1, c2⟩ := HV4.out.all
    go_wp2_with fail
    refine (lhas HV4.out.o 64 19 (by omega) (by omega) _ _ lp (HLK.out _ HT4.out)).mono ?_
    rintro e w5 ⟨rfl, hb⟩
    rw [HHS.out]
    have HV5 := Lib.hid (HV4.out.below hb)
    clear c0 c1 c2 hb
    cases bt with
    | false =>
      go_wp2_with fail
      go_meet
      exact ⟨rfl, HV5.out⟩
    | true =>
      have hk0 := (HK0.out rfl).1
      go_wp2_with fail
      go_meet
      exact ⟨rfl, HV5.out⟩
  case rest =>
  rename_i w5
  obtain ⟨rfl, hv5⟩ := hcut
  have HV5 := Lib.hid hv5
  obtain ⟨c0, c1, c2⟩ := hv5.all
  clear hv5
  go_wp2_with fail
  refine (HRM.out _ _ _ HV5.out.o HT4.out).mono ?_
  rintro e w6 ⟨rfl, hb⟩
  have HV6 := Lib.hid (HV5.out.below hb)
  clear c0 c1 c2 hb
  go_upto_region 10 with fail
  go_cut [55] (fun s55 wx => s55 = .bool true ∧ w6 = wx)
  case first =>
    as_aux_lemma =>
    cases bt with
    | false =>
      go_wp2_with fail
      go_meet
      exact ⟨rfl, rfl⟩
    | true =>
      have hk0 := (HK0.out rfl).2
      go_wp2_with fail
      go_meet
      exact ⟨rfl, rfl⟩
  case rest =>
  obtain ⟨rfl, rfl⟩ := hcut
  have hkx : k < 0 ∧ er = 3 ∨ 1 < k ∧ er = 3 ∨ (¬ k < 0 ∧ ¬ 1 < k) ∧ er = 8 := by
    rcases HKK.out with ⟨hk, h⟩ | ⟨hk, h⟩ | ⟨hk, h⟩ | ⟨hk, h, _⟩
    · exact .inl ⟨hk, h⟩
    · exact .inr (.inl ⟨hk, h⟩)
    · exact .inr (.inr ⟨by omega, h⟩)
    · exact .inr (.inr ⟨by omega, h⟩)
  clear HK0 HKK HRM HLK HHS HV5 HV4
  obtain ⟨c0, c1, c2⟩ := HV6.out.all
  rcases hkx with ⟨hk, rfl⟩ | ⟨hk, rfl⟩ | ⟨⟨hk, hk2⟩, rfl⟩
  rotate_left
  · have hk2 : ¬ k < 0 := by omega
    go_wp2_with fail
    refine (lall HV6.out.o 64 19 (by omega) (by omega) 0 _ HT4.out.1.lk (by simp [prs])).mono ?_
    rintro e w7 ⟨v, rfl, hi, hb⟩
    rw [toL_two] at hi
    obtain ⟨p, cap, rfl, hrow⟩ := ints_len hi
    have HV7 := Lib.hid (HV6.out.below hb)
    have HRW := Lib.hid hrow
    have bN := bel1 w7 (.cells #[.int .i64 4096, .int .i64 5000] 3)
    have hn := heap_new w7 (.cells #[.int .i64 4096, .int .i64 5000] 3)
    have HEQ := Lib.hid (equal_any p (some ⟨w7.heap.size, 0, none⟩) cap 2 2 2 [4096, 5000] [4096, 5000] rfl rfl (by omega) (w7.alloc (.cells #[.int .i64 4096, .int .i64 5000] 3)) (irow_below hrow bN) (two_row hn))
    have HV8 := Lib.hid (HV7.out.below bN)
    clear c0 c1 c2 hb hi hrow bN hn
    go_wp2_with fail
    refine HEQ.out.mono ?_
    rintro e w8 ⟨rfl, nd, hw8⟩
    have HV9 := Lib.hid (show LsV R A 19 (twoS m4) w w8 by rw [hw8]; exact HV8.out.below (below_drewN (Below.refl _ _) nd))
    obtain ⟨c0, c1, c2⟩ := HV9.out.all
    clear hw8
    go_wp2_with fail
    refine (lall HV9.out.o 64 19 (by omega) (by omega) 1 _ HT4.out.2.lk (by simp [prs])).mono ?_
    rintro e w10 ⟨v, rfl, hi, hb⟩
    rw [toL_none] at hi
    obtain ⟨p2, cap2, rfl, _⟩ := ints_len hi
    have HV10 := Lib.hid (HV9.out.below hb)
    clear c0 c1 c2 hb hi
    go_wp2_with fail
    go_ret
    exact ⟨rfl, HV10.out.b.bel⟩
  · go_wp2_with fail
    refine (lall HV6.out.o 64 19 (by omega) (by omega) 0 _ HT4.out.1.lk (by simp [prs])).mono ?_
    rintro e w7 ⟨v, rfl, hi, hb⟩
    rw [toL_two] at hi
    obtain ⟨p, cap, rfl, hrow⟩ := ints_len hi
    have HV7 := Lib.hid (HV6.out.below hb)
    have HRW := Lib.hid hrow
    have bN := bel1 w7 (.cells #[.int .i64 4096, .int .i64 5000] 3)
    have hn := heap_new w7 (.cells #[.int .i64 4096, .int .i64 5000] 3)
    have HEQ := Lib.hid (equal_any p (some ⟨w7.heap.size, 0, none⟩) cap 2 2 2 [4096, 5000] [4096, 5000] rfl rfl (by omega) (w7.alloc (.cells #[.int .i64 4096, .int .i64 5000] 3)) (irow_below hrow bN) (two_row hn))
    have HV8 := Lib.hid (HV7.out.below bN)
    clear c0 c1 c2 hb hi hrow bN hn
    go_wp2_with fail
    refine HEQ.out.mono ?_
    rintro e w8 ⟨rfl, nd, hw8⟩
    have HV9 := Lib.hid (show LsV R A 19 (twoS m4) w w8 by rw [hw8]; exact HV8.out.below (below_drewN (Below.refl _ _) nd))
    obtain ⟨c0, c1, c2⟩ := HV9.out.all
    clear hw8
    go_wp2_with fail
    refine (lall HV9.out.o 64 19 (by omega) (by omega) 1 _ HT4.out.2.lk (by simp [prs])).mono ?_
    rintro e w10 ⟨v, rfl, hi, hb⟩
    rw [toL_none] at hi
    obtain ⟨p2, cap2, rfl, _⟩ := ints_len hi
    have HV10 := Lib.hid (HV9.out.below hb)
    clear c0 c1 c2 hb hi
    go_wp2_with fail
    go_ret
    exact ⟨rfl, HV10.out.b.bel⟩
  · go_wp2_with fail
    refine (lall HV6.out.o 64 19 (by omega) (by omega) 0 _ HT4.out.1.lk (by simp [prs])).mono ?_
    rintro e w7 ⟨v, rfl, hi, hb⟩
    rw [toL_two] at hi
    obtain ⟨p, cap, rfl, hrow⟩ := ints_len hi
    have HV7 := Lib.hid (HV6.out.below hb)
    have HRW := Lib.hid hrow
    have bN := bel1 w7 (.cells #[.int .i64 4096, .int .i64 5000] 3)
    have hn := heap_new w7 (.cells #[.int .i64 4096, .int .i64 5000] 3)
    have HEQ := Lib.hid (equal_any p (some ⟨w7.heap.size, 0, none⟩) cap 2 2 2 [4096, 5000] [4096, 5000] rfl rfl (by omega) (w7.alloc (.cells #[.int .i64 4096, .int .i64 5000] 3)) (irow_below hrow bN) (two_row hn))
    have HV8 := Lib.hid (HV7.out.below bN)
    clear c0 c1 c2 hb hi hrow bN hn
    go_wp2_with fail
    refine HEQ.out.mono ?_
    rintro e w8 ⟨rfl, nd, hw8⟩
    have HV9 := Lib.hid (show LsV R A 19 (twoS m4) w w8 by rw [hw8]; exact HV8.out.below (below_drewN (Below.refl _ _) nd))
    obtain ⟨c0, c1, c2⟩ := HV9.out.all
    clear hw8
    go_wp2_with fail
    refine (lall HV9.out.o 64 19 (by omega) (by omega) 1 _ HT4.out.2.lk (by simp [prs])).mono ?_
    rintro e w10 ⟨v, rfl, hi, hb⟩
    rw [toL_none] at hi
    obtain ⟨p2, cap2, rfl, _⟩ := ints_len hi
    have HV10 := Lib.hid (HV9.out.below hb)
    clear c0 c1 c2 hb hi
    go_wp2_with fail
    go_ret
    exact ⟨rfl, HV10.out.b.bel⟩
set_option maxHeartbeats 4000000 in
set_option maxRecDepth 100000 in
theorem wrong_good (x y : Nat) (hxy : x = 4096 ∧ y = 5000 ∨ x = 5000 ∧ y = 4096) (w : World) : Calls Try.prog 17 #[.int .i64 0, .int .i64 (x : Int)] w (TrueAt w) := by
  have N0 := Lib.hid (ls_new 19 0 (by omega) (by omega))
  have N1 := Lib.hid (ls_new 19 1 (by omega) (by omega))
  have TA : Hid (∀ m, thereE (twoS m).L (twoS m).es ((4096 : Nat) : Int) 16 = 0) := Lib.hid fun m => there_two (by omega) (by omega) (by omega)
  have TB : Hid (∀ m, thereE (twoS m).L (twoS m).es ((5000 : Nat) : Int) 16 = 0) := Lib.hid fun m => there_two (by omega) (by omega) (by omega)
  have HXY := Lib.hid hxy
  clear hxy
  go_enter Try.func17, Try.ntmps17
  go_wp2_with fail
  refine (awake7 _).mono ?_
  rintro e w0 ⟨rfl, hb0⟩
  go_wp2_with fail
  refine (open7 2 (by omega) _).mono ?_
  rintro e w1 ⟨A, rfl, hx, hb⟩
  obtain ⟨R, hR⟩ : ∃ R, w1.heap.size = R := ⟨_, rfl⟩
  obtain ⟨w2, hw2⟩ : ∃ w2, w1.alloc (.cells #[.pointer (some ⟨A, 0, none⟩), .int .i64 64, .int .i64 19] 115) = w2 := ⟨_, rfl⟩
  have HV2 : Hid (LsV R A 19 (twoS fun _ => 0) w w2) := Lib.hid (by rw [← hw2, ← hR]; exact LsV.start hx (hb.rebase hb0))
  have HW2 := Lib.hid hw2
  clear hx hb hw2 hb0
  go_wp2_with fail
  rw [HW2.out]
  clear HW2 hR
  refine (ladd_ls HV2.out.o 64 19 (by omega) (by omega) 0 64 4096 [] N0.out (by omega) (by simp) (TA.out _) (apart1 _) (fun c hc => by rw [List.mem_singleton.1 hc]; omega)).mono ?_
  rintro e w3 ⟨m3, rfl, ho, hg, hl, hoth⟩
  have HV3 := Lib.hid (HV2.out.went ho hg)
  have HL3 : Hid (LsK (twoS m3) 64 19 0 64 [4096]) := Lib.hid hl
  have HM3 : Hid (LsK (twoS m3) 64 19 1 72 []) := Lib.hid (hoth 1 72 [] N1.out (fun c hc => by rw [List.mem_singleton.1 hc]; exact ⟨by omega, fun d hd => by rw [List.mem_singleton.1 hd]; omega⟩))
  obtain ⟨c0, c1, c2⟩ := HV3.out.all
  clear ho hg hl HV2 N0 hoth
  go_wp2_with fail
  refine (ladd_ls HV3.out.o 64 19 (by omega) (by omega) 0 64 5000 [4096] HL3.out (by omega) (by simp) (TB.out _) (apart2 (by omega)) (fun c hc => by simp at hc; omega)).mono ?_
  rintro e w4 ⟨m4, rfl, ho, hg, hl, hoth⟩
  have HV4 := Lib.hid (HV3.out.went ho hg)
  have HT4 : Hid (Two (twoS m4)) := Lib.hid ⟨hl, hoth 1 72 [] HM3.out (fun c hc => by rw [List.mem_singleton.1 hc]; exact ⟨by omega, fun d hd => by simp at hd; omega⟩)⟩
  clear c0 c1 c2
  obtain ⟨c0, c1, c2⟩ := HV4.out.all
  clear ho hg hl HV3 HL3 HM3 hoth
  have HHS : Hid (hasV (prs 64 8 [4096, 5000]) x = true) := Lib.hid (by rcases HXY.out with ⟨rfl, rfl⟩ | ⟨rfl, rfl⟩ <;> decide)
  have HER : Hid (([4096, 5000] : List Nat).erase x = [y]) := Lib.hid (by rcases HXY.out with ⟨rfl, rfl⟩ | ⟨rfl, rfl⟩ <;> decide)
  have HMM : Hid (0 < x ∧ x ∈ ([4096, 5000] : List Nat)) := Lib.hid (by rcases HXY.out with ⟨rfl, rfl⟩ | ⟨rfl, rfl⟩ <;> decide)
  have HAP : Hid (Apart [64, 4096, 5000]) := Lib.hid (List.pairwise_cons.2 ⟨fun c hc => by simp at hc; omega, apart2 (by omega)⟩)
  have HT8 : Hid (∀ m, thereE (twoS m).L (twoS m).es 8177 16 = 3) := Lib.hid fun m => there_two_no (by omega)
  clear c0 c1 c2
  go_upto_region 6 with fail
  go_cut [8] (fun s8 wx => s8 = .bool true ∧ w4 = wx)
  case first =>
    as_aux_lemma =>
    rcases HXY.out with ⟨rfl, rfl⟩ | ⟨rfl, rfl⟩
    · go_wp2_with fail
      go_meet
      exact ⟨rfl, rfl⟩
    · go_wp2_with fail
      go_meet
      exact ⟨rfl, rfl⟩
  case rest =>
  obtain ⟨rfl, rfl⟩ := hcut
  clear HXY
  obtain ⟨c0, c1, c2⟩ := HV4.out.all
  go_wp2_with fail
  refine (lhas HV4.out.o 64 19 (by omega) (by omega) _ _ _ HT4.out.1.lk).mono ?_
  rintro e w5 ⟨rfl, hb⟩
  rw [HHS.out]
  have HV5 := Lib.hid (HV4.out.below hb)
  clear c0 c1 c2 hb
  obtain ⟨c0, c1, c2⟩ := HV5.out.all
  go_wp2_with fail
  refine (lrem_ls HV5.out.o 64 19 (by omega) (by omega) 0 64 x _ HT4.out.1 HMM.out.1 HMM.out.2 HAP.out).mono ?_
  rintro e w6 ⟨m6, rfl, ho, hg, hl, _⟩
  rw [HER.out] at hl
  have HV6 := Lib.hid (HV5.out.went ho hg)
  have HL6 : Hid (LsK (twoS m6) 64 19 0 64 [y]) := Lib.hid hl
  clear c0 c1 c2 ho hg hl HT4 HMM HER HHS HAP
  obtain ⟨c0, c1, c2⟩ := HV6.out.all
  go_wp2_with fail
  refine (lall HV6.out.o 64 19 (by omega) (by omega) 0 _ HL6.out.lk (by simp [prs])).mono ?_
  rintro e w7 ⟨v, rfl, hi, hb⟩
  rw [toL_prs 64 8 [y] HL6.out.ch.gt] at hi
  obtain ⟨p, cap, rfl, _⟩ := ints_len hi
  have HV7 := Lib.hid (HV6.out.below hb)
  clear c0 c1 c2 hb hi
  obtain ⟨c0, c1, c2⟩ := HV7.out.all
  go_wp2_with fail
  refine (ladd_arg HV7.out.o 64 19 (by omega) (by omega) 0 0 64 _ HL6.out (by omega)).mono ?_
  rintro e w8 ⟨rfl, hb⟩
  have HV8 := Lib.hid (HV7.out.below hb)
  clear c0 c1 c2 hb
  obtain ⟨c0, c1, c2⟩ := HV8.out.all
  go_wp2_with fail
  refine (ladd_arg HV8.out.o 64 19 (by omega) (by omega) 0 (-1) 64 _ HL6.out (by omega)).mono ?_
  rintro e w9 ⟨rfl, hb⟩
  have HV9 := Lib.hid (HV8.out.below hb)
  clear c0 c1 c2 hb
  obtain ⟨c0, c1, c2⟩ := HV9.out.all
  go_wp2_with fail
  refine (ladd_no HV9.out.o 64 19 (by omega) (by omega) 0 8177 64 _ HL6.out (by omega) (by omega) (HT8.out _)).mono ?_
  rintro e w10 ⟨rfl, hb⟩
  have HV10 := Lib.hid (HV9.out.below hb)
  clear c0 c1 c2 hb
  obtain ⟨c0, c1, c2⟩ := HV10.out.all
  go_wp2_with fail
  refine (ladd_out HV10.out.o 64 19 (by omega) (by omega) 2 0 (by omega)).mono ?_
  rintro e w11 ⟨rfl, hb⟩
  have HV11 := Lib.hid (HV10.out.below hb)
  clear c0 c1 c2 hb
  go_wp2_with fail
  go_ret
  exact ⟨rfl, HV11.out.b.bel⟩
theorem hasV_zero {lp : List Lk} {f : Int} (h : atV lp f = 0) : hasV lp f = false := by
  unfold hasV; rw [h, decide_eq_false]; rintro ⟨h1, h2⟩; omega
theorem wrong_all (k at_ : Int) (w : World) : Calls Try.prog 17 #[.int .i64 k, .int .i64 at_] w (TrueAt w) := by
  by_cases hk : k < 0 ∨ 1 < k
  · refine wrong_bad k at_ 3 [] (by omega) (fun s hs => .inl ⟨by omega, rfl⟩) (fun A s w ho hs => lrem_out ho 64 19 (by omega) (by omega) k at_ (by omega)) ?_ w
    exact hasV_zero rfl
  · by_cases h1 : k = 1
    · subst h1
      refine wrong_bad 1 at_ 8 (prs 72 8 []) (by omega) (fun s hs => hs.2.lk) (fun A s w ho hs => lrem_none ho 64 19 (by omega) (by omega) 1 at_ 72 [] hs.2 (by simp)) ?_ w
      exact hasV_zero (by simp [atV, prs, isF])
    · obtain rfl : k = 0 := by omega
      by_cases h4 : at_ = 4096
      · subst h4; exact wrong_good 4096 5000 (.inl ⟨rfl, rfl⟩) w
      · by_cases h5 : at_ = 5000
        · subst h5; exact wrong_good 5000 4096 (.inr ⟨rfl, rfl⟩) w
        · refine wrong_bad 0 at_ 8 (prs 64 8 [4096, 5000]) (.inr (.inr (.inr ⟨rfl, rfl, h4, h5⟩))) (fun s hs => hs.1.lk) (fun A s w ho hs => lrem_none ho 64 19 (by omega) (by omega) 0 at_ 64 _ hs.1 (fun x hx => by subst hx; simp; omega)) ?_ w
          by_cases h0 : 0 < at_
          · obtain ⟨x, rfl⟩ : ∃ x : Nat, at_ = x := ⟨at_.toNat, by omega⟩
            have hm : x ∉ ([4096, 5000] : List Nat) := by simp; omega
            have h3 : ∀ z, (fnd 64 8 [4096, 5000] (x : Int)).2.2 = z → z = x → False := fun z e e2 => by
              unfold fnd at e
              split at e
              · simp at e; omega
              · unfold fnd at e
                split at e
                · simp at e; omega
                · simp [fnd] at e; omega
            unfold hasV
            rw [show atV (prs 64 8 [4096, 5000]) (x : Int) = ((fnd 64 8 [4096, 5000] (x : Int)).2.2 : Int) from by
              unfold atV; rw [find_prs 64 8 [4096, 5000] x (by simp)]]
            rw [decide_eq_false]
            rintro ⟨_, e⟩
            exact h3 _ rfl (by omega)
          · unfold hasV; rw [decide_eq_false]; rintro ⟨h, _⟩; exact h0 h
end Go.Proofs.Ytfappdiipflpfaa.Bt
/- slices.IsSorted of integers. -/
namespace Go.Proofs.Ytfappdiipflpfaa.Bt
open Go Go.RowKit Go.Shelf
set_option linter.unusedVariables false

set_option maxHeartbeats 1000000 in
theorem sorted_any (p : Option Addr) (n cap : Nat) (zs : List Int) (hn : n = zs.length) (hl : n ≤ 1000000) (w : World) (hrow : IntsRow w p zs) (hs : ∀ j, j + 1 < zs.length → zs.getD j 0 ≤ zs.getD (j + 1) 0) :
    Calls Try.prog 89 #[.slice p n cap] w (Gives (.bool true) w) := by
  have q1 : IntKind.i64.wrap ((n : Int) - 1) = (n : Int) - 1 := IntWalk.i64_in _ (by omega)
  have HN := Lib.hid hn
  have HS := Lib.hid hs
  have HR := Lib.hid hrow
  clear hn hs hrow
  go_enter Try.func89, Try.ntmps89
  go_wp2_with fail
  clear q1
  go_loopw [3] (fun i wr => ∃ v : Int, i = .int .i64 v ∧ -1 ≤ v ∧ v ≤ (n : Int) - 1 ∧ Below w.heap.size w wr) (fun i _ => (intOf i).toNat)
  case atStart => exact ⟨(n : Int) - 1, rfl, by omega, by omega, Below.refl _ _⟩
  case round =>
    obtain ⟨v, rfl, h1, h2, hb⟩ := hrel
    by_cases h0 : 0 < v
    · obtain ⟨j, hj⟩ : ∃ j : Nat, v = (j : Int) + 1 := ⟨(v - 1).toNat, by omega⟩
      have hjn : j + 1 < zs.length := by have := HN.out; omega
      rcases HR.out with he | ⟨b, off, rfl, hlt, hc⟩
      · rw [he] at hjn; simp at hjn
      have c1 := (hb.cell (p := ⟨b, off + (j + 1), none⟩) hlt).trans (hc (j + 1) hjn)
      have c0 := (hb.cell (p := ⟨b, off + j, none⟩) hlt).trans (hc j (by omega))
      have hle := HS.out j hjn
      obtain ⟨x, hx⟩ : ∃ x, zs.getD j 0 = x := ⟨_, rfl⟩
      obtain ⟨y, hy⟩ : ∃ y, zs.getD (j + 1) 0 = y := ⟨_, rfl⟩
      rw [hx] at c0 hle; rw [hy] at c1 hle
      have dl : decide (y < x) = false := by simpa using hle
      have HB := Lib.hid hb
      have i1 : IntKind.i64.wrap (v - 1) = (j : Int) := by rw [IntWalk.i64_in _ (by omega)]; omega
      have i2 : 0 ≤ v := by omega
      have i3 : v < (n : Int) := by omega
      have i4 : 0 ≤ (j : Int) := by omega
      have i5 : (j : Int) < (n : Int) := by omega
      have i6 : v.toNat = j + 1 := by omega
      have HJ := Lib.hid hj
      clear hx hy hc hb hj dl
      go_wp2_with fail
      go_quiet ((go_at_call 140; exact Calls.quiet_of_same ((less_any _ _ _).mono fun _ _ h => ⟨h.1, h.2.symm⟩)))
      go_wp2_with fail
      go_roundw
      case rel => exact ⟨(j : Int), rfl, by omega, by have := HJ.out; omega, below_drewN HB.out _⟩
      case measure => have := HJ.out; simp [intOf]; omega
    · go_wp2_with fail
      go_ret
      exact ⟨rfl, hb⟩
end Go.Proofs.Ytfappdiipflpfaa.Bt
/- The walk of ListOrder. -/
namespace Go.Proofs.Ytfappdiipflpfaa.Bt
open Go Go.RowKit Go.Shelf Go.ChangeShapes Go.WideShapes
set_option linter.unusedVariables false

/-- the member of a number -/
def pl (y : Nat) : Nat := 4096 + 16 * (y % 256)
def Mem (z : Nat → Nat) (n : Nat) (ms : List Nat) : Prop := ∀ c ∈ ms, ∃ j, j < n ∧ c = pl (z j)
theorem pl_b (y : Nat) : 4096 ≤ pl y ∧ pl y % 16 = 0 ∧ pl y + 16 ≤ 8192 := by unfold pl; omega
theorem Mem.mul {z : Nat → Nat} {n : Nat} {ms : List Nat} (h : Mem z n ms) : ∀ c ∈ ms, 4096 ≤ c ∧ c % 16 = 0 := fun c hc => by
  obtain ⟨j, _, rfl⟩ := h c hc; have := pl_b (z j); omega
theorem mul_apart {ms : List Nat} (hs : ms.Pairwise (· < ·)) (hm : ∀ c ∈ ms, 4096 ≤ c ∧ c % 16 = 0) : Apart (64 :: ms) := by
  refine List.pairwise_cons.2 ⟨fun c hc => by have := hm c hc; omega, ?_⟩
  induction ms with
  | nil => exact .nil
  | cons a t ih =>
    have h := List.pairwise_cons.1 hs
    refine List.pairwise_cons.2 ⟨fun c hc => ?_, ih h.2 fun c hc => hm c (List.mem_cons_of_mem _ hc)⟩
    have h1 := h.1 c hc
    have h2 := hm a (by simp)
    have h3 := hm c (List.mem_cons_of_mem _ hc)
    omega
theorem mul_off {ms : List Nat} (hm : ∀ c ∈ ms, 4096 ≤ c ∧ c % 16 = 0) {x : Nat} (h1 : 4096 ≤ x) (h2 : x % 16 = 0) (hx : x ∉ ms) : ∀ c ∈ 64 :: ms, x + 8 ≤ c ∨ c + 8 ≤ x := fun c hc => by
  rcases List.mem_cons.1 hc with rfl | hc
  · omega
  · have h3 := hm c hc
    have h4 : c ≠ x := fun e => hx (e ▸ hc)
    omega
theorem Mem.ins {z : Nat → Nat} {n i : Nat} {ms : List Nat} (h : Mem z n ms) (hi : i < n) : Mem z n (ins (pl (z i)) ms) := fun c hc => by
  rcases (ins_mem _ c ms).1 hc with rfl | hc
  · exact ⟨i, hi, rfl⟩
  · exact h c hc
theorem Mem.less {z : Nat → Nat} {n : Nat} {ms ns : List Nat} (h : Mem z (n + 1) ms) (hn : ∀ c ∈ ns, c ∈ ms ∧ c ≠ pl (z n)) : Mem z n ns := fun c hc => by
  obtain ⟨h1, h2⟩ := hn c hc
  obtain ⟨j, hj, rfl⟩ := h c h1
  exact ⟨j, by have : j ≠ n := fun e => h2 (by rw [e]); omega, rfl⟩
theorem sorted_gets {ms : List Nat} (h : ms.Pairwise (· < ·)) : ∀ j, j + 1 < (ms.map fun m : Nat => (m : Int)).length → (ms.map fun m : Nat => (m : Int)).getD j 0 ≤ (ms.map fun m : Nat => (m : Int)).getD (j + 1) 0 := fun j hj => by
  rw [List.length_map] at hj
  have h1 := List.pairwise_iff_getElem.1 h j (j + 1) (by omega) hj (by omega)
  simp only [List.getD_eq_getElem?_getD, List.getElem?_map]
  rw [List.getElem?_eq_getElem (show j < ms.length by omega), List.getElem?_eq_getElem hj]
  simp; omega
/-- numbers that came in -/
def AtsRow (w : World) (p : Option Addr) (len : Nat) (z : Nat → Nat) : Prop := len = 0 ∨ ∃ b off, p = some ⟨b, off, none⟩ ∧ b < w.heap.size ∧ ∀ k, k < len → w.cell? ⟨b, off + k, none⟩ = some (.int .u16 (z k : Int)) ∧ z k < 65536
/-- the statement's variable lies there -/
def VarR (R A : Nat) (x : World) : Prop := x.heap[R]? = some (.cells #[.pointer (some ⟨A, 0, none⟩), .int .i64 64, .int .i64 11] 115 (0, 0))
theorem VarR.all {R A : Nat} {x : World} (h : VarR R A x) : x.cell? ⟨R, 0, none⟩ = some (.pointer (some ⟨A, 0, none⟩)) ∧ x.cell? ⟨R, 1, none⟩ = some (.int .i64 64) ∧ x.cell? ⟨R, 2, none⟩ = some (.int .i64 11) ∧ VarR R A x :=
  ⟨(cell_blk h 0).1, (cell_blk h 1).1, (cell_blk h 2).1, h⟩
theorem VarR.below {R A : Nat} {x y : World} (h : VarR R A x) (hb : Below x.heap.size x y) : VarR R A y := blk_on (A := A) hb h
theorem VarR.went {R A : Nat} {s : ASt} {x y : World} (h : VarR R A x) (ho : On A s x) (hg : Went A x y) : VarR R A y := hg.keep ho h (by decide) (by decide) (by decide)
/-- between two rounds of the first loop -/
def OrdA (R A : Nat) (z : Nat → Nat) (len : Nat) (w : World) (s6 s26 : Value) (wr : World) : Prop :=
  ∃ (i : Nat) (m : Nat → UInt8) (ms : List Nat), i ≤ len ∧ s26 = .int .i64 (i : Int) ∧ s6 = .int .i64 (ms.length : Int) ∧ ms.length ≤ i ∧ LsV R A 11 (twoS m) w wr ∧ LsK (twoS m) 64 11 0 64 ms ∧ Mem z len ms
def OrdB (R A : Nat) (z : Nat → Nat) (len : Nat) (w : World) (s58 : Value) (wr : World) : Prop :=
  ∃ (i : Nat) (m : Nat → UInt8) (ms : List Nat), i ≤ len ∧ s58 = .int .i64 (i : Int) ∧ LsV R A 11 (twoS m) w wr ∧ LsK (twoS m) 64 11 0 64 ms ∧ Mem z (len - i) ms

set_option maxHeartbeats 8000000 in
set_option maxRecDepth 100000 in
theorem order_all (p : Option Addr) (len cap : Nat) (z : Nat → Nat) (hlen : len ≤ 9223372036854775807) (w : World) (hrow : AtsRow w p len z) : Calls Try.prog 18 #[.slice p len cap] w (TrueAt w) := by
  have HR := Lib.hid hrow
  have N0 := Lib.hid (ls_new 11 0 (by omega) (by omega))
  have HT : Hid (∀ m y, thereE (twoS m).L (twoS m).es ((pl y : Nat) : Int) 16 = 0) := Lib.hid fun m y => there_two (by omega) (by omega) (by have := pl_b y; omega)
  clear hrow
  go_enter Try.func18, Try.ntmps18
  go_wp2_with fail
  refine (awake7 _).mono ?_
  rintro e w0 ⟨rfl, hb0⟩
  by_cases hl80 : 80 < len
  · have h80 : 80 < (len : Int) := by omega
    have HB0 := Lib.hid hb0
    clear hb0
    go_wp2_with fail
    go_ret
    exact ⟨rfl, HB0.out⟩
  have h80 : (len : Int) ≤ 80 := by omega
  have hlen80 : len ≤ 80 := by omega
  go_wp2_with fail
  refine (open7 1 (by omega) _).mono ?_
  rintro e w1 ⟨A, rfl, hx, hb⟩
  obtain ⟨R, hRR⟩ : ∃ R, w1.heap.size = R := ⟨_, rfl⟩
  obtain ⟨w2, hw2⟩ : ∃ w2, w1.alloc (.cells #[.pointer (some ⟨A, 0, none⟩), .int .i64 64, .int .i64 11] 115) = w2 := ⟨_, rfl⟩
  have HV2 : Hid (LsV R A 11 (twoS fun _ => 0) w w2) := Lib.hid (by rw [← hw2, ← hRR]; exact LsV.start hx (hb.rebase hb0))
  have HW2 := Lib.hid hw2
  clear hx hb hw2 hb0 hl80 hlen
  go_wp2_with fail
  rw [HW2.out]
  clear HW2 hRR
  have HST : Hid (OrdA R A z len w (.int .i64 0) (.int .i64 0) w2) := Lib.hid ⟨0, _, [], Nat.zero_le _, rfl, rfl, Nat.le_refl _, HV2.out, N0.out, fun c hc => by cases hc⟩
  clear HV2 N0
  go_loopw [6, 26] (fun s6 s26 wr => OrdA R A z len w s6 s26 wr) (fun _ s26 _ => len - (intOf s26).toNat)
  case atStart => exact HST.out
  case round =>
    obtain ⟨i, m, ms, hi, rfl, rfl, hmi, hv, hl, hmem⟩ := hrel
    have HV := Lib.hid hv
    have HL := Lib.hid hl
    have HM := Lib.hid hmem
    by_cases hlt : i < len
    · rcases HR.out with he | ⟨b, off, rfl, hbl, hc⟩
      · omega
      obtain ⟨hc1, hz1⟩ := hc i hlt
      have c3 := (hv.b.bel.cell (p := ⟨b, off + i, none⟩) hbl).trans hc1
      obtain ⟨c0, c1, c2⟩ := hv.all
      obtain ⟨r, hr⟩ : ∃ r, z i % 256 = r := ⟨_, rfl⟩
      obtain ⟨x, hx⟩ : ∃ x, pl (z i) = x := ⟨_, rfl⟩
      have hrx : x = 4096 + 16 * r := by rw [← hx, ← hr]; rfl
      have q0 : ((z i : Nat) : Int) % 256 = (r : Int) := by omega
      have q1 : ((z i : Nat) : Int).tmod 256 = (r : Int) := by rw [Int.tmod_eq_emod_of_nonneg (by omega)]; exact q0
      have q2 : r < 256 := by omega
      have q3 : 4096 + 16 * (r : Int) = (x : Int) := by omega
      have HX := Lib.hid hx
      have HTX : Hid (∀ m, thereE (twoS m).L (twoS m).es (x : Int) 16 = 0) := Lib.hid fun m => by rw [← hx]; exact HT.out m _
      have HXB : Hid (4096 ≤ x ∧ x % 16 = 0) := Lib.hid (by have := pl_b (z i); rw [hx] at this; omega)
      have HMUL := Lib.hid hmem.mul
      have HAP := Lib.hid (mul_apart hl.ch.sorted hmem.mul)
      obtain ⟨zi, hzi⟩ : ∃ zi, z i = zi := ⟨_, rfl⟩
      have HZ := Lib.hid hzi
      rw [hzi] at c3 q0 q1
      clear hv hl hmem hc hc1 hz1 hr hx hrx hzi
      go_wp2_with fail
      have HQ := Lib.hid q3
      clear c3 q0 q1 q2 q3
      by_cases hin : x ∈ ms
      · have HIN := Lib.hid hin
        have HLA := Lib.hid (ladd_there HV.out.o 64 11 (by omega) (by omega) 0 64 x ms HL.out (by have := HXB.out; omega) hin)
        clear hin
        refine HLA.out.mono ?_
        rintro e w4 ⟨rfl, hb⟩
        have HV4 := Lib.hid (HV.out.below hb)
        clear hb c0 c1 c2
        go_wp2_with fail
        go_roundw
        case rel => exact ⟨i + 1, m, ms, by omega, by go_num, rfl, by omega, HV4.out, HL.out, HM.out⟩
        case measure => simp [intOf]; omega
      · have HLA := Lib.hid (ladd_ls HV.out.o 64 11 (by omega) (by omega) 0 64 x ms HL.out (by have := HXB.out; omega) hin (HTX.out _) HAP.out (mul_off HMUL.out HXB.out.1 HXB.out.2 hin))
        clear hin
        refine HLA.out.mono ?_
        rintro e w4 ⟨m4, rfl, ho, hg, hl4, _⟩
        have HV4 := Lib.hid (HV.out.went ho hg)
        have HL4 : Hid (LsK (twoS m4) 64 11 0 64 (ins x ms)) := Lib.hid hl4
        have HM4 : Hid (Mem z len (ins x ms)) := Lib.hid (by rw [← HX.out]; exact HM.out.ins hlt)
        have HN4 := Lib.hid (ins_length x ms)
        clear ho hg hl4 c0 c1 c2
        go_wp2_with fail
        go_roundw
        case rel => exact ⟨i + 1, m4, ins x ms, by omega, by go_num, by rw [HN4.out]; go_num, by rw [HN4.out]; omega, HV4.out, HL4.out, HM4.out⟩
        case measure => simp [intOf]; omega
    · have hml : ms.length ≤ 80 := by omega
      have HLL := Lib.hid (lall HV.out.o 64 11 (by omega) (by omega) 0 _ HL.out.lk (by
        have : ∀ (h z : Nat) (l : List Nat), (prs h z l).length = l.length + 1 := fun h z l => by
          induction l generalizing h z with
          | nil => rfl
          | cons m t ih => show (prs m 16 t).length + 1 = _; rw [ih]; rfl
        rw [this]; omega))
      have HTL := Lib.hid (toL_prs 64 8 ms HL.out.ch.gt)
      have HSG := Lib.hid (sorted_gets HL.out.ch.sorted)
      obtain ⟨c0, c1, c2⟩ := hv.all
      clear hv hl hmem
      go_wp2_with fail
      refine HLL.out.mono ?_
      rintro e w4 ⟨v, rfl, hi4, hb⟩
      rw [HTL.out] at hi4
      obtain ⟨pa, ca, rfl, hrw⟩ := ints_len hi4
      have HRW := Lib.hid hrw
      have HV4 := Lib.hid (HV.out.below hb)
      have HLE : Hid ((ms.map fun m : Nat => (m : Int)).length = ms.length) := Lib.hid (by simp)
      rw [HLE.out]
      clear hb hi4 hrw c0 c1 c2 HTL HLL
      go_wp2_with fail
      refine (sorted_any pa ms.length ca _ HLE.out.symm (by omega) w4 HRW.out HSG.out).mono ?_
      rintro e w5 ⟨rfl, hb⟩
      have HV5 := Lib.hid (HV4.out.below hb)
      clear hb
      go_wp2_with fail
      have HS2 : Hid (OrdB R A z len w (.int .i64 0) w5) := Lib.hid ⟨0, m, ms, Nat.zero_le _, rfl, HV5.out, HL.out, by rw [Nat.sub_zero]; exact HM.out⟩
      clear HRW HV4 HV5 HL HM HV HLE HSG HST
      go_loopw [58] (fun s58 wr => OrdB R A z len w s58 wr) (fun s58 _ => len - (intOf s58).toNat)
      case atStart => exact HS2.out
      case round =>
        clear HS2
        obtain ⟨i, m, ms, hi, rfl, hv, hl, hmem⟩ := hrel
        have HV := Lib.hid hv
        have HL := Lib.hid hl
        by_cases hlt : i < len
        · rcases HR.out with he | ⟨b, off, rfl, hbl, hc⟩
          · omega
          obtain ⟨jx, hjx⟩ : ∃ jx, len - 1 - i = jx := ⟨_, rfl⟩
          have hmem' : Mem z (jx + 1) ms := by rw [show jx + 1 = len - i by omega]; exact hmem
          have HM := Lib.hid hmem'
          obtain ⟨hc1, hz1⟩ := hc jx (by omega)
          have c3 := (hv.b.bel.cell (p := ⟨b, off + jx, none⟩) hbl).trans hc1
          obtain ⟨c0, c1, c2⟩ := hv.all
          obtain ⟨r, hr⟩ : ∃ r, z jx % 256 = r := ⟨_, rfl⟩
          obtain ⟨x, hx⟩ : ∃ x, pl (z jx) = x := ⟨_, rfl⟩
          have hrx : x = 4096 + 16 * r := by rw [← hx, ← hr]; rfl
          have q0 : ((z jx : Nat) : Int) % 256 = (r : Int) := by omega
          have q1 : ((z jx : Nat) : Int).tmod 256 = (r : Int) := by rw [Int.tmod_eq_emod_of_nonneg (by omega)]; exact q0
          have q2 : r < 256 := by omega
          have q3 : 4096 + 16 * (r : Int) = (x : Int) := by omega
          have q4 : (len : Int) - 1 - (i : Int) = (jx : Int) := by omega
          have q5 : jx < len := by omega
          have HJ := Lib.hid hjx
          have HX := Lib.hid hx
          have HXB : Hid (4096 ≤ x ∧ x % 16 = 0) := Lib.hid (by have := pl_b (z jx); rw [hx] at this; omega)
          have HAP := Lib.hid (mul_apart hl.ch.sorted hmem'.mul)
          have HND := Lib.hid (hl.ch.sorted.imp (fun {a b} (h : a < b) => Nat.ne_of_lt h))
          have HHV := Lib.hid (hasV_ch hl.ch x (by have := HXB.out; omega))
          obtain ⟨zi, hzi⟩ : ∃ zi, z jx = zi := ⟨_, rfl⟩
          have HZ := Lib.hid hzi
          rw [hzi] at c3 q0 q1
          have HVR : VarR R A wr := hv.v
          clear hv hl hmem hmem' hc hc1 hz1 hr hx hrx hzi hjx
          go_upto_region 20 with fail
          clear c0 c1 c2 c3 q0 q1 q2 q3 q4
          by_cases hin : x ∈ ms
          · have HH1 : Hid (hasV (prs 64 8 ms) x = true) := Lib.hid (by rw [HHV.out]; simpa using hin)
            have HIN := Lib.hid hin
            clear hin
            go_region_held3 (fun X => X.cell? ⟨R, 0, none⟩ = some (.pointer (some ⟨A, 0, none⟩)) ∧ X.cell? ⟨R, 1, none⟩ = some (.int .i64 64) ∧ X.cell? ⟨R, 2, none⟩ = some (.int .i64 11) ∧ VarR R A X)
              (first | exact (HVR.below (Below.refl _ _).drew).all | assumption)
              (first | (go_at_call 85; refine (lhas (HV.out.o.below (Below.refl _ _).drew) 64 11 (by omega) (by omega) 0 x _ HL.out.lk).mono ?_; rintro e w' ⟨rfl, hbb⟩; rw [HH1.out]; have hnx := ((HVR.below (Below.refl _ _).drew).below hbb).all; have hv6 := (HV.out.below (Below.refl _ _).drew).below hbb)
                     | (go_at_call 80; refine (lrem_ls hv6.o 64 11 (by omega) (by omega) 0 64 x ms HL.out (by have := HXB.out; omega) HIN.out HAP.out).mono ?_; rintro e w'' ⟨m5, rfl, ho5, hg5, hl5, _⟩; have hny := (hnx.2.2.2.went hv6.o hg5).all))
            all_goals
              have HV7 := Lib.hid (hv6.went ho5 hg5)
              have HL7 : Hid (LsK (twoS m5) 64 11 0 64 (ms.erase x)) := Lib.hid hl5
              have HM7 : Hid (Mem z (len - (i + 1)) (ms.erase x)) := Lib.hid (by
                rw [show len - (i + 1) = jx by have := HJ.out; omega]
                exact HM.out.less fun c hc => by
                  have h1 := (List.Nodup.mem_erase_iff HND.out).1 hc
                  rw [HX.out]; exact ⟨h1.2, h1.1⟩)
              clear HVR hnx hny hbb hv6 ho5 hg5 hl5
              go_wp2_with fail
              go_roundw
              case rel => exact ⟨i + 1, m5, ms.erase x, by omega, by go_num, HV7.out, HL7.out, HM7.out⟩
              case measure => simp [intOf]; omega
          · have HH1 : Hid (hasV (prs 64 8 ms) x = false) := Lib.hid (by rw [HHV.out]; simpa using hin)
            have HIN := Lib.hid hin
            clear hin
            go_region_held3 (fun X => X.cell? ⟨R, 0, none⟩ = some (.pointer (some ⟨A, 0, none⟩)) ∧ X.cell? ⟨R, 1, none⟩ = some (.int .i64 64) ∧ X.cell? ⟨R, 2, none⟩ = some (.int .i64 11) ∧ VarR R A X)
              (first | exact (HVR.below (Below.refl _ _).drew).all | assumption)
              (first | (go_at_call 85; refine (lhas (HV.out.o.below (Below.refl _ _).drew) 64 11 (by omega) (by omega) 0 x _ HL.out.lk).mono ?_; rintro e w' ⟨rfl, hbb⟩; rw [HH1.out]; have hnx := ((HVR.below (Below.refl _ _).drew).below hbb).all; have hv6 := (HV.out.below (Below.refl _ _).drew).below hbb)
                     | (go_at_call 80; refine (lrem_none hv6.o 64 11 (by omega) (by omega) 0 x 64 ms HL.out (fun y hy => by rw [show y = x by omega]; exact HIN.out)).mono ?_; rintro e w'' ⟨rfl, hbc⟩; have hny := (hnx.2.2.2.below hbc).all))
            all_goals
              have HV7 := Lib.hid (hv6.below hbc)
              have HM7 : Hid (Mem z (len - (i + 1)) ms) := Lib.hid (by
                rw [show len - (i + 1) = jx by have := HJ.out; omega]
                exact HM.out.less fun c hc => by
                  rw [HX.out]; exact ⟨hc, fun e => HIN.out (e ▸ hc)⟩)
              clear HVR hnx hny hbb hv6 hbc
              go_wp2_with fail
              go_roundw
              case rel => exact ⟨i + 1, m, ms, by omega, by go_num, HV7.out, HL.out, HM7.out⟩
              case measure => simp [intOf]; omega
        · obtain rfl : ms = [] := by
            cases ms with
            | nil => rfl
            | cons c t => obtain ⟨j, hj, _⟩ := hmem c (by simp); omega
          have HF := Lib.hid (lfirst hv.o 64 11 (by omega) (by omega) 0 _ hl.lk)
          have HA0 : Hid (atV (prs 64 8 []) 1 = 0) := Lib.hid (by decide)
          obtain ⟨c0, c1, c2⟩ := hv.all
          clear hv hl hmem HL
          go_wp2_with fail
          refine HF.out.mono ?_
          rintro e w6 ⟨rfl, hb⟩
          rw [HA0.out]
          have HV6 := Lib.hid (HV.out.below hb)
          clear hb c0 c1 c2
          go_wp2_with fail
          go_ret
          exact ⟨rfl, HV6.out.b.bel⟩
theorem ats_of_row {w : World} {a : Option Addr} {len cap : Nat} {zs : List Int}
    (h : (a = none ∧ len = 0 ∧ cap = 0 ∧ zs = []) ∨ ∃ x, a = some x ∧ len ≤ cap ∧ cap ≤ maxLen ∧ zs.length = cap ∧ (∀ i, i < zs.length → w.cell? (x.add i) = some (.int .u16 (zs.getD i 0))) ∧ ∀ n ∈ zs, (Lit.int .u16 n).wf = true) :
    len ≤ 9223372036854775807 ∧ AtsRow w a len fun k => (zs.getD k 0).toNat := by
  rcases h with ⟨_, rfl, _, _⟩ | ⟨x, rfl, h1, h2, h3, h4, h5⟩
  · exact ⟨by omega, .inl rfl⟩
  · unfold maxLen at h2
    refine ⟨by omega, ?_⟩
    by_cases h0 : len = 0
    · exact .inl h0
    · have k0 := h4 0 (by omega)
      obtain ⟨b, off, spot⟩ := x
      have hspot : spot = none := by simpa [Addr.add] using World.cell?_spot k0
      subst hspot
      have eA : ∀ j, (⟨b, off, none⟩ : Addr).add j = ⟨b, off + j, none⟩ := fun j => by
        simp only [Addr.add]; split <;> simp_all
      refine .inr ⟨b, off, rfl, World.block_lt_of_cell? _ _ k0, fun i hi => ?_⟩
      have h6 := h4 i (by omega)
      rw [eA] at h6
      have h7 := h5 (zs.getD i 0) (by rw [List.getD_eq_getElem?_getD, List.getElem?_eq_getElem (show i < zs.length by omega)]; exact List.getElem_mem _)
      have h8 := bounds_u16 h7
      refine ⟨?_, by show (zs.getD i 0).toNat < 65536; omega⟩
      rw [h6]
      show _ = some (Value.int .u16 ((zs.getD i 0).toNat : Int))
      rw [Int.toNat_of_nonneg h8.1]
end Go.Proofs.Ytfappdiipflpfaa.Bt
/- The document's lists: rows of rows of numbers; check, Has, with. -/
namespace Go.Proofs.Ytfappdiipflpfaa.Bt
open Go Go.RowKit Go.Shelf
set_option linter.unusedVariables false
set_option linter.unusedSimpArgs false

theorem IntsAt.below {w w' : World} {v : Value} {zs : List Int} (h : IntsAt w v zs) (hb : Below w.heap.size w w') : IntsAt w' v zs := by
  rcases h with h | ⟨b, off, cap, e, hlt, hc⟩
  · exact .inl h
  · exact .inr ⟨b, off, cap, e, Nat.lt_of_lt_of_le hlt hb.size, fun k hk => (hb.cell (p := ⟨b, off + k, none⟩) hlt).trans (hc k hk)⟩
/-- a row of numbers, in a block of numbers -/
def IntsT (w : World) (v : Value) (zs : List Int) : Prop :=
  (v = .slice none 0 0 ∧ zs = []) ∨ ∃ b off cap c fr, v = .slice (some ⟨b, off, none⟩) zs.length cap ∧ w.heap[b]? = some (.cells c 3 fr) ∧ ∀ k, k < zs.length → w.cell? ⟨b, off + k, none⟩ = some (.int .i64 (zs.getD k 0))
theorem IntsT.at {w : World} {v : Value} {zs : List Int} (h : IntsT w v zs) : IntsAt w v zs := by
  rcases h with h | ⟨b, off, cap, c, fr, e, hb, hc⟩
  · exact .inl h
  · exact .inr ⟨b, off, cap, e, (Array.getElem?_eq_some_iff.1 hb).1, hc⟩
theorem IntsT.same {w w' : World} {v : Value} {zs : List Int} (h : IntsT w v zs) (hk : ∀ (b : Nat) (c : Array Value) (fr : Nat × Nat), w.heap[b]? = some (Obj.cells c 3 fr) → w'.heap[b]? = w.heap[b]?) : IntsT w' v zs := by
  rcases h with h | ⟨b, off, cap, c, fr, e, hb, hc⟩
  · exact .inl h
  · exact .inr ⟨b, off, cap, c, fr, e, (hk b c fr hb).trans hb, fun k hk2 => (World.cell?_of_block (w := w) (a := ⟨b, off + k, none⟩) (hk b c fr hb)).trans (hc k hk2)⟩
theorem IntsT.below {w w' : World} {v : Value} {zs : List Int} (h : IntsT w v zs) (hb : Below w.heap.size w w') : IntsT w' v zs := h.same fun b c fr e => hb.block b (Array.getElem?_eq_some_iff.1 e).1
theorem own_intsT {W : World} {base : Nat} {v : Value} {k : Nat} {zs : List Int} (h : W.ownsRow base 3 1 v k (zs.map (Value.int .i64))) : IntsT W v zs := by
  have hk : zs.length = k := by have := h.1; simpa using this
  rcases h.2 with ⟨rfl, h0⟩ | ⟨g, cap, cur, rfl, _, hg, _⟩
  · exact .inl ⟨rfl, List.eq_nil_of_length_eq_zero (by omega)⟩
  · refine .inr ⟨g, 0, cap, cur, _, by rw [hk], hg, fun j hj => ?_⟩
    rw [Nat.zero_add, World.ownsRow.cellAt h j (by omega)]
    simp [List.getD_eq_getElem?_getD, List.getElem?_eq_getElem hj]
/-- rows of numbers in memory -/
def QsAt (w : World) (v : Value) (q : List (List Int)) : Prop :=
  ∃ (p : Option Addr) (cap : Nat) (vals : List Value), v = .slice p q.length cap ∧ vals.length = q.length ∧ (∀ i, i < q.length → IntsT w (vals.getD i undef) (q.getD i [])) ∧
    (q.length = 0 ∨ ∃ b off, p = some ⟨b, off, none⟩ ∧ (∃ c fr, w.heap[b]? = some (.cells c 46 fr)) ∧ ∀ i, i < q.length → w.cell? ⟨b, off + i, none⟩ = some (vals.getD i undef))
theorem QsAt.same {w w' : World} {v : Value} {q : List (List Int)} (h : QsAt w v q) (hk : ∀ (b : Nat) (c : Array Value) (T : TypeId) (fr : Nat × Nat), w.heap[b]? = some (Obj.cells c T fr) → T = 3 ∨ T = 46 → w'.heap[b]? = w.heap[b]?) : QsAt w' v q := by
  obtain ⟨p, cap, vals, e, hl, hi, hc⟩ := h
  refine ⟨p, cap, vals, e, hl, fun i hk2 => (hi i hk2).same fun b c fr e => hk b c _ fr e (.inl rfl), ?_⟩
  rcases hc with hc | ⟨b, off, e, ⟨c, fr, hb⟩, hc⟩
  · exact .inl hc
  · have h1 := hk b c _ fr hb (.inr rfl)
    exact .inr ⟨b, off, e, ⟨c, fr, h1.trans hb⟩, fun k hk2 => (World.cell?_of_block (w := w) (a := ⟨b, off + k, none⟩) h1).trans (hc k hk2)⟩
theorem QsAt.below {w w' : World} {v : Value} {q : List (List Int)} (h : QsAt w v q) (hb : Below w.heap.size w w') : QsAt w' v q := h.same fun b c T fr e _ => hb.block b (Array.getElem?_eq_some_iff.1 e).1
theorem QsAt.went {A : Nat} {s : ASt} {w w' : World} {v : Value} {q : List (List Int)} (h : QsAt w v q) (ho : On A s w) (hg : Went A w w') : QsAt w' v q := h.same fun b c T fr e hT => by
  rw [e]
  rcases hT with rfl | rfl
  · exact hg.keep ho e (by decide) (by decide) (by decide)
  · exact hg.keep ho e (by decide) (by decide) (by decide)
def inQ (q : List (List Int)) (k : Int) : Bool := decide (0 ≤ k ∧ k < q.length)
theorem rl_check (p : Option Addr) (n cap : Nat) (hn : n ≤ 1000) (k : Int) (w : World) : Calls Try.prog 133 #[.slice p n cap, .int .i64 k] w fun e w' => e = .returned (.int .i64 (if 0 ≤ k ∧ k < n then 0 else 3)) ∧ w = w' := by
  by_cases h0 : k < 0
  · rw [if_neg (by omega)]
    go_enter Try.func133, Try.ntmps133
    go_wp2_with fail
    go_ret
    exact ⟨rfl, rfl⟩
  · by_cases h1 : (n : Int) ≤ k
    · rw [if_neg (by omega)]
      go_enter Try.func133, Try.ntmps133
      go_wp2_with fail
      go_ret
      exact ⟨rfl, rfl⟩
    · rw [if_pos (by omega)]
      go_enter Try.func133, Try.ntmps133
      go_wp2_with fail
      go_ret
      exact ⟨rfl, rfl⟩
def hasQ (q : List (List Int)) (k a : Int) : Bool := inQ q k && decide (a ∈ q.getD k.toNat [])
/-- a row's cells -/
theorem ints_cells {w : World} {v : Value} {zs : List Int} (h : IntsAt w v zs) : ∃ p cap, v = .slice p zs.length cap ∧ (zs.length = 0 ∨ ∃ b off, p = some ⟨b, off, none⟩ ∧ b < w.heap.size ∧ ∀ j, j < zs.length → w.cell? ⟨b, off + j, none⟩ = some (.int .i64 (zs.getD j 0))) := by
  rcases h with ⟨rfl, rfl⟩ | ⟨b, off, cap, e, hlt, hc⟩
  · exact ⟨none, 0, rfl, .inl rfl⟩
  · exact ⟨_, cap, e, .inr ⟨b, off, rfl, hlt, hc⟩⟩
theorem getD_mem {zs : List Int} {a : Int} : a ∈ zs ↔ ∃ j, j < zs.length ∧ zs.getD j 0 = a := by
  rw [List.mem_iff_getElem]
  constructor
  · rintro ⟨j, h, e⟩; exact ⟨j, h, by rw [List.getD_eq_getElem?_getD, List.getElem?_eq_getElem h]; exact e⟩
  · rintro ⟨j, h, e⟩; exact ⟨j, h, by rw [List.getD_eq_getElem?_getD, List.getElem?_eq_getElem h] at e; exact e⟩
set_option maxHeartbeats 2000000 in
theorem rl_has (v : Value) (q : List (List Int)) (hq : q.length ≤ 1000) (k a : Int) (w : World) (h : QsAt w v q) (hz : ∀ i, i < q.length → (q.getD i []).length ≤ 1000) :
    Calls Try.prog 79 #[v, .int .i64 k, .int .i64 a] w fun e w' => e = .returned (.bool (hasQ q k a)) ∧ w = w' := by
  obtain ⟨p, cap, vals, rfl, hl, hi, hc⟩ := h
  by_cases hin : 0 ≤ k ∧ k < (q.length : Int)
  · obtain ⟨kn, rfl⟩ : ∃ kn : Nat, k = kn := ⟨k.toNat, by omega⟩
    have hkn : kn < q.length := by omega
    rcases hc with hc | ⟨b, off, rfl, _, hc⟩
    · omega
    have hcell := hc kn hkn
    obtain ⟨p2, cap2, hv2, hr⟩ := ints_cells (hi kn hkn).at
    rw [hv2] at hcell
    have HZ := hz kn hkn
    have HH : Hid (hasQ q kn a = decide (a ∈ q.getD kn [])) := Lib.hid (by unfold hasQ inQ; rw [decide_eq_true hin, Int.toNat_natCast]; rfl)
    have HCK : Hid ((if 0 ≤ (kn : Int) ∧ (kn : Int) < (q.length : Int) then (0 : Int) else 3) = 0) := Lib.hid (if_pos hin)
    generalize hzs : q.getD kn [] = zs at *
    obtain ⟨m, hm⟩ : ∃ m, zs.length = m := ⟨_, rfl⟩
    have HM := Lib.hid hm
    rw [hm] at hcell hr HZ
    have k1 : (kn : Int) < (q.length : Int) := hin.2
    obtain ⟨n, hn⟩ : ∃ n, q.length = n := ⟨_, rfl⟩
    have HCK2 := Lib.hid (rl_check (some ⟨b, off, none⟩) q.length cap (by omega) kn w)
    rw [hn] at k1 HCK HCK2 ⊢
    clear hi hc hv2 hzs hm hl hz hin hq hkn hn
    have HRR := Lib.hid hr
    clear hr
    go_enter Try.func79, Try.ntmps79
    go_wp2_with fail
    refine HCK2.out.mono ?_
    rintro e w' ⟨rfl, rfl⟩
    rw [HCK.out]
    clear HCK HCK2
    go_wp2_with fail
    go_loop [18] (fun i => ∃ j : Nat, j ≤ m ∧ i = .int .i64 (j : Int) ∧ ∀ t, t < j → zs.getD t 0 ≠ a) (fun i => m - (intOf i).toNat)
    case atStart => exact ⟨0, Nat.zero_le _, rfl, fun t ht => by omega⟩
    case round =>
      obtain ⟨j, hj, rfl, hno⟩ := hrel
      have HNO := Lib.hid hno
      clear hno
      by_cases hjm : j < m
      · rcases HRR.out with h0 | ⟨b2, off2, rfl, hlt2, hc2⟩
        · omega
        obtain ⟨x, hx⟩ : ∃ x, zs.getD j 0 = x := ⟨_, rfl⟩
        have c2 := hc2 j hjm
        rw [hx] at c2
        have HX := Lib.hid hx
        clear hx hc2 hcell
        by_cases hxa : x = a
        · have HT : Hid (hasQ q kn a = true) := Lib.hid (by rw [HH.out]; exact decide_eq_true (getD_mem.2 ⟨j, by have := HM.out; omega, by rw [HX.out, hxa]⟩))
          have d : (x == a) = true := by simpa using hxa
          clear hxa
          go_wp2_with fail
          go_ret
          exact ⟨by rw [HT.out]; rfl, rfl⟩
        · have HN : Hid (∀ t, t < j + 1 → zs.getD t 0 ≠ a) := Lib.hid fun t ht => by
            by_cases e : t = j
            · rw [e, HX.out]; exact hxa
            · exact HNO.out t (by omega)
          have d : (x == a) = false := by simpa using hxa
          clear hxa
          go_wp2_with fail
          go_round
          case rel => exact ⟨j + 1, by omega, by go_num, HN.out⟩
          case measure => simp [intOf]; omega
      · have HT : Hid (hasQ q kn a = false) := Lib.hid (by
          rw [HH.out]
          refine decide_eq_false fun hmem => ?_
          obtain ⟨t, ht, e⟩ := getD_mem.1 hmem
          exact HNO.out t (by have := HM.out; omega) e)
        go_wp2_with fail
        go_ret
        exact ⟨by rw [HT.out]; rfl, rfl⟩
  · have HT : Hid (hasQ q k a = false) := Lib.hid (by unfold hasQ inQ; rw [decide_eq_false hin]; rfl)
    have HCK : Hid ((if 0 ≤ k ∧ k < (q.length : Int) then (0 : Int) else 3) = 3) := Lib.hid (if_neg hin)
    have HCK2 := Lib.hid (rl_check p q.length cap hq k w)
    obtain ⟨n, hn⟩ : ∃ n, q.length = n := ⟨_, rfl⟩
    rw [hn] at HCK HCK2 ⊢
    clear hi hc hl hz hin hq hn
    go_enter Try.func79, Try.ntmps79
    go_wp2_with fail
    refine HCK2.out.mono ?_
    rintro e w' ⟨rfl, rfl⟩
    rw [HCK.out]
    go_wp2_with fail
    go_ret
    exact ⟨by rw [HT.out]; rfl, rfl⟩
end Go.Proofs.Ytfappdiipflpfaa.Bt
/- The document's lists: with, Add, Remove. -/
namespace Go.Proofs.Ytfappdiipflpfaa.Bt
open Go Go.RowKit Go.Shelf
set_option linter.unusedVariables false
set_option linter.unusedSimpArgs false

theorem Try.infoSl : (Try.prog.info? 46).map (fun i => (i.zero, i.size, i.bytes)) = some (some (.slice none 0 0), 1, 24) := by kernel_rfl
theorem own_push {W w1 : World} {base : Nat} {e : TypeId} {v : Value} {k : Nat} {xs : List Value} {tmp : Obj} (hrow : W.ownsRow base e 1 v k xs) (hgrow : (W.alloc tmp).grownBy w1 v.ownBlock) (hs : base ≤ W.heap.size) {w : World} (hb : Below base w W) : Below base w w1 :=
  (hb.alloc hs tmp).grown hgrow (by simp; omega) fun j ej => by
    rcases hrow.2 with ⟨rfl, _⟩ | ⟨g, cap, cur, rfl, h, _⟩
    · simp [Value.ownBlock] at ej
    · obtain rfl : g = j := by simpa [Value.ownBlock] using ej
      exact h
/-- a row of values that a call has made -/
theorem qs_of_own {W : World} {base : Nat} {v : Value} {q : List (List Int)} {vals : List Value} (h : W.ownsRow base 46 1 v q.length vals) (hl : vals.length = q.length) (hi : ∀ i, i < q.length → IntsT W (vals.getD i undef) (q.getD i [])) : QsAt W v q := by
  rcases h.2 with ⟨rfl, h0⟩ | ⟨g, cap, cur, rfl, _, hg, _⟩
  · exact ⟨none, 0, vals, by rw [h0], hl, hi, .inl h0⟩
  · refine ⟨_, cap, vals, rfl, hl, hi, .inr ⟨g, 0, rfl, ⟨_, _, hg⟩, fun j hj => ?_⟩⟩
    rw [Nat.zero_add, World.ownsRow.cellAt h j (by omega), List.getD_eq_getElem?_getD, List.getElem?_eq_getElem (by omega)]
    rfl
def WithP (q : List (List Int)) (kn : Nat) (zs : List Int) (w : World) (e : Ending) (w' : World) : Prop := ∃ v', e = .returned v' ∧ QsAt w' v' (q.set kn zs) ∧ Below w.heap.size w w'
set_option maxRecDepth 100000 in
set_option maxHeartbeats 2000000 in
theorem rl_with (v x : Value) (q : List (List Int)) (hq : q.length ≤ 1000) (kn : Nat) (zs : List Int) (w : World) (h : QsAt w v q) (hx : IntsT w x zs) :
    Calls Try.prog 137 #[v, .int .i64 (kn : Int), x] w (WithP q kn zs w) := by
  obtain ⟨p, cap, vals, rfl, hl, hi, hc⟩ := h
  obtain ⟨i0, hi0, hz0, hz1, hz2⟩ := info_parts Try.infoSl
  have HI := Lib.hid hi0; have HZ0 := Lib.hid hz0; have HZ1 := Lib.hid hz1; have HZ2 := Lib.hid hz2
  obtain ⟨px, cx, hxv, _⟩ := ints_cells hx.at
  have HX := Lib.hid hx
  have HL := Lib.hid hl
  have HIN := Lib.hid hi
  have HC := Lib.hid hc
  obtain ⟨n, hn⟩ : ∃ n, q.length = n := ⟨_, rfl⟩
  have HN := Lib.hid hn
  rw [hn] at hq ⊢
  subst hxv
  clear hi0 hz0 hz1 hz2 hx hl hi hc hn
  go_enter Try.func137, Try.ntmps137
  go_wp2_with fail
  go_loopw [7, 12] (fun s7 s12 wr => ∃ j : Nat, j ≤ n ∧ s12 = .int .i64 (j : Int) ∧ wr.ownsRow w.heap.size 46 1 s7 j ((vals.set kn (.slice px zs.length cx)).take j) ∧ Below w.heap.size w wr) (fun _ s12 _ => n - (intOf s12).toNat)
  case atStart => exact ⟨0, Nat.zero_le _, rfl, World.ownsRow_nil _ _ _ _, Below.refl _ _⟩
  case round =>
    obtain ⟨j, hj, rfl, hrow, hb⟩ := hrel
    by_cases hjn : j < n
    · rcases HC.out with h0 | ⟨b, off, rfl, ⟨_, _, hblk⟩, hc⟩
      · have := HN.out; omega
      have hlt := (Array.getElem?_eq_some_iff.1 hblk).1
      obtain ⟨y, hy⟩ : ∃ y, vals.getD j undef = y := ⟨_, rfl⟩
      have c0 := (hb.cell (p := ⟨b, off + j, none⟩) hlt).trans (hc j (by have := HN.out; omega))
      rw [hy] at c0
      obtain ⟨py, cy, hyv, _⟩ := ints_cells (HIN.out j (by have := HN.out; omega)).at
      rw [hy] at hyv
      have hs := hb.size
      have HB := Lib.hid hb
      have HRW := Lib.hid hrow
      have hjl : j < vals.length := by have := HL.out; have := HN.out; omega
      have HTK : Hid ((vals.set kn (.slice px zs.length cx)).take (j + 1) = (vals.set kn (.slice px zs.length cx)).take j ++ [if kn = j then .slice px zs.length cx else y]) := Lib.hid (by
        rw [List.take_succ_eq_append_getElem (by simpa using hjl), List.getElem_set]
        congr 1
        split
        · rfl
        · rw [← hy, List.getD_eq_getElem?_getD, List.getElem?_eq_getElem hjl]; rfl)
      clear hc hb hy hjl hblk
      by_cases hk : j = kn
      · have d : ((j : Int) == (kn : Int)) = true := by rw [beq_iff_eq]; omega
        have HTK2 : Hid ((vals.set kn (.slice px zs.length cx)).take (j + 1) = (vals.set kn (.slice px zs.length cx)).take j ++ [.slice px zs.length cx]) := Lib.hid (by rw [HTK.out, if_pos hk.symm])
        clear hk HTK
        go_wp2_with (at_builtin; refine wpList_append_own _ rfl _ _ 118 rfl w.heap.size 46 i0 (.slice none 0 0) 1 24 Try.underlying118 HI.out HZ0.out HZ1.out HZ2.out rfl (by decide) _ _ _ rfl (hrow.alloc _) ⟨wr.heap.size, 0, none⟩ 1 1 [.slice px zs.length cx] rfl rfl (cell_one_new _ _ _) (by simp [Value.oneCell']) (by unfold maxLen; omega) (by omega) (by simp; omega) ?_; intro v' w1 hown' hgrow _)
        have HBW := Lib.hid (own_push HRW.out hgrow hs HB.out)
        have HOW : Hid (w1.ownsRow w.heap.size 46 1 v' (j + 1) ((vals.set kn (.slice px zs.length cx)).take (j + 1))) := Lib.hid (by rw [HTK2.out]; exact hown')
        clear hrow hown' hgrow
        go_wp2_with fail
        go_roundw
        case rel => exact ⟨j + 1, by omega, by go_num, HOW.out, HBW.out⟩
        case measure => simp [intOf]; omega
      · have d : ((j : Int) == (kn : Int)) = false := beq_eq_false_iff_ne.2 (fun e => hk (by omega))
        have HTK2 : Hid ((vals.set kn (.slice px zs.length cx)).take (j + 1) = (vals.set kn (.slice px zs.length cx)).take j ++ [y]) := Lib.hid (by rw [HTK.out, if_neg (Ne.symm hk)])
        clear hk HTK
        subst hyv
        go_wp2_with (at_builtin; refine wpList_append_own _ rfl _ _ 118 rfl w.heap.size 46 i0 (.slice none 0 0) 1 24 Try.underlying118 HI.out HZ0.out HZ1.out HZ2.out rfl (by decide) _ _ _ rfl (hrow.alloc _) ⟨wr.heap.size, 0, none⟩ 1 1 [.slice py (q.getD j []).length cy] rfl rfl (cell_one_new _ _ _) (by simp [Value.oneCell']) (by unfold maxLen; omega) (by omega) (by simp; omega) ?_; intro v' w1 hown' hgrow _)
        have HBW := Lib.hid (own_push HRW.out hgrow hs HB.out)
        have HOW : Hid (w1.ownsRow w.heap.size 46 1 v' (j + 1) ((vals.set kn (.slice px zs.length cx)).take (j + 1))) := Lib.hid (by rw [HTK2.out]; exact hown')
        clear hrow hown' hgrow
        go_wp2_with fail
        go_roundw
        case rel => exact ⟨j + 1, by omega, by go_num, HOW.out, HBW.out⟩
        case measure => simp [intOf]; omega
    · obtain rfl : j = n := by omega
      have HF : Hid (QsAt wr u7 (q.set kn zs) ∧ Below w.heap.size w wr) := Lib.hid (by
        have hl2 : (vals.set kn (.slice px zs.length cx)).length = (q.set kn zs).length := by simp [HL.out]
        rw [List.take_of_length_le (by rw [hl2, List.length_set, HN.out]; exact Nat.le_refl _)] at hrow
        refine ⟨qs_of_own (by rw [List.length_set, HN.out]; exact hrow) hl2 fun i hi => ?_, hb⟩
        rw [List.length_set] at hi
        have hiv : i < vals.length := by rw [HL.out]; exact hi
        by_cases e : kn = i
        · subst e
          rw [List.getD_eq_getElem?_getD, List.getD_eq_getElem?_getD, List.getElem?_set_self hiv, List.getElem?_set_self hi]
          exact HX.out.below hb
        · rw [List.getD_eq_getElem?_getD, List.getD_eq_getElem?_getD, List.getElem?_set_ne e, List.getElem?_set_ne e, ← List.getD_eq_getElem?_getD, ← List.getD_eq_getElem?_getD]
          exact (HIN.out i hi).below hb)
      clear hrow hb
      go_wp2_with fail
      go_ret
      exact ⟨_, rfl, HF.out.1, HF.out.2⟩
end Go.Proofs.Ytfappdiipflpfaa.Bt
/- The document's lists: Add, Remove. -/
namespace Go.Proofs.Ytfappdiipflpfaa.Bt
open Go Go.RowKit Go.Shelf
set_option linter.unusedVariables false
set_option linter.unusedSimpArgs false

/-- a number put in ahead of the first greater one -/
def insI (x : Int) : List Int → List Int
  | [] => [x]
  | m :: t => if x < m then x :: m :: t else m :: insI x t
theorem insI_done {x : Int} {l : List Int} (y : Int) (h : ∃ m ∈ l, x < m) : insI x (l ++ [y]) = insI x l ++ [y] := by
  induction l with
  | nil => obtain ⟨m, hm, _⟩ := h; cases hm
  | cons a t ih =>
    show insI x (a :: (t ++ [y])) = _
    unfold insI
    by_cases e : x < a
    · rw [if_pos e, if_pos e]; rfl
    · rw [if_neg e, if_neg e, ih (by
        obtain ⟨m, hm, hx⟩ := h
        rcases List.mem_cons.1 hm with rfl | hm
        · exact absurd hx e
        · exact ⟨m, hm, hx⟩)]
      rfl
theorem insI_none {x : Int} {l : List Int} (h : ∀ m ∈ l, ¬ x < m) : insI x l = l ++ [x] := by
  induction l with
  | nil => rfl
  | cons a t ih =>
    unfold insI
    rw [if_neg (h a (by simp)), ih fun m hm => h m (List.mem_cons_of_mem _ hm)]; rfl
theorem insI_at {x y : Int} {l : List Int} (h : ∀ m ∈ l, ¬ x < m) (hy : x < y) : insI x (l ++ [y]) = l ++ [x, y] := by
  induction l with
  | nil => show insI x [y] = _; unfold insI; rw [if_pos hy]; rfl
  | cons a t ih =>
    show insI x (a :: (t ++ [y])) = _
    unfold insI
    rw [if_neg (h a (by simp)), ih fun m hm => h m (List.mem_cons_of_mem _ hm)]; rfl
theorem take_next {zs : List Int} {j : Nat} (h : j < zs.length) : zs.take (j + 1) = zs.take j ++ [zs.getD j 0] := by
  rw [List.take_succ_eq_append_getElem h, List.getD_eq_getElem?_getD, List.getElem?_eq_getElem h]; rfl
/-- what stands so far, and is it done -/
def AccA (x : Int) (zs : List Int) (j : Nat) (d : Bool) (out : List Int) : Prop := (d = true ∧ (∃ m ∈ zs.take j, x < m) ∧ out = insI x (zs.take j)) ∨ (d = false ∧ (∀ m ∈ zs.take j, ¬ x < m) ∧ out = zs.take j)

section
variable {w : World}
theorem rl_add_out (p : Option Addr) (n cap : Nat) (hn : n ≤ 1000) (k a : Int) (th : Bool) (hk : ¬ (0 ≤ k ∧ k < n)) :
    Calls Try.prog 83 #[.slice p n cap, .int .i64 k, .int .i64 a, .bool th] w fun e w' => e = .returned (.tuple #[.slice p n cap, .int .i64 3]) ∧ w = w' := by
  have HC := Lib.hid (rl_check p n cap hn k w)
  have HE : Hid ((if 0 ≤ k ∧ k < (n : Int) then (0 : Int) else 3) = 3) := Lib.hid (if_neg hk)
  clear hk
  go_enter Try.func83, Try.ntmps83
  go_wp2_with fail
  refine HC.out.mono ?_
  rintro e w' ⟨rfl, rfl⟩
  rw [HE.out]
  go_wp2_with fail
  go_ret2
  exact ⟨rfl, rfl⟩
theorem rl_add_th (p : Option Addr) (n cap : Nat) (hn : n ≤ 1000) (k a : Int) (hk : 0 ≤ k ∧ k < n) (ha : 1 ≤ a) :
    Calls Try.prog 83 #[.slice p n cap, .int .i64 k, .int .i64 a, .bool false] w fun e w' => e = .returned (.tuple #[.slice p n cap, .int .i64 3]) ∧ w = w' := by
  have HC := Lib.hid (rl_check p n cap hn k w)
  have HE : Hid ((if 0 ≤ k ∧ k < (n : Int) then (0 : Int) else 3) = 0) := Lib.hid (if_pos hk)
  have ha2 : ¬ a < 1 := by omega
  clear hk ha
  go_enter Try.func83, Try.ntmps83
  go_wp2_with fail
  refine HC.out.mono ?_
  rintro e w' ⟨rfl, rfl⟩
  rw [HE.out]
  go_wp2_with fail
  go_ret2
  exact ⟨rfl, rfl⟩
theorem rl_add_has (v : Value) (p : Option Addr) (cap : Nat) (q : List (List Int)) (hv : v = .slice p q.length cap) (hq : q.length ≤ 1000) (k a : Int) (h : QsAt w v q) (hz : ∀ i, i < q.length → (q.getD i []).length ≤ 1000) (hk : 0 ≤ k ∧ k < q.length) (ha : 1 ≤ a) (hh : hasQ q k a = true) :
    Calls Try.prog 83 #[v, .int .i64 k, .int .i64 a, .bool true] w fun e w' => e = .returned (.tuple #[v, .int .i64 9]) ∧ w = w' := by
  subst hv
  have HC := Lib.hid (rl_check p q.length cap hq k w)
  have HH := Lib.hid (rl_has _ q hq k a w h hz)
  have HB := Lib.hid hh
  have HE : Hid ((if 0 ≤ k ∧ k < (q.length : Int) then (0 : Int) else 3) = 0) := Lib.hid (if_pos hk)
  have ha2 : ¬ a < 1 := by omega
  clear hk ha h hz hh hq
  generalize q.length = n at *
  go_enter Try.func83, Try.ntmps83
  go_wp2_with fail
  refine HC.out.mono ?_
  rintro e w' ⟨rfl, rfl⟩
  rw [HE.out]
  go_wp2_with fail
  refine HH.out.mono ?_
  rintro e w' ⟨rfl, rfl⟩
  rw [HB.out]
  go_wp2_with fail
  go_ret2
  exact ⟨rfl, rfl⟩
def AddQP (q : List (List Int)) (kn : Nat) (zs : List Int) (er : Int) (w : World) (e : Ending) (w' : World) : Prop := ∃ v', e = .returned (.tuple #[v', .int .i64 er]) ∧ QsAt w' v' (q.set kn zs) ∧ Below w.heap.size w w'
set_option maxRecDepth 100000 in
set_option maxHeartbeats 4000000 in
theorem rl_add_yes (v : Value) (q : List (List Int)) (hq : q.length ≤ 1000) (kn : Nat) (a : Int) (h : QsAt w v q) (hz : ∀ i, i < q.length → (q.getD i []).length ≤ 1000) (hk : kn < q.length) (ha : 1 ≤ a) (hh : hasQ q kn a = false) :
    Calls Try.prog 83 #[v, .int .i64 (kn : Int), .int .i64 a, .bool true] w (AddQP q kn (insI a (q.getD kn [])) 0 w) := by
  have hqs := h
  obtain ⟨p, cap, vals, rfl, hl, hi, hc⟩ := h
  obtain ⟨i0, hi0, hz0, hz1, hz2⟩ := info_parts Try.info3
  have HI := Lib.hid hi0; have HZ0 := Lib.hid hz0; have HZ1 := Lib.hid hz1; have HZ2 := Lib.hid hz2
  have HC := Lib.hid (rl_check p q.length cap hq kn w)
  have HH := Lib.hid (rl_has _ q hq kn a w hqs hz)
  have HB := Lib.hid hh
  have HE : Hid ((if 0 ≤ (kn : Int) ∧ (kn : Int) < (q.length : Int) then (0 : Int) else 3) = 0) := Lib.hid (if_pos (by omega))
  have ha2 : ¬ a < 1 := by omega
  have HWI := fun (w2 : World) (x : Value) (hb : Below w.heap.size w w2) (hx : IntsT w2 x (insI a (q.getD kn []))) => rl_with (.slice p q.length cap) x q hq kn _ w2 (hqs.below hb) hx
  have HW := Lib.hid HWI
  rcases hc with hc | ⟨b, off, rfl, _, hc⟩
  · omega
  have c0 := hc kn hk
  obtain ⟨p2, cap2, hv2, hr⟩ := ints_cells (hi kn hk).at
  rw [hv2] at c0
  have HZL := Lib.hid (hz kn hk)
  have k1 : (kn : Int) < (q.length : Int) := by omega
  obtain ⟨zs, hzs⟩ : ∃ zs, q.getD kn [] = zs := ⟨_, rfl⟩
  rw [hzs] at c0 hr HZL HW ⊢
  obtain ⟨m, hm⟩ : ∃ m, zs.length = m := ⟨_, rfl⟩
  have HM := Lib.hid hm
  rw [hm] at c0 hr
  have hm1000 : m ≤ 1000 := by have := HZL.out; omega
  have HRR := Lib.hid hr
  generalize q.length = n at *
  clear hi0 hz0 hz1 hz2 hqs hl hi hc hv2 hz hh HWI hr hzs hm ha hk
  go_enter Try.func83, Try.ntmps83
  go_wp2_with fail
  refine HC.out.mono ?_
  rintro e w' ⟨rfl, rfl⟩
  rw [HE.out]
  clear HC HE
  go_wp2_with fail
  refine HH.out.mono ?_
  rintro e w' ⟨rfl, rfl⟩
  rw [HB.out]
  clear HH HB
  go_wp2_with fail
  go_loopw [11, 12, 47] (fun s11 s12 s47 wr => ∃ (j : Nat) (d : Bool) (out : List Int), j ≤ m ∧ s47 = .int .i64 (j : Int) ∧ s12 = .bool d ∧ AccA a zs j d out ∧ out.length ≤ j + 1 ∧ wr.ownsRow w.heap.size 3 1 s11 out.length (out.map (Value.int .i64)) ∧ Below w.heap.size w wr) (fun _ _ s47 _ => m - (intOf s47).toNat)
  case atStart => exact ⟨0, false, [], Nat.zero_le _, rfl, rfl, .inr ⟨rfl, (fun _ h => by cases h), rfl⟩, by simp, World.ownsRow_nil _ _ _ _, Below.refl _ _⟩
  case round =>
    obtain ⟨j, d, out, hj, rfl, rfl, hacc, hol, hrow, hb⟩ := hrel
    have hs := hb.size
    have HB2 := Lib.hid hb
    have HRW := Lib.hid hrow
    by_cases hjm : j < m
    · rcases HRR.out with h0 | ⟨b2, off2, rfl, hlt2, hc2⟩
      · omega
      obtain ⟨y, hy⟩ : ∃ y, zs.getD j 0 = y := ⟨_, rfl⟩
      have c2 := (hb.cell (p := ⟨b2, off2 + j, none⟩) hlt2).trans (hc2 j hjm)
      rw [hy] at c2
      have HTK : Hid (zs.take (j + 1) = zs.take j ++ [y]) := Lib.hid (by rw [← hy]; exact take_next (by have := HM.out; omega))
      have HAC := Lib.hid hacc
      clear hc2 hy hb hacc c0
      cases d with
      | true =>
        have HN : Hid (AccA a zs (j + 1) true (out ++ [y])) := Lib.hid (by
          rcases HAC.out with ⟨_, h1, h2⟩ | ⟨h1, _⟩
          · refine .inl ⟨rfl, ?_, ?_⟩
            · rw [HTK.out]; obtain ⟨z, hz, hx⟩ := h1; exact ⟨z, List.mem_append.2 (.inl hz), hx⟩
            · rw [HTK.out, insI_done y h1, h2]
          · cases h1)
        go_wp2_with (at_builtin; refine wpList_append_own _ rfl _ _ 46 rfl w.heap.size 3 i0 (.int .i64 0) 1 8 Try.underlying46 HI.out HZ0.out HZ1.out HZ2.out rfl (by decide) _ _ _ rfl (hrow.alloc _) ⟨_, 0, none⟩ 1 1 [.int .i64 y] rfl rfl (cell_one_new _ _ _) (by simp [Value.oneCell']) (by unfold maxLen; omega) (by omega) (by simp; omega) ?_; intro v' w1 hown' hgrow _; have hhgrow := hgrow.size; simp at hhgrow)
        have HBW := Lib.hid (own_push HRW.out hgrow hs HB2.out)
        have HOW : Hid (w1.ownsRow w.heap.size 3 1 v' (out ++ [y]).length ((out ++ [y]).map (Value.int .i64))) := Lib.hid (by simpa using hown')
        have hle : (out ++ [y]).length ≤ j + 1 + 1 := by simp; omega
        clear hrow hown' hgrow hhgrow
        go_wp2_with fail
        go_roundw
        case rel => exact ⟨j + 1, true, out ++ [y], by omega, by go_num, rfl, HN.out, hle, HOW.out, HBW.out⟩
        case measure => simp [intOf]; omega
      | false =>
        by_cases hya : a < y
        · have HN : Hid (AccA a zs (j + 1) true (out ++ [a, y])) := Lib.hid (by
            rcases HAC.out with ⟨h1, _⟩ | ⟨_, h1, h2⟩
            · cases h1
            · refine .inl ⟨rfl, ⟨y, by rw [HTK.out]; simp, hya⟩, ?_⟩
              rw [HTK.out, insI_at h1 hya, h2])
          go_wp2_with (first | (at_builtin; refine wpList_append_own _ rfl _ _ 46 rfl w.heap.size 3 i0 (.int .i64 0) 1 8 Try.underlying46 HI.out HZ0.out HZ1.out HZ2.out rfl (by decide) _ _ _ rfl (hrow.alloc _) ⟨_, 0, none⟩ 1 1 [.int .i64 a] rfl rfl (cell_one_new _ _ _) (by simp [Value.oneCell']) (by unfold maxLen; omega) (by omega) (by simp; omega) ?_; intro v1 w1 hown1 hgrow1 _; have hhgrow1 := hgrow1.size; simp at hhgrow1) | (at_builtin; refine wpList_append_own _ rfl _ _ 46 rfl w.heap.size 3 i0 (.int .i64 0) 1 8 Try.underlying46 HI.out HZ0.out HZ1.out HZ2.out rfl (by decide) _ _ _ rfl (hown1.alloc _) ⟨_, 0, none⟩ 1 1 [.int .i64 y] rfl rfl (cell_one_new _ _ _) (by simp [Value.oneCell']) (by unfold maxLen; omega) (by omega) (by simp; omega) ?_; intro v2 w2 hown2 hgrow2 _; have hhgrow2 := hgrow2.size; simp at hhgrow2))
          have HBW := Lib.hid (own_push hown1 hgrow2 (by omega) (own_push HRW.out hgrow1 hs HB2.out))
          have HOW : Hid (w2.ownsRow w.heap.size 3 1 v2 (out ++ [a, y]).length ((out ++ [a, y]).map (Value.int .i64))) := Lib.hid (by simpa using hown2)
          have hle : (out ++ [a, y]).length ≤ j + 1 + 1 := by
            rcases HAC.out with ⟨h1, _⟩ | ⟨_, h1, h2⟩
            · cases h1
            · rw [h2]; simp; omega
          clear hrow hown1 hown2 hgrow1 hgrow2 hhgrow1 hhgrow2
          go_wp2_with fail
          go_roundw
          case rel => exact ⟨j + 1, true, out ++ [a, y], by omega, by go_num, rfl, HN.out, hle, HOW.out, HBW.out⟩
          case measure => simp [intOf]; omega
        · have HN : Hid (AccA a zs (j + 1) false (out ++ [y])) := Lib.hid (by
            rcases HAC.out with ⟨h1, _⟩ | ⟨_, h1, h2⟩
            · cases h1
            · refine .inr ⟨rfl, ?_, by rw [HTK.out, h2]⟩
              rw [HTK.out]
              intro z hz
              rcases List.mem_append.1 hz with hz | hz
              · exact h1 z hz
              · rw [List.mem_singleton.1 hz]; exact hya)
          go_wp2_with (at_builtin; refine wpList_append_own _ rfl _ _ 46 rfl w.heap.size 3 i0 (.int .i64 0) 1 8 Try.underlying46 HI.out HZ0.out HZ1.out HZ2.out rfl (by decide) _ _ _ rfl (hrow.alloc _) ⟨_, 0, none⟩ 1 1 [.int .i64 y] rfl rfl (cell_one_new _ _ _) (by simp [Value.oneCell']) (by unfold maxLen; omega) (by omega) (by simp; omega) ?_; intro v' w1 hown' hgrow _; have hhgrow := hgrow.size; simp at hhgrow)
          have HBW := Lib.hid (own_push HRW.out hgrow hs HB2.out)
          have HOW : Hid (w1.ownsRow w.heap.size 3 1 v' (out ++ [y]).length ((out ++ [y]).map (Value.int .i64))) := Lib.hid (by simpa using hown')
          have hle : (out ++ [y]).length ≤ j + 1 + 1 := by simp; omega
          clear hrow hown' hgrow hhgrow
          go_wp2_with fail
          go_roundw
          case rel => exact ⟨j + 1, false, out ++ [y], by omega, by go_num, rfl, HN.out, hle, HOW.out, HBW.out⟩
          case measure => simp [intOf]; omega
    · have hjm2 : j = m := by omega
      have HTA : Hid (zs.take j = zs) := Lib.hid (List.take_of_length_le (by have := HM.out; omega))
      have HAC := Lib.hid hacc
      clear hb hacc c0
      cases d with
      | true =>
        have HOUT : Hid (out = insI a zs) := Lib.hid (by
          rcases HAC.out with ⟨_, _, h2⟩ | ⟨h1, _⟩
          · rw [h2, HTA.out]
          · cases h1)
        have HIA : Hid (IntsT wr u11 (insI a zs)) := Lib.hid (by rw [← HOUT.out]; exact own_intsT HRW.out)
        clear hrow
        go_wp2_with fail
        refine (HW.out wr _ HB2.out HIA.out).mono ?_
        rintro e w3 ⟨v3, rfl, hq3, hb3⟩
        have HF := Lib.hid (And.intro hq3 (HB2.out.trans (hb3.mono hs)))
        clear hq3 hb3
        go_wp2_with fail
        go_ret2
        exact ⟨_, rfl, HF.out.1, HF.out.2⟩
      | false =>
        have HOUT : Hid (out ++ [a] = insI a zs) := Lib.hid (by
          rcases HAC.out with ⟨h1, _⟩ | ⟨_, h1, h2⟩
          · cases h1
          · rw [HTA.out] at h1 h2; rw [h2, insI_none h1])
        go_wp2_with (at_builtin; refine wpList_append_own _ rfl _ _ 46 rfl w.heap.size 3 i0 (.int .i64 0) 1 8 Try.underlying46 HI.out HZ0.out HZ1.out HZ2.out rfl (by decide) _ _ _ rfl (hrow.alloc _) ⟨_, 0, none⟩ 1 1 [.int .i64 a] rfl rfl (cell_one_new _ _ _) (by simp [Value.oneCell']) (by unfold maxLen; omega) (by omega) (by simp; omega) ?_; intro v' w1 hown' hgrow _; have hhgrow := hgrow.size; simp at hhgrow)
        have HBW := Lib.hid (own_push HRW.out hgrow hs HB2.out)
        have HIA : Hid (IntsT w1 v' (insI a zs)) := Lib.hid (by
          rw [← HOUT.out]
          have h4 : w1.ownsRow w.heap.size 3 1 v' (out ++ [a]).length ((out ++ [a]).map (Value.int .i64)) := by simpa using hown'
          exact own_intsT h4)
        have hs1 : w.heap.size ≤ w1.heap.size := by omega
        clear hrow hown' hgrow hhgrow
        go_wp2_with fail
        refine (HW.out w1 _ HBW.out HIA.out).mono ?_
        rintro e w3 ⟨v3, rfl, hq3, hb3⟩
        have HF := Lib.hid (And.intro hq3 (HBW.out.trans (hb3.mono hs1)))
        clear hq3 hb3
        go_wp2_with fail
        go_ret2
        exact ⟨_, rfl, HF.out.1, HF.out.2⟩
end
end Go.Proofs.Ytfappdiipflpfaa.Bt
/- The document's lists: Remove. (Written by gen_rld.py.) -/
namespace Go.Proofs.Ytfappdiipflpfaa.Bt
open Go Go.RowKit Go.Shelf
set_option linter.unusedVariables false
set_option linter.unusedSimpArgs false
section
variable {w : World}
theorem rl_rem_out (p : Option Addr) (n cap : Nat) (hn : n ≤ 1000) (k a : Int) (hk : ¬ (0 ≤ k ∧ k < n)) :
    Calls Try.prog 81 #[.slice p n cap, .int .i64 k, .int .i64 a] w fun e w' => e = .returned (.tuple #[.slice p n cap, .int .i64 3]) ∧ w = w' := by
  have HC := Lib.hid (rl_check p n cap hn k w)
  have HE : Hid ((if 0 ≤ k ∧ k < (n : Int) then (0 : Int) else 3) = 3) := Lib.hid (if_neg hk)
  clear hk
  go_enter Try.func81, Try.ntmps81
  go_wp2_with fail
  refine HC.out.mono ?_
  rintro e w' ⟨rfl, rfl⟩
  rw [HE.out]
  go_wp2_with fail
  go_ret2
  exact ⟨rfl, rfl⟩
theorem rl_rem_none (v : Value) (p : Option Addr) (cap : Nat) (q : List (List Int)) (hv : v = .slice p q.length cap) (hq : q.length ≤ 1000) (k a : Int) (h : QsAt w v q) (hz : ∀ i, i < q.length → (q.getD i []).length ≤ 1000) (hk : 0 ≤ k ∧ k < q.length) (hh : hasQ q k a = false) :
    Calls Try.prog 81 #[v, .int .i64 k, .int .i64 a] w fun e w' => e = .returned (.tuple #[v, .int .i64 8]) ∧ w = w' := by
  subst hv
  have HC := Lib.hid (rl_check p q.length cap hq k w)
  have HH := Lib.hid (rl_has _ q hq k a w h hz)
  have HB := Lib.hid hh
  have HE : Hid ((if 0 ≤ k ∧ k < (q.length : Int) then (0 : Int) else 3) = 0) := Lib.hid (if_pos hk)
  clear hk h hz hh hq
  generalize q.length = n at *
  go_enter Try.func81, Try.ntmps81
  go_wp2_with fail
  refine HC.out.mono ?_
  rintro e w' ⟨rfl, rfl⟩
  rw [HE.out]
  go_wp2_with fail
  refine HH.out.mono ?_
  rintro e w' ⟨rfl, rfl⟩
  rw [HB.out]
  go_wp2_with fail
  go_ret2
  exact ⟨rfl, rfl⟩
set_option maxRecDepth 100000 in
set_option maxHeartbeats 4000000 in
theorem rl_rem_yes (v : Value) (q : List (List Int)) (hq : q.length ≤ 1000) (kn : Nat) (a : Int) (h : QsAt w v q) (hz : ∀ i, i < q.length → (q.getD i []).length ≤ 1000) (hk : kn < q.length) (hh : hasQ q kn a = true) :
    Calls Try.prog 81 #[v, .int .i64 (kn : Int), .int .i64 a] w (AddQP q kn ((q.getD kn []).filter fun x => decide (x ≠ a)) 0 w) := by
  have hqs := h
  obtain ⟨p, cap, vals, rfl, hl, hi, hc⟩ := h
  obtain ⟨i0, hi0, hz0, hz1, hz2⟩ := info_parts Try.info3
  have HI := Lib.hid hi0; have HZ0 := Lib.hid hz0; have HZ1 := Lib.hid hz1; have HZ2 := Lib.hid hz2
  have HC := Lib.hid (rl_check p q.length cap hq kn w)
  have HH := Lib.hid (rl_has _ q hq kn a w hqs hz)
  have HB := Lib.hid hh
  have HE : Hid ((if 0 ≤ (kn : Int) ∧ (kn : Int) < (q.length : Int) then (0 : Int) else 3) = 0) := Lib.hid (if_pos (by omega))
  have HWI := fun (w2 : World) (x : Value) (hb : Below w.heap.size w w2) (hx : IntsT w2 x ((q.getD kn []).filter fun x => decide (x ≠ a))) => rl_with (.slice p q.length cap) x q hq kn _ w2 (hqs.below hb) hx
  have HW := Lib.hid HWI
  rcases hc with hc | ⟨b, off, rfl, _, hc⟩
  · omega
  have c0 := hc kn hk
  obtain ⟨p2, cap2, hv2, hr⟩ := ints_cells (hi kn hk).at
  rw [hv2] at c0
  have HZL := Lib.hid (hz kn hk)
  have k1 : (kn : Int) < (q.length : Int) := by omega
  obtain ⟨zs, hzs⟩ : ∃ zs, q.getD kn [] = zs := ⟨_, rfl⟩
  rw [hzs] at c0 hr HZL HW ⊢
  obtain ⟨m, hm⟩ : ∃ m, zs.length = m := ⟨_, rfl⟩
  have HM := Lib.hid hm
  rw [hm] at c0 hr
  have hm1000 : m ≤ 1000 := by have := HZL.out; omega
  have HRR := Lib.hid hr
  generalize q.length = n at *
  clear hi0 hz0 hz1 hz2 hqs hl hi hc hv2 hz hh HWI hr hzs hm hk
  go_enter Try.func81, Try.ntmps81
  go_wp2_with fail
  refine HC.out.mono ?_
  rintro e w' ⟨rfl, rfl⟩
  rw [HE.out]
  clear HC HE
  go_wp2_with fail
  refine HH.out.mono ?_
  rintro e w' ⟨rfl, rfl⟩
  rw [HB.out]
  clear HH HB
  go_wp2_with fail
  go_loopw [8, 27] (fun s8 s27 wr => ∃ (j : Nat) (out : List Int), j ≤ m ∧ s27 = .int .i64 (j : Int) ∧ out = (zs.take j).filter (fun x => decide (x ≠ a)) ∧ out.length ≤ j ∧ wr.ownsRow w.heap.size 3 1 s8 out.length (out.map (Value.int .i64)) ∧ Below w.heap.size w wr) (fun _ s27 _ => m - (intOf s27).toNat)
  case atStart => exact ⟨0, [], Nat.zero_le _, rfl, rfl, Nat.le_refl _, World.ownsRow_nil _ _ _ _, Below.refl _ _⟩
  case round =>
    obtain ⟨j, out, hj, rfl, hout, hol, hrow, hb⟩ := hrel
    have HO := Lib.hid hout
    clear hout
    have hs := hb.size
    have HB2 := Lib.hid hb
    have HRW := Lib.hid hrow
    by_cases hjm : j < m
    · rcases HRR.out with h0 | ⟨b2, off2, rfl, hlt2, hc2⟩
      · omega
      obtain ⟨y, hy⟩ : ∃ y, zs.getD j 0 = y := ⟨_, rfl⟩
      have c2 := (hb.cell (p := ⟨b2, off2 + j, none⟩) hlt2).trans (hc2 j hjm)
      rw [hy] at c2
      have HTK : Hid (zs.take (j + 1) = zs.take j ++ [y]) := Lib.hid (by rw [← hy]; exact take_next (by have := HM.out; omega))
      clear hc2 hy hb c0
      by_cases hya : y = a
      · have d : (y != a) = false := by simpa using hya
        have HN : Hid (out = (zs.take (j + 1)).filter (fun x => decide (x ≠ a))) := Lib.hid (by rw [HTK.out, List.filter_append, ← HO.out]; simp [hya])
        clear hya
        go_wp2_with fail
        go_roundw
        case rel => exact ⟨j + 1, out, by omega, by go_num, HN.out, by omega, HRW.out, HB2.out⟩
        case measure => simp [intOf]; omega
      · have d : (y != a) = true := by simpa using hya
        have HN : Hid (out ++ [y] = (zs.take (j + 1)).filter (fun x => decide (x ≠ a))) := Lib.hid (by rw [HTK.out, List.filter_append, ← HO.out]; simp [hya])
        clear hya
        go_wp2_with (at_builtin; refine wpList_append_own _ rfl _ _ 46 rfl w.heap.size 3 i0 (.int .i64 0) 1 8 Try.underlying46 HI.out HZ0.out HZ1.out HZ2.out rfl (by decide) _ _ _ rfl (hrow.alloc _) ⟨_, 0, none⟩ 1 1 [.int .i64 y] rfl rfl (cell_one_new _ _ _) (by simp [Value.oneCell']) (by unfold maxLen; omega) (by omega) (by simp; omega) ?_; intro v' w1 hown' hgrow _; have hhgrow := hgrow.size; simp at hhgrow)
        have HBW := Lib.hid (own_push HRW.out hgrow hs HB2.out)
        have HOW : Hid (w1.ownsRow w.heap.size 3 1 v' (out ++ [y]).length ((out ++ [y]).map (Value.int .i64))) := Lib.hid (by simpa using hown')
        have hle : (out ++ [y]).length ≤ j + 1 := by simp; omega
        clear hrow hown' hgrow hhgrow
        go_wp2_with fail
        go_roundw
        case rel => exact ⟨j + 1, out ++ [y], by omega, by go_num, HN.out, hle, HOW.out, HBW.out⟩
        case measure => simp [intOf]; omega
    · have hjm2 : j = m := by omega
      have HIA : Hid (IntsT wr u8 (zs.filter fun x => decide (x ≠ a))) := Lib.hid (by
        rw [← List.take_of_length_le (show zs.length ≤ j by have := HM.out; omega), ← HO.out]; exact own_intsT HRW.out)
      clear hb c0 hrow
      go_wp2_with fail
      refine (HW.out wr _ HB2.out HIA.out).mono ?_
      rintro e w3 ⟨v3, rfl, hq3, hb3⟩
      have HF := Lib.hid (And.intro hq3 (HB2.out.trans (hb3.mono hs)))
      clear hq3 hb3
      go_wp2_with fail
      go_ret2
      exact ⟨_, rfl, HF.out.1, HF.out.2⟩
end
end Go.Proofs.Ytfappdiipflpfaa.Bt
/- The statements' told: do the lists tell what the document says? (Written by gen_rle.py.) -/
namespace Go.Proofs.Ytfappdiipflpfaa.Bt
open Go Go.RowKit Go.Shelf
set_option linter.unusedVariables false
set_option linter.unusedSimpArgs false

theorem prs_length (h z : Nat) (l : List Nat) : (prs h z l).length = l.length + 1 := by
  induction l generalizing h z with
  | nil => rfl
  | cons m t ih => show (prs m 16 t).length + 1 = _; rw [ih]; rfl
def qOf (n : Nat) (ms : Nat → List Nat) : List (List Int) := (List.range n).map fun k => (ms k).map fun c : Nat => (c : Int)
theorem qOf_length (n : Nat) (ms : Nat → List Nat) : (qOf n ms).length = n := by simp [qOf]
theorem qOf_get {n k : Nat} (ms : Nat → List Nat) (h : k < n) : (qOf n ms).getD k [] = (ms k).map fun c : Nat => (c : Int) := by
  rw [List.getD_eq_getElem?_getD]; simp [qOf, h]
/-- the lists 0 to n - 1 -/
def AllK (s : ASt) (va vs n : Nat) (ms : Nat → List Nat) : Prop := ∀ k, k < n → LsK s va vs (k : Int) (va + 8 * k) (ms k)
theorem atV_nil : atV [] 1 = 0 := rfl
def hd0 : List Nat → Int
  | [] => 0
  | c :: _ => (c : Int)
theorem atV_one (h z : Nat) (ms : List Nat) (hp : ∀ m ∈ ms, 0 < m) : atV (prs h z ms) 1 = hd0 ms := by
  unfold atV
  rw [find_prs h z ms 1 hp]
  cases ms with
  | nil => rfl
  | cons c t => show ((fnd h z (c :: t) 1).2.2 : Int) = _; unfold fnd; rw [if_pos (by have := hp c (by simp); omega)]; rfl
/-- between two rounds -/
def ToldR (A B n va vs : Nat) (w : World) (s5 : Value) (wr : World) : Prop :=
  ∃ k : Int, s5 = .int .i64 k ∧ -1 ≤ k ∧ k ≤ (n : Int) + 1 ∧ Below w.heap.size w wr ∧ wr.heap[B]? = some (.cells #[.pointer (some ⟨A, 0, none⟩), .int .i64 (va : Int), .int .i64 (vs : Int)] 115 (0, 0))
theorem irow_nil (w : World) : IntsRow w none [] := .inl rfl

set_option maxRecDepth 100000 in
set_option maxHeartbeats 8000000 in
theorem told_any {A : Nat} {s : ASt} {w : World} (h : On A s w) (va vs n : Nat) (h1 : va ≤ 4294967296) (h2 : vs ≤ 4294967296) (hn : n ≤ 1000) (hv : vs / 8 = n) (ms : Nat → List Nat) (hk : AllK s va vs n ms) (hml : ∀ k, k < n → (ms k).length ≤ 1000) (v : Value) (hq : QsAt w v (qOf n ms)) :
    Calls Try.prog 84 #[lsP (some ⟨A, 0, none⟩) va vs, v] w (Gives (.bool true) w) := by
  obtain ⟨p, cap, vals, rfl, hl, hi, hc⟩ := hq
  rw [qOf_length] at hl hi hc ⊢
  have HO := Lib.hid h
  have HK := Lib.hid hk
  have HV := Lib.hid hv
  have HI : Hid (∀ k, k < n → IntsAt w (vals.getD k undef) ((ms k).map fun c : Nat => (c : Int))) := Lib.hid fun k hk2 => by have := (hi k hk2).at; rwa [qOf_get ms hk2] at this
  have HC := Lib.hid hc
  have HML := Lib.hid hml
  have HLL := Lib.hid (fun w => llen_any (some ⟨A, 0, none⟩) va vs h2 w)
  clear h hk hv hl hi hc hml
  go_enter Try.func84, Try.ntmps84
  go_wp2_with fail
  obtain ⟨B, hB⟩ : ∃ B, w.heap.size = B := ⟨_, rfl⟩
  have HS : Hid (ToldR A B n va vs w (.int .i64 (-1)) (w.alloc (.cells #[.pointer (some ⟨A, 0, none⟩), .int .i64 (va : Int), .int .i64 (vs : Int)] 115))) := Lib.hid ⟨-1, rfl, by omega, by omega, bel1 _ _, hB ▸ heap_new _ _⟩
  rw [hB]
  have HBB := Lib.hid hB
  clear hB
  go_loopw [5] (fun s5 wr => ToldR A B n va vs w s5 wr) (fun s5 _ => ((n : Int) + 1 - intOf s5).toNat)
  case atStart => exact HS.out
  case round =>
    clear HS
    obtain ⟨k, rfl, hk1, hk2, hb, hbx⟩ := hrel
    have HBW := Lib.hid hb
    have HBX := Lib.hid hbx
    have c0 := (cell_blk hbx 0).1; have c1 := (cell_blk hbx 1).1; have c2 := (cell_blk hbx 2).1
    clear hb hbx
    have hor : (n : Int) < k ∨ (k < 0 ∨ k = n) ∨ ∃ kn : Nat, k = kn ∧ kn < n := by
      by_cases e1 : k < 0
      · exact .inr (.inl (.inl e1))
      · by_cases e2 : k < n
        · exact .inr (.inr ⟨k.toNat, by omega, by omega⟩)
        · by_cases e3 : k = n
          · exact .inr (.inl (.inr e3))
          · exact .inl (by omega)
    rcases hor with hgt | hout | ⟨kn, rfl, hkn⟩
    · -- behind the last
      go_wp2_with fail
      refine (HLL.out _).mono ?_
      rintro e w3 ⟨rfl, hb⟩
      rw [HV.out]
      have HF := Lib.hid (HBW.out.trans (hb.mono HBW.out.size))
      clear hb c0 c1 c2
      go_wp2_with fail
      go_ret
      exact ⟨rfl, HF.out⟩
    · -- no such list
      have HLK : Hid (LkL s va vs k []) := Lib.hid (.inl ⟨by have := HV.out; omega, rfl⟩)
      have HTO : Hid (toL [] = []) := Lib.hid rfl
      have HAT : Hid (atV [] 1 = 0) := Lib.hid rfl
      have HWR : Hid (∀ x : World, Below w.heap.size w x → IntsRow x none []) := Lib.hid fun _ _ => .inl rfl
      have hkm : k ≤ (n : Int) := by omega
      have hrg : k < 0 ∨ (¬ k < 0 ∧ (n : Int) ≤ k) := by omega
      clear hout
      rcases hrg with hng | ⟨hng, hnn⟩
      · go_wp2_with fail
        refine (lfirst (HO.out.below HBW.out) va vs h1 h2 _ [] HLK.out).mono ?_
        rintro e w3 ⟨rfl, hb⟩
        rw [HAT.out]
        have HB3 := Lib.hid (HBW.out.trans (hb.mono HBW.out.size))
        have hbx3 := blk_on (A := A) hb HBX.out
        have HBX3 := Lib.hid hbx3
        clear hb c0 c1 c2
        have c0 := (cell_blk hbx3 0).1; have c1 := (cell_blk hbx3 1).1; have c2 := (cell_blk hbx3 2).1
        clear hbx3
        go_wp2_with fail
        refine (lall (HO.out.below HB3.out) va vs h1 h2 _ [] HLK.out (by simp)).mono ?_
        rintro e w4 ⟨v4, rfl, hi4, hb⟩
        rw [HTO.out] at hi4
        obtain ⟨p4, cap4, rfl, hr4⟩ := ints_len hi4
        have HB4 := Lib.hid (HB3.out.trans (hb.mono HB3.out.size))
        have hbx4 := blk_on (A := A) hb HBX3.out
        have HBX4 := Lib.hid hbx4
        have HEQ := Lib.hid (equal_any p4 none cap4 0 0 0 ([] : List Int) ([] : List Int) rfl rfl (by omega) w4 hr4 (HWR.out _ HB4.out))
        have HTT : Hid ((([] : List Int) == ([] : List Int)) = true) := Lib.hid (by rw [beq_iff_eq])
        clear hb hi4 hr4 hbx4 c0 c1 c2
        go_wp2_with fail
        refine HEQ.out.mono ?_
        rintro e w5 ⟨rfl, nd, hw5⟩
        rw [HTT.out]
        have bD : Below w4.heap.size w4 w5 := by rw [hw5]; exact below_drewN (Below.refl _ _) nd
        have HB5 := Lib.hid (HB4.out.trans (bD.mono HB4.out.size))
        have HBX5 := Lib.hid (blk_on (A := A) bD HBX4.out)
        clear hw5 bD
        go_wp2_with fail
        go_roundw
        case rel => exact ⟨_, rfl, by omega, by omega, HB5.out, HBX5.out⟩
        case measure => simp [intOf]; omega
      · go_wp2_with fail
        refine (lfirst (HO.out.below HBW.out) va vs h1 h2 _ [] HLK.out).mono ?_
        rintro e w3 ⟨rfl, hb⟩
        rw [HAT.out]
        have HB3 := Lib.hid (HBW.out.trans (hb.mono HBW.out.size))
        have hbx3 := blk_on (A := A) hb HBX.out
        have HBX3 := Lib.hid hbx3
        clear hb c0 c1 c2
        have c0 := (cell_blk hbx3 0).1; have c1 := (cell_blk hbx3 1).1; have c2 := (cell_blk hbx3 2).1
        clear hbx3
        go_wp2_with fail
        refine (lall (HO.out.below HB3.out) va vs h1 h2 _ [] HLK.out (by simp)).mono ?_
        rintro e w4 ⟨v4, rfl, hi4, hb⟩
        rw [HTO.out] at hi4
        obtain ⟨p4, cap4, rfl, hr4⟩ := ints_len hi4
        have HB4 := Lib.hid (HB3.out.trans (hb.mono HB3.out.size))
        have hbx4 := blk_on (A := A) hb HBX3.out
        have HBX4 := Lib.hid hbx4
        have HEQ := Lib.hid (equal_any p4 none cap4 0 0 0 ([] : List Int) ([] : List Int) rfl rfl (by omega) w4 hr4 (HWR.out _ HB4.out))
        have HTT : Hid ((([] : List Int) == ([] : List Int)) = true) := Lib.hid (by rw [beq_iff_eq])
        clear hb hi4 hr4 hbx4 c0 c1 c2
        go_wp2_with fail
        refine HEQ.out.mono ?_
        rintro e w5 ⟨rfl, nd, hw5⟩
        rw [HTT.out]
        have bD : Below w4.heap.size w4 w5 := by rw [hw5]; exact below_drewN (Below.refl _ _) nd
        have HB5 := Lib.hid (HB4.out.trans (bD.mono HB4.out.size))
        have HBX5 := Lib.hid (blk_on (A := A) bD HBX4.out)
        clear hw5 bD
        go_wp2_with fail
        go_roundw
        case rel => exact ⟨_, rfl, by omega, by omega, HB5.out, HBX5.out⟩
        case measure => simp [intOf]; omega
    · have hkm : (kn : Int) ≤ (n : Int) := by omega
      have hk0 : 0 ≤ (kn : Int) := by omega
      have hkl : (kn : Int) < (n : Int) := by omega
      rcases HC.out with h0 | ⟨b, off, rfl, ⟨_, _, hblk⟩, hc⟩
      · omega
      have hlt := (Array.getElem?_eq_some_iff.1 hblk).1
      have cw := (HBW.out.cell (p := ⟨b, off + kn, none⟩) hlt).trans (hc kn hkn)
      obtain ⟨p3, cap3, hv3, hr3⟩ := ints_cells (HI.out kn hkn)
      rw [hv3, List.length_map] at cw
      have hls := HK.out kn hkn
      have HLK := Lib.hid hls.lk
      have HGT := Lib.hid hls.ch.gt
      have HTO := Lib.hid (toL_prs (va + 8 * kn) 8 (ms kn) hls.ch.gt)
      have HAT := Lib.hid (atV_one (va + 8 * kn) 8 (ms kn) hls.ch.gt)
      have hmlk := HML.out kn hkn
      have HR3 := Lib.hid hr3
      generalize ms kn = mk at *
      clear hc hv3 hr3 hls hblk
      cases mk with
      | nil =>
        have HAT2 := HAT
        clear HAT
        have HAT : Hid (atV (prs (va + 8 * kn) 8 []) 1 = 0) := Lib.hid HAT2.out
        clear HAT2
        have HWR : Hid (∀ x : World, Below w.heap.size w x → IntsRow x p3 []) := Lib.hid fun _ _ => .inl rfl
        clear hmlk
        simp only [List.length_nil] at cw
        go_wp2_with fail
        refine (lfirst (HO.out.below HBW.out) va vs h1 h2 _ (prs (va + 8 * kn) 8 []) HLK.out).mono ?_
        rintro e w3 ⟨rfl, hb⟩
        rw [HAT.out]
        have HB3 := Lib.hid (HBW.out.trans (hb.mono HBW.out.size))
        have hbx3 := blk_on (A := A) hb HBX.out
        have HBX3 := Lib.hid hbx3
        clear hb c0 c1 c2
        have c0 := (cell_blk hbx3 0).1; have c1 := (cell_blk hbx3 1).1; have c2 := (cell_blk hbx3 2).1
        clear hbx3
        go_wp2_with fail
        refine (lall (HO.out.below HB3.out) va vs h1 h2 _ (prs (va + 8 * kn) 8 []) HLK.out (by simp [prs])).mono ?_
        rintro e w4 ⟨v4, rfl, hi4, hb⟩
        rw [HTO.out] at hi4
        obtain ⟨p4, cap4, rfl, hr4⟩ := ints_len hi4
        have HB4 := Lib.hid (HB3.out.trans (hb.mono HB3.out.size))
        have hbx4 := blk_on (A := A) hb HBX3.out
        have HBX4 := Lib.hid hbx4
        have HEQ := Lib.hid (equal_any p4 p3 cap4 cap3 0 0 (List.map (fun c : Nat => (c : Int)) []) (List.map (fun c : Nat => (c : Int)) []) rfl rfl (by omega) w4 hr4 (HWR.out _ HB4.out))
        have HTT : Hid (((List.map (fun c : Nat => (c : Int)) []) == (List.map (fun c : Nat => (c : Int)) [])) = true) := Lib.hid (by rw [beq_iff_eq])
        clear hb hi4 hr4 hbx4 c0 c1 c2
        go_wp2_with fail
        refine HEQ.out.mono ?_
        rintro e w5 ⟨rfl, nd, hw5⟩
        rw [HTT.out]
        have bD : Below w4.heap.size w4 w5 := by rw [hw5]; exact below_drewN (Below.refl _ _) nd
        have HB5 := Lib.hid (HB4.out.trans (bD.mono HB4.out.size))
        have HBX5 := Lib.hid (blk_on (A := A) bD HBX4.out)
        clear hw5 bD
        go_wp2_with fail
        go_roundw
        case rel => exact ⟨_, rfl, by omega, by omega, HB5.out, HBX5.out⟩
        case measure => simp [intOf]; omega
      | cons c t =>
        have HAT2 := HAT
        clear HAT
        have HAT : Hid (atV (prs (va + 8 * kn) 8 (c :: t)) 1 = (c : Int)) := Lib.hid HAT2.out
        clear HAT2
        rcases HR3.out with h0 | ⟨b3, off3, rfl, hlt3, hc3⟩
        · simp at h0
        have HWR : Hid (∀ x : World, Below w.heap.size w x → IntsRow x (some ⟨b3, off3, none⟩) ((c :: t).map fun d : Nat => (d : Int))) := Lib.hid fun x hx => .inr ⟨b3, off3, rfl, Nat.lt_of_lt_of_le hlt3 hx.size, fun j hj => (hx.cell (p := ⟨b3, off3 + j, none⟩) hlt3).trans (hc3 j hj)⟩
        have HWC : Hid (∀ x : World, Below w.heap.size w x → x.cell? ⟨b3, off3, none⟩ = some (.int .i64 (c : Int))) := Lib.hid fun x hx => (hx.cell (p := ⟨b3, off3, none⟩) hlt3).trans (hc3 0 (by simp))
        have hcp : 0 < (c : Int) := by have := HGT.out c (by simp); omega
        obtain ⟨L, hL⟩ : ∃ L, (c :: t).length = L := ⟨_, rfl⟩
        have hLp : 0 < L := by rw [← hL]; simp
        have HLN := Lib.hid hL
        rw [hL] at cw hmlk
        clear hc3 hL
        go_wp2_with fail
        refine (lfirst (HO.out.below HBW.out) va vs h1 h2 _ (prs (va + 8 * kn) 8 (c :: t)) HLK.out).mono ?_
        rintro e w3 ⟨rfl, hb⟩
        rw [HAT.out]
        have HB3 := Lib.hid (HBW.out.trans (hb.mono HBW.out.size))
        have hbx3 := blk_on (A := A) hb HBX.out
        have HBX3 := Lib.hid hbx3
        clear hb c0 c1 c2
        have c0 := (cell_blk hbx3 0).1; have c1 := (cell_blk hbx3 1).1; have c2 := (cell_blk hbx3 2).1
        clear hbx3
        go_wp2_with fail
        refine (lall (HO.out.below HB3.out) va vs h1 h2 _ (prs (va + 8 * kn) 8 (c :: t)) HLK.out (by rw [prs_length, HLN.out]; omega)).mono ?_
        rintro e w4 ⟨v4, rfl, hi4, hb⟩
        rw [HTO.out] at hi4
        obtain ⟨p4, cap4, rfl, hr4⟩ := ints_len hi4
        have HB4 := Lib.hid (HB3.out.trans (hb.mono HB3.out.size))
        have hbx4 := blk_on (A := A) hb HBX3.out
        have HBX4 := Lib.hid hbx4
        have HEQ := Lib.hid (equal_any p4 (some ⟨b3, off3, none⟩) cap4 cap3 L L (List.map (fun c : Nat => (c : Int)) (c :: t)) (List.map (fun c : Nat => (c : Int)) (c :: t)) (by rw [List.length_map, HLN.out]) (by rw [List.length_map, HLN.out]) (by omega) w4 hr4 (HWR.out _ HB4.out))
        have HTT : Hid (((List.map (fun c : Nat => (c : Int)) (c :: t)) == (List.map (fun c : Nat => (c : Int)) (c :: t))) = true) := Lib.hid (by rw [beq_iff_eq])
        rw [List.length_map, HLN.out]
        clear hb hi4 hr4 hbx4 c0 c1 c2
        go_wp2_with fail
        refine HEQ.out.mono ?_
        rintro e w5 ⟨rfl, nd, hw5⟩
        rw [HTT.out]
        have bD : Below w4.heap.size w4 w5 := by rw [hw5]; exact below_drewN (Below.refl _ _) nd
        have HB5 := Lib.hid (HB4.out.trans (bD.mono HB4.out.size))
        have HBX5 := Lib.hid (blk_on (A := A) bD HBX4.out)
        have cz := HWC.out w5 HB5.out
        clear hw5 bD
        go_wp2_with fail
        go_roundw
        case rel => exact ⟨_, rfl, by omega, by omega, HB5.out, HBX5.out⟩
        case measure => simp [intOf]; omega
end Go.Proofs.Ytfappdiipflpfaa.Bt
/- The acts that came in; place; the rows that make lays; what adding and removing come to. (Written by gen_rlf.py.) -/
namespace Go.Proofs.Ytfappdiipflpfaa.Bt
open Go Go.RowKit Go.Shelf Go.ChangeShapes Go.WideShapes Go.Deep
set_option linter.unusedVariables false

structure Act7 where
  out : Bool
  k : Int
  at_ : Int
def Act7.ok (a : Act7) : Prop := -9223372036854775808 ≤ a.k ∧ a.k ≤ 9223372036854775807 ∧ 0 ≤ a.at_ ∧ a.at_ ≤ 65535
def Act7Cells (w : World) (b off : Nat) (a : Act7) : Prop :=
  w.cell? ⟨b, off, none⟩ = some (.bool a.out) ∧ w.cell? ⟨b, off + 1, none⟩ = some (.int .i64 a.k) ∧ w.cell? ⟨b, off + 2, none⟩ = some (.int .u16 a.at_)
def Acts7At (w : World) (p : Option Addr) (acts : List Act7) : Prop :=
  (acts = []) ∨ ∃ b off, p = some ⟨b, off, none⟩ ∧ b < w.heap.size ∧ ∀ i (h : i < acts.length), Act7Cells w b (off + i * 3) acts[i] ∧ acts[i].ok
theorem Try.cellsAct7 : Try.prog.cellsOf 120 = 3 := by kernel_rfl
theorem Try.cellsU16 : Try.prog.cellsOf 93 = 1 := by kernel_rfl

set_option maxRecDepth 100000 in
theorem acts7_open {H : Type} {enc : TypeId × Value → H} {w : World} {fuel : Nat} {v : Value} {x : DataW H × List MemPlace} {a : Option Addr} {len cap : Nat} (hv : v = .slice a len cap)
    (h : DataW.trod enc Try.prog w 0 (fun _ => true) true fuel 114 v.cells.toList = some x) : ∃ acts : List Act7, acts.length = len ∧ len ≤ 9223372036854775807 ∧ Acts7At w a acts := by
  subst hv
  rcases open_slice Try.underlying114 h with ⟨h1, _⟩ | ⟨ad, len', cap', m, n, D, Pl, h1, _, hl, hm, hmm, _, hi⟩
  · simp [Value.cells] at h1
    exact ⟨[], by simp [h1.2.1], by omega, .inl rfl⟩
  · simp [Value.cells] at h1
    obtain ⟨rfl, rfl, rfl⟩ := h1
    unfold maxLen at hm
    have hlm : len ≤ m := by rw [hmm]; simp; omega
    have key : ∀ i, i < len → ∃ act : Act7, act.ok ∧ w.cell? (ad.add (i * 3)) = some (.bool act.out) ∧ w.cell? (ad.add (i * 3 + 1)) = some (.int .i64 act.k) ∧ w.cell? (ad.add (i * 3 + 2)) = some (.int .u16 act.at_) := by
      intro i hilt
      obtain ⟨cs', hc, ht⟩ := hi i (by omega)
      rw [Try.cellsAct7] at hc
      obtain ⟨_, hcl, hat⟩ := World.cells?_some hc
      obtain ⟨y0, y1, y2, k, _, _, e0, e1, e2⟩ := trod_struct3 Try.underlying120 ht
      match cs', hcl with
      | [c0, c1, c2], _ =>
        simp only [Try.cellsBool, Try.cellsInt, Try.cellsU16, List.drop_zero, List.drop_succ_cons, List.take_succ_cons, List.take_zero] at e0 e1 e2
        obtain ⟨bb, hb, _⟩ := DataW.trod_bool Try.underlying4 e0
        obtain ⟨f, hf, _, wf⟩ := DataW.trod_int Try.underlying3 e1
        obtain ⟨g, hg, _, wg⟩ := DataW.trod_int Try.underlying93 e2
        simp only [List.cons.injEq, and_true] at hb hf hg
        subst hb hf hg
        have b1 := bounds_i64 wf
        have b2 := bounds_u16 wg
        have a0 := hat 0 (by omega)
        have a1 := hat 1 (by omega)
        have a2 := hat 2 (by omega)
        rw [add_add] at a0 a1 a2
        exact ⟨⟨bb, f, g⟩, ⟨b1.1, b1.2, b2.1, b2.2⟩, by simpa using a0, by simpa using a1, by simpa using a2⟩
    refine ⟨(List.range len).attach.map fun i => Classical.choose (key i.1 (List.mem_range.1 i.2)), by simp, by omega, ?_⟩
    by_cases h0 : len = 0
    · subst h0; exact .inl rfl
    · have k0 := (Classical.choose_spec (key 0 (by omega))).2.1
      obtain ⟨b, off, spot⟩ := ad
      have hspot : spot = none := by simpa [Addr.add] using World.cell?_spot k0
      subst hspot
      refine .inr ⟨b, off, rfl, World.block_lt_of_cell? _ _ (by simpa [Addr.add] using k0), fun i hil => ?_⟩
      have hil' : i < len := by simpa using hil
      have ks := Classical.choose_spec (key i hil')
      have eA : ∀ j, (⟨b, off, none⟩ : Addr).add j = ⟨b, off + j, none⟩ := fun j => by
        simp only [Addr.add]; split <;> simp_all
      simp only [List.getElem_map, List.getElem_attach, List.getElem_range]
      exact ⟨⟨(congrArg w.cell? (eA _).symm).trans ks.2.1, (congrArg w.cell? (eA (i * 3 + 1)).symm).trans ks.2.2.1, (congrArg w.cell? (eA (i * 3 + 2)).symm).trans ks.2.2.2⟩, ks.1⟩

/-- the member of an act -/
def plA (a : Int) : Nat := 4096 + 16 * (a.toNat % 512)
theorem place_any (o : Bool) (k a : Int) (h0 : 0 ≤ a) (h1 : a ≤ 65535) (w : World) :
    Calls Try.prog 78 #[.agg #[.bool o, .int .i64 k, .int .u16 a]] w (Gives (.tuple #[.int .i64 (plA a : Int), .bool (decide (plA a < 8192))]) w) := by
  obtain ⟨an, rfl⟩ : ∃ an : Nat, a = an := ⟨a.toNat, by omega⟩
  obtain ⟨r, hr⟩ : ∃ r, an % 512 = r := ⟨_, rfl⟩
  obtain ⟨x, hx⟩ : ∃ x, plA (an : Int) = x := ⟨_, rfl⟩
  have hrx : x = 4096 + 16 * r := by rw [← hx, ← hr]; unfold plA; rw [Int.toNat_natCast]
  have q0 : (an : Int) % 512 = (r : Int) := by omega
  have q1 : (an : Int).tmod 512 = (r : Int) := by rw [Int.tmod_eq_emod_of_nonneg (by omega)]; exact q0
  have q2 : r < 512 := by omega
  have q3 : 4096 + 16 * (r : Int) = (x : Int) := by omega
  have HX := Lib.hid hx
  clear hx hr hrx
  go_enter Try.func78, Try.ntmps78
  go_wp2_with fail
  go_ret2
  refine ⟨?_, (Below.refl _ _).alloc (Nat.le_refl _) _⟩
  rw [HX.out, show decide (x < 8192) = decide ((x : Int) < 8192) from by rw [decide_eq_decide]; omega]
  rfl
/-- rows without numbers -/
def slC (n : Nat) : Array Value := madeCells (Value.slice none 0 0).cells (n * 1)
theorem run_qs (n : Nat) (hn : n ≤ 1000) (w : World) :
    (Instr.makeSlice 118 (.int .i64 (n : Int)) (.int .i64 (n : Int))).run Try.prog w = .ok (.slice (some ⟨w.heap.size, 0, none⟩) n n) (w.alloc (.cells (slC n) 46)) := by
  obtain ⟨i0, hi, hz0, hz1, hz2⟩ := info_parts Try.infoSl
  have h := run_make (P := Try.prog) w 118 46 i0 (.slice none 0 0) Try.underlying118 hi hz0 .i64 .i64 (n : Int) n (by omega) (Int.le_refl _) (by rw [hz2]; omega) (by omega)
  rw [Int.toNat_natCast, hz1] at h
  exact h
theorem slC_get (n i : Nat) (h : i < n) : (slC n)[i]? = some (.slice none 0 0) := by simp [slC, madeCells, Value.cells, h, Nat.mod_one]
theorem qs_new (n : Nat) (w : World) (b : Nat) (h : w.heap[b]? = some (.cells (slC n) 46 (0, 0))) : QsAt w (.slice (some ⟨b, 0, none⟩) n n) (qOf n fun _ => []) := by
  refine ⟨_, n, List.replicate n (.slice none 0 0), by rw [qOf_length], by simp [qOf_length], fun i hi => ?_, .inr ⟨b, 0, rfl, ⟨_, _, h⟩, fun i hi => ?_⟩⟩
  · rw [qOf_length] at hi
    rw [qOf_get _ hi, List.getD_eq_getElem?_getD, List.getElem?_replicate, if_pos hi]
    exact .inl ⟨rfl, rfl⟩
  · rw [qOf_length] at hi
    rw [Nat.zero_add, (cell_blk h i).1, slC_get n i hi, List.getD_eq_getElem?_getD, List.getElem?_replicate, if_pos hi]; rfl

/-! what an act comes to -/
def setL (ms : Nat → List Nat) (kn : Nat) (l : List Nat) : Nat → List Nat := fun k => if k = kn then l else ms k
theorem qOf_set {n kn : Nat} (ms : Nat → List Nat) (l : List Nat) (h : kn < n) : (qOf n ms).set kn (l.map fun c : Nat => (c : Int)) = qOf n (setL ms kn l) := by
  apply List.ext_getElem?
  intro i
  by_cases hi : i < n
  · by_cases e : kn = i
    · subst e
      rw [List.getElem?_set_self (by rw [qOf_length]; exact h)]
      simp [qOf, h, setL]
    · rw [List.getElem?_set_ne e]
      simp [qOf, hi, setL, Ne.symm e]
  · rw [List.getElem?_eq_none (by rw [List.length_set, qOf_length]; omega), List.getElem?_eq_none (by rw [qOf_length]; omega)]
theorem insI_ins (x : Nat) : ∀ l : List Nat, x ∉ l → insI (x : Int) (l.map fun c : Nat => (c : Int)) = (ins x l).map fun c : Nat => (c : Int)
  | [], _ => rfl
  | m :: t, h => by
    have h1 : x ≠ m := fun e => h (by simp [e])
    have h2 := insI_ins x t fun e => h (List.mem_cons_of_mem _ e)
    show insI (x : Int) ((m : Int) :: t.map fun c : Nat => (c : Int)) = _
    unfold insI ins
    by_cases e : x ≤ m
    · rw [if_pos (by omega), if_pos e]; rfl
    · rw [if_neg (by omega), if_neg e, h2]; rfl
theorem filter_erase (x : Nat) : ∀ l : List Nat, l.Nodup → (l.map fun c : Nat => (c : Int)).filter (fun y => decide (y ≠ (x : Int))) = (l.erase x).map fun c : Nat => (c : Int)
  | [], _ => rfl
  | m :: t, h => by
    have h1 := List.nodup_cons.1 h
    have h2 := filter_erase x t h1.2
    by_cases e : m = x
    · subst e
      rw [List.erase_cons_head, List.map_cons, List.filter_cons_of_neg (by simp)]
      rw [List.filter_eq_self.2]
      intro y hy
      obtain ⟨c, hc, rfl⟩ := List.mem_map.1 hy
      simp
      intro e
      have e2 : c = m := by omega
      subst e2
      exact h1.1 hc
    · rw [List.erase_cons_tail (by simpa using e), List.map_cons, List.filter_cons_of_pos (by simp; omega), h2, List.map_cons]
theorem hasQ_qOf {n : Nat} (ms : Nat → List Nat) (kn x : Nat) (h : kn < n) : hasQ (qOf n ms) kn x = decide (x ∈ ms kn) := by
  unfold hasQ inQ
  rw [qOf_length, decide_eq_true (show 0 ≤ (kn : Int) ∧ (kn : Int) < n by omega), Int.toNat_natCast, qOf_get ms h, Bool.true_and]
  rw [Bool.eq_iff_iff, decide_eq_true_iff, decide_eq_true_iff, List.mem_map]
  constructor
  · rintro ⟨c, hc, e⟩; rwa [show x = c by omega]
  · intro hx; exact ⟨x, hx, rfl⟩
theorem hasQ_out {n : Nat} (ms : Nat → List Nat) (k a : Int) (h : ¬ (0 ≤ k ∧ k < n)) : hasQ (qOf n ms) k a = false := by
  unfold hasQ inQ; rw [qOf_length, decide_eq_false h]; rfl
/-- between two acts: the lists in memory, apart from one another -/
structure Play (A : Nat) (n vs : Nat) (i : Nat) (m : Nat → UInt8) (ms : Nat → List Nat) (qv : Value) (wr : World) : Prop where
  k : AllK (twoS m) 64 vs n ms
  q : QsAt wr qv (qOf n ms)
  mul : ∀ k, k < n → ∀ c ∈ ms k, 4096 ≤ c ∧ c % 16 = 0
  one : ∀ k k', k < n → k' < n → k ≠ k' → ∀ c ∈ ms k, c ∉ ms k'
  len : ∀ k, k < n → (ms k).length ≤ i
theorem Play.below {A n vs i : Nat} {m : Nat → UInt8} {ms : Nat → List Nat} {qv : Value} {x y : World} (h : Play A n vs i m ms qv x) (hb : Below x.heap.size x y) : Play A n vs i m ms qv y := { h with q := h.q.below hb }
theorem Play.more {A n vs i j : Nat} {m : Nat → UInt8} {ms : Nat → List Nat} {qv : Value} {x : World} (h : Play A n vs i m ms qv x) (hj : i ≤ j) : Play A n vs j m ms qv x := { h with len := fun k hk => Nat.le_trans (h.len k hk) hj }
theorem head_off {n kn k' : Nat} (hn : n ≤ 13) (h1 : kn < n) (h2 : k' < n) (hne : kn ≠ k') : Off (64 + 8 * kn) (64 + 8 * k') := by omega
theorem Play.apart {A n vs i : Nat} {m : Nat → UInt8} {ms : Nat → List Nat} {qv : Value} {x : World} (h : Play A n vs i m ms qv x) (hn : n ≤ 13) {kn : Nat} (hk : kn < n) : Apart ((64 + 8 * kn) :: ms kn) := by
  have h1 := mul_apart (h.k kn hk).ch.sorted (h.mul kn hk)
  have h2 := List.pairwise_cons.1 h1
  exact List.pairwise_cons.2 ⟨fun c hc => by have := h.mul kn hk c hc; omega, h2.2⟩
theorem mul_off2 {ms : List Nat} {h0 : Nat} (hh : h0 + 8 ≤ 4096) (hm : ∀ c ∈ ms, 4096 ≤ c ∧ c % 16 = 0) {x : Nat} (h1 : 4096 ≤ x) (h2 : x % 16 = 0) (hx : x ∉ ms) : ∀ c ∈ h0 :: ms, x + 8 ≤ c ∨ c + 8 ≤ x := fun c hc => by
  rcases List.mem_cons.1 hc with rfl | hc
  · omega
  · have h3 := hm c hc
    have h4 : c ≠ x := fun e => hx (e ▸ hc)
    omega
theorem Play.offs {A n vs i : Nat} {m : Nat → UInt8} {ms : Nat → List Nat} {qv : Value} {x : World} (h : Play A n vs i m ms qv x) (hn : n ≤ 13) {kn k' : Nat} (hk : kn < n) (hk' : k' < n) (hne : kn ≠ k') : ∀ c ∈ (64 + 8 * k') :: ms k', ∀ d ∈ (64 + 8 * kn) :: ms kn, Off d c := fun c hc d hd => by
  have ho := head_off hn hk hk' hne
  rcases List.mem_cons.1 hc with rfl | hc <;> rcases List.mem_cons.1 hd with rfl | hd
  · exact ho
  · have := h.mul kn hk d hd; omega
  · have := h.mul k' hk' c hc; omega
  · have h1 := h.mul kn hk d hd
    have h2 := h.mul k' hk' c hc
    have h3 : d ≠ c := fun e => h.one kn k' hk hk' hne d hd (e ▸ hc)
    omega
end Go.Proofs.Ytfappdiipflpfaa.Bt
/- The walk of ListPlays. (Written by gen_rlg.py.) -/
namespace Go.Proofs.Ytfappdiipflpfaa.Bt
open Go Go.RowKit Go.Shelf Go.ChangeShapes Go.WideShapes Go.Deep
set_option linter.unusedVariables false
set_option linter.unusedSimpArgs false

/-- an act's variable -/
def VB (T : Nat) (y : Act7) (W : World) : Prop := W.heap[T]? = some (.cells #[.bool y.out, .int .i64 y.k, .int .u16 y.at_] 120 (0, 0))
/-- behind the loop's head -/
structure PS (R A T n vs i : Nat) (y : Act7) (m : Nat → UInt8) (ms : Nat → List Nat) (qv : Value) (w x : World) : Prop where
  l : LsV R A vs (twoS m) w x
  p : Play A n vs i m ms qv x
  t : VB T y x
theorem PS.below {R A T n vs i : Nat} {y : Act7} {m : Nat → UInt8} {ms : Nat → List Nat} {qv : Value} {w x z : World} (h : PS R A T n vs i y m ms qv w x) (hb : Below x.heap.size x z) : PS R A T n vs i y m ms qv w z :=
  ⟨h.l.below hb, h.p.below hb, blk_on (A := A) hb h.t⟩
theorem PS.cells {R A T n vs i : Nat} {y : Act7} {m : Nat → UInt8} {ms : Nat → List Nat} {qv : Value} {w x : World} (h : PS R A T n vs i y m ms qv w x) :
    x.cell? ⟨R, 0, none⟩ = some (.pointer (some ⟨A, 0, none⟩)) ∧ x.cell? ⟨R, 1, none⟩ = some (.int .i64 64) ∧ x.cell? ⟨R, 2, none⟩ = some (.int .i64 (vs : Int)) ∧ x.cell? ⟨T, 0, none⟩ = some (.bool y.out) ∧ x.cell? ⟨T, 1, none⟩ = some (.int .i64 y.k) ∧ x.cell? ⟨T, 2, none⟩ = some (.int .u16 y.at_) ∧ PS R A T n vs i y m ms qv w x :=
  ⟨(cell_blk h.l.v 0).1, (cell_blk h.l.v 1).1, (cell_blk h.l.v 2).1, (cell_blk h.t 0).1, (cell_blk h.t 1).1, (cell_blk h.t 2).1, h⟩
/-- a list turned -/
theorem PS.went {R A T n vs i : Nat} {y : Act7} {m m' : Nat → UInt8} {ms ms' : Nat → List Nat} {qv qv' : Value} {w x z z2 : World} (h : PS R A T n vs i y m ms qv w x) (ho : On A (twoS m') z) (hg : Went A x z) (hb : Below z.heap.size z z2) (hp : Play A n vs (i + 1) m' ms' qv' z2) : PS R A T n vs (i + 1) y m' ms' qv' w z2 :=
  ⟨(h.l.went ho hg).below hb, hp, blk_on (A := A) hb (hg.keep h.l.o h.t (by decide) (by decide) (by decide))⟩
def TailP (R A T n vs i : Nat) (y : Act7) (w : World) (s9 s16 s17 : Value) (wx : World) : Prop :=
  ∃ (er : Int) (m : Nat → UInt8) (ms : Nat → List Nat), s16 = .int .i64 er ∧ s17 = .int .i64 er ∧ PS R A T n vs (i + 1) y m ms s9 w wx
def PlR (R A n vs len : Nat) (w : World) (s9 s40 : Value) (wr : World) : Prop :=
  ∃ (i : Nat) (m : Nat → UInt8) (ms : Nat → List Nat), i ≤ len ∧ s40 = .int .i64 (i : Int) ∧ LsV R A vs (twoS m) w wr ∧ Play A n vs i m ms s9 wr
/-- is it a member elsewhere, of the first j lists? -/
def elseB (ms : Nat → List Nat) (k : Int) (x : Nat) : Nat → Bool
  | 0 => false
  | j + 1 => elseB ms k x j || (decide ((j : Int) ≠ k) && decide (x ∈ ms j))
theorem elseB_false {ms : Nat → List Nat} {k : Int} {x : Nat} : ∀ {n : Nat}, elseB ms k x n = false → ∀ t, t < n → (t : Int) ≠ k → x ∉ ms t
  | 0, _, t, h, _ => by omega
  | n + 1, h, t, ht, hk => by
    unfold elseB at h
    rw [Bool.or_eq_false_iff, Bool.and_eq_false_iff] at h
    by_cases e : t = n
    · subst e
      rcases h.2 with h2 | h2
      · exact absurd hk (by simpa using h2)
      · simpa using h2
    · exact elseB_false h.1 t (by omega) hk
/-- the links of list k, as find takes them; is it a member? -/
theorem has_both {A n vs i : Nat} {m : Nat → UInt8} {ms : Nat → List Nat} {qv : Value} {x : World} (h : Play A n vs i m ms qv x) (hv : vs / 8 = n) (k : Int) (a : Nat) (ha : 0 < a) : ∃ lp b, LkL (twoS m) 64 vs k lp ∧ hasV lp a = b ∧ hasQ (qOf n ms) k a = b := by
  by_cases hk : 0 ≤ k ∧ k < n
  · obtain ⟨kn, rfl⟩ : ∃ kn : Nat, k = kn := ⟨k.toNat, by omega⟩
    have hls := h.k kn (by omega)
    exact ⟨_, _, hls.lk, hasV_ch hls.ch a ha, hasQ_qOf ms kn a (by omega)⟩
  · exact ⟨[], false, .inl ⟨by omega, rfl⟩, hasV_zero rfl, hasQ_out ms k a hk⟩
/-- what adding comes to -/
theorem play_add {R A T n vs i kn x : Nat} {y : Act7} {m m' : Nat → UInt8} {ms : Nat → List Nat} {qv qv' : Value} {w wr w1 w2 : World} (h : PS R A T n vs i y m ms qv w wr) (hn : n ≤ 13) (hk : kn < n) (hx : 4096 ≤ x) (hx16 : x % 16 = 0) (hxm : x ∉ ms kn) (hel : ∀ t, t < n → (t : Int) ≠ (kn : Int) → x ∉ ms t)
    (ho : On A { twoS m with mm := m' } w1) (hg : Went A wr w1) (hl : LsK { twoS m with mm := m' } 64 vs kn (64 + 8 * kn) (ins x (ms kn)))
    (hoth : ∀ k' h1 ns, LsK (twoS m) 64 vs k' h1 ns → (∀ c ∈ h1 :: ns, Off x c ∧ ∀ d ∈ (64 + 8 * kn) :: ms kn, Off d c) → LsK { twoS m with mm := m' } 64 vs k' h1 ns)
    (hb : Below w1.heap.size w1 w2) (hq : QsAt w2 qv' ((qOf n ms).set kn (insI (x : Int) ((qOf n ms).getD kn [])))) : PS R A T n vs (i + 1) y m' (setL ms kn (ins x (ms kn))) qv' w w2 := by
  refine h.went (m' := m') ho hg hb ⟨fun t ht => ?_, ?_, fun t ht c hc => ?_, fun t t' ht ht' hne c hc hc' => ?_, fun t ht => ?_⟩
  · by_cases e : t = kn
    · subst e
      unfold setL; rw [if_pos rfl]; exact hl
    · unfold setL; rw [if_neg e]
      exact hoth t _ _ (h.p.k t ht) fun c hc => ⟨by
        rcases List.mem_cons.1 hc with rfl | hc
        · omega
        · have h1 := h.p.mul t ht c hc
          have h2 := hel t ht (by omega)
          have h3 : c ≠ x := fun e => h2 (e ▸ hc)
          omega, fun d hd => h.p.offs hn hk ht (Ne.symm e) c hc d hd⟩
  · rw [← qOf_set ms _ hk, ← insI_ins x _ hxm]
    rwa [qOf_get ms hk] at hq
  · by_cases e : t = kn
    · subst e
      unfold setL at hc; rw [if_pos rfl] at hc
      rcases (ins_mem x c _).1 hc with rfl | hc
      · exact ⟨hx, hx16⟩
      · exact h.p.mul t ht c hc
    · unfold setL at hc; rw [if_neg e] at hc; exact h.p.mul t ht c hc
  · have ex : ∀ u, u < n → u ≠ kn → x ∉ ms u := fun u hu hne2 => hel u hu (by omega)
    unfold setL at hc hc'
    by_cases e : t = kn
    · subst e
      rw [if_pos rfl] at hc; rw [if_neg (Ne.symm hne)] at hc'
      rcases (ins_mem x c _).1 hc with rfl | hc
      · exact ex t' ht' (Ne.symm hne) hc'
      · exact h.p.one t t' ht ht' hne c hc hc'
    · rw [if_neg e] at hc
      by_cases e2 : t' = kn
      · subst e2
        rw [if_pos rfl] at hc'
        rcases (ins_mem x c _).1 hc' with rfl | hc'
        · exact ex t ht e hc
        · exact h.p.one t t' ht ht' hne c hc hc'
      · rw [if_neg e2] at hc'; exact h.p.one t t' ht ht' hne c hc hc'
  · unfold setL
    split
    · rw [ins_length]; have := h.p.len kn hk; omega
    · have := h.p.len t ht; omega
theorem play_rem {R A T n vs i kn x : Nat} {y : Act7} {m m' : Nat → UInt8} {ms : Nat → List Nat} {qv qv' : Value} {w wr w1 w2 : World} (h : PS R A T n vs i y m ms qv w wr) (hn : n ≤ 13) (hk : kn < n)
    (ho : On A { twoS m with mm := m' } w1) (hg : Went A wr w1) (hl : LsK { twoS m with mm := m' } 64 vs kn (64 + 8 * kn) ((ms kn).erase x))
    (hoth : ∀ k' h1 ns, LsK (twoS m) 64 vs k' h1 ns → (∀ c ∈ h1 :: ns, ∀ d ∈ (64 + 8 * kn) :: ms kn, Off d c) → LsK { twoS m with mm := m' } 64 vs k' h1 ns)
    (hb : Below w1.heap.size w1 w2) (hq : QsAt w2 qv' ((qOf n ms).set kn (((qOf n ms).getD kn []).filter fun z => decide (z ≠ (x : Int))))) : PS R A T n vs (i + 1) y m' (setL ms kn ((ms kn).erase x)) qv' w w2 := by
  have hnd : (ms kn).Nodup := (h.p.k kn hk).ch.sorted.imp (fun {a b} (h : a < b) => Nat.ne_of_lt h)
  have hsub : ∀ t c, c ∈ setL ms kn ((ms kn).erase x) t → c ∈ ms t := fun t c hc => by
    unfold setL at hc
    by_cases e : t = kn
    · subst e; rw [if_pos rfl] at hc; exact List.mem_of_mem_erase hc
    · rw [if_neg e] at hc; exact hc
  refine h.went (m' := m') ho hg hb ⟨fun t ht => ?_, ?_, fun t ht c hc => h.p.mul t ht c (hsub t c hc), fun t t' ht ht' hne c hc hc' => h.p.one t t' ht ht' hne c (hsub t c hc) (hsub t' c hc'), fun t ht => ?_⟩
  · by_cases e : t = kn
    · subst e
      unfold setL; rw [if_pos rfl]; exact hl
    · unfold setL; rw [if_neg e]
      exact hoth t _ _ (h.p.k t ht) fun c hc d hd => h.p.offs hn hk ht (Ne.symm e) c hc d hd
  · rw [← qOf_set ms _ hk, ← filter_erase x _ hnd]
    rwa [qOf_get ms hk] at hq
  · have h1 := h.p.len t ht
    unfold setL
    split
    · rename_i e; subst e; have := List.length_erase_le (a := x) (l := ms t); omega
    · omega
end Go.Proofs.Ytfappdiipflpfaa.Bt
/- The walk of ListPlays: the law. (Written by gen_rlh.py.) -/
namespace Go.Proofs.Ytfappdiipflpfaa.Bt
open Go Go.RowKit Go.Shelf Go.ChangeShapes Go.WideShapes Go.Deep
set_option linter.unusedVariables false
set_option linter.unusedSimpArgs false

set_option maxHeartbeats 16000000 in
set_option maxRecDepth 100000 in
theorem plays7_all (a0 : Int) (h0 : 0 ≤ a0) (h255 : a0 ≤ 255) (p : Option Addr) (len cap : Nat) (acts : List Act7) (hlen : acts.length = len) (hl63 : len ≤ 9223372036854775807) (w : World) (hrow : Acts7At w p acts) :
    Calls Try.prog 16 #[.int .u8 a0, .slice p len cap] w (TrueAt w) := by
  obtain ⟨n, hn⟩ : ∃ n : Nat, (a0.toNat % 13) = n := ⟨_, rfl⟩
  have hn13 : n ≤ 12 := by omega
  have q0 : a0 % 13 = (n : Int) := by omega
  have q1 : a0.tmod 13 = (n : Int) := by rw [Int.tmod_eq_emod_of_nonneg h0]; exact q0
  obtain ⟨vs, hvs⟩ : ∃ vs : Nat, 8 * n + 3 = vs := ⟨_, rfl⟩
  have hv8 : vs / 8 = n := by omega
  have HV8 := Lib.hid hv8
  have hvb : vs ≤ 4294967296 := by omega
  have HR := Lib.hid hrow
  have HLN := Lib.hid hlen
  have HMK := Lib.hid (run_qs n (by omega))
  clear hrow hn hv8 hlen
  go_enter Try.func16, Try.ntmps16
  go_wp2_with fail
  refine (awake7 _).mono ?_
  rintro e w0 ⟨rfl, hb0⟩
  by_cases hl80 : 80 < len
  · have h80 : 80 < (len : Int) := by omega
    have HB0 := Lib.hid hb0
    clear hb0 q0 q1
    go_wp2_with fail
    go_ret
    exact ⟨rfl, HB0.out⟩
  have h80 : (len : Int) ≤ 80 := by omega
  have hlen80 : len ≤ 80 := by omega
  go_wp2_with fail
  refine (open7 n (by omega) _).mono ?_
  unfold OpenQ; rw [hvs]
  rintro e w1 ⟨A, rfl, hx, hb⟩
  obtain ⟨R, hRR⟩ : ∃ R, w1.heap.size = R := ⟨_, rfl⟩
  obtain ⟨w2, hw2⟩ : ∃ w2, w1.alloc (.cells #[.pointer (some ⟨A, 0, none⟩), .int .i64 64, .int .i64 (vs : Int)] 115) = w2 := ⟨_, rfl⟩
  have HV2 : Hid (LsV R A vs (twoS fun _ => 0) w w2) := Lib.hid (by rw [← hw2, ← hRR]; exact LsV.start hx (hb.rebase hb0))
  have HSZ : Hid (R + 1 = w2.heap.size) := Lib.hid (by rw [← hw2, ← hRR]; simp)
  have HW2 := Lib.hid hw2
  have hmk := HMK.out
  have HVS := Lib.hid hvs
  clear hx hb hw2 hb0 hl80 hl63 h0 h255 hvs q0 q1 HMK
  go_wp2_with fail
  rw [HW2.out]
  have HST : Hid (PlR R A n vs len w (.slice (some ⟨R + 1, 0, none⟩) n n) (.int .i64 0) (w2.alloc (.cells (slC n) 46))) := Lib.hid (by
    rw [HSZ.out]
    exact ⟨0, _, fun _ => [], Nat.zero_le _, rfl, HV2.out.below (bel1 _ _), ⟨fun k hk => ls_new vs k (by have := HV8.out; omega) (by have := HVS.out; omega), qs_new n _ _ (heap_new _ _), fun k _ c hc => (by cases hc), fun k k' _ _ _ c hc => (by cases hc), fun k _ => Nat.le_refl _⟩⟩)
  clear HW2 hRR HV2 hmk HSZ
  go_loopw [9, 40] (fun s9 s40 wr => PlR R A n vs len w s9 s40 wr) (fun _ s40 _ => len - (intOf s40).toNat)
  case atStart => exact HST.out
  case round =>
    clear HST
    obtain ⟨i, m, ms, hi, rfl, hv, hp⟩ := hrel
    by_cases hlt : i < len
    · rcases HR.out with he | ⟨b, off, rfl, hbl, hc⟩
      · have := HLN.out; rw [he] at this; simp at this; omega
      obtain ⟨y, hy⟩ : ∃ y, acts[i]'(by rw [HLN.out]; exact hlt) = y := ⟨_, rfl⟩
      obtain ⟨⟨a0_, a1_, a2_⟩, hyk1, hyk2, hya1, hya2⟩ := hc i (by rw [HLN.out]; exact hlt)
      rw [hy] at a0_ a1_ a2_ hyk1 hyk2 hya1 hya2
      have b0 := (hv.b.bel.cell (p := ⟨b, off + i * 3, none⟩) hbl).trans a0_
      have b1 := (hv.b.bel.cell (p := ⟨b, off + i * 3 + 1, none⟩) hbl).trans a1_
      have b2 := (hv.b.bel.cell (p := ⟨b, off + i * 3 + 2, none⟩) hbl).trans a2_
      obtain ⟨p9, cap9, vals9, hqv, _⟩ := hp.q
      rw [qOf_length] at hqv
      subst hqv
      have HPS0 : Hid (PS R A wr.heap.size n vs i y m ms (.slice p9 n cap9) w (wr.alloc (.cells #[.bool y.out, .int .i64 y.k, .int .u16 y.at_] 120))) := Lib.hid ⟨hv.below (bel1 _ _), hp.below (bel1 _ _), heap_new _ _⟩
      obtain ⟨T, hT⟩ : ∃ T, wr.heap.size = T := ⟨_, rfl⟩
      have HTT := Lib.hid hT
      have HPS1 : Hid (PS R A T n vs i y m ms (.slice p9 n cap9) w (wr.alloc (.cells #[.bool y.out, .int .i64 y.k, .int .u16 y.at_] 120))) := Lib.hid (by rw [← hT]; exact HPS0.out)
      obtain ⟨_, _, _, d0, d1, d2, _⟩ := HPS1.out.cells
      clear hc hy a0_ a1_ a2_ hv hp HPS0 hT
      go_wp2_with fail
      refine (place_any y.out y.k y.at_ hya1 hya2 _).mono ?_
      rintro e w3 ⟨rfl, hb⟩
      have HPS := Lib.hid (HPS1.out.below hb)
      obtain ⟨x, hx⟩ : ∃ x, plA y.at_ = x := ⟨_, rfl⟩
      have HXU : Hid (x ≤ 12288) := Lib.hid (by rw [← hx]; unfold plA; omega)
      have HXB : Hid (4096 ≤ x ∧ x % 16 = 0) := Lib.hid (by rw [← hx]; unfold plA; omega)
      obtain ⟨b8, hb8⟩ : ∃ b8, decide (x < 8192) = b8 := ⟨_, rfl⟩
      have HB8 := Lib.hid hb8
      rw [hx, hb8]
      clear hb HPS1 hx hb8 b0 b1 b2 d0 d1 d2
      obtain ⟨c0, c1, c2, d0, d1, d2, _⟩ := HPS.out.cells
      rw [HTT.out]
      clear HTT
      obtain ⟨K, hK⟩ : ∃ K, y.k = K := ⟨_, rfl⟩
      have HK := Lib.hid hK
      obtain ⟨O, hO⟩ : ∃ O, y.out = O := ⟨_, rfl⟩
      have HO := Lib.hid hO
      rw [hK] at d1
      rw [hO] at d0
      simp only [hK, hO]
      clear hK hO hya1 hya2
      cases O with
      | true =>
        have HCS : Hid (¬ (0 ≤ K ∧ K < (n : Int)) ∨ ∃ kn : Nat, K = kn ∧ kn < n) := Lib.hid (by
          by_cases e : 0 ≤ K ∧ K < (n : Int)
          · exact .inr ⟨K.toNat, by omega, by omega⟩
          · exact .inl e)
        go_upto_if 73 with fail
        go_cut [9, 16, 17] (fun s9 s16 s17 wx => TailP R A T n vs i y w s9 s16 s17 wx)
        case first =>
          as_aux_lemma =>
          rcases HCS.out with hko | ⟨kn, rfl, hkn⟩
          · -- no such list
            have HRM := Lib.hid (lrem_out HPS.out.l.o 64 vs (by omega) hvb K x (by have := HV8.out; omega))
            have HRR2 := Lib.hid (fun w => rl_rem_out (w := w) p9 n cap9 (by omega) K x hko)
            clear hko
            go_wp2_with fail
            refine HRM.out.mono ?_
            rintro e w4 ⟨rfl, hb⟩
            have HPS4 := Lib.hid (HPS.out.below hb)
            clear hb c0 c1 c2 d0 d1 d2
            obtain ⟨c0, c1, c2, d0, d1, d2, _⟩ := HPS4.out.cells
            rw [HK.out] at d1
            go_wp2_with fail
            refine (HRR2.out _).mono ?_
            rintro e w5 ⟨rfl, rfl⟩
            go_wp2_with fail
            go_meet
            exact ⟨3, m, ms, rfl, rfl, HPS4.out.l, HPS4.out.p.more (by omega), HPS4.out.t⟩
          · by_cases hin : x ∈ ms kn
            · have HRM := Lib.hid (lrem_ls HPS.out.l.o 64 vs (by omega) hvb kn (64 + 8 * kn) x (ms kn) (HPS.out.p.k kn hkn) (by have := HXB.out; omega) hin (HPS.out.p.apart (by omega) hkn))
              have HHQ := Lib.hid (hasQ_qOf ms kn x hkn)
              have HIN := Lib.hid hin
              clear hin
              go_wp2_with fail
              refine HRM.out.mono ?_
              rintro e w4 ⟨m4, rfl, ho, hg, hl4, hoth⟩
              have hq4 := HPS.out.p.q.went HPS.out.l.o hg
              have HRR2 := Lib.hid (rl_rem_yes (.slice p9 n cap9) (qOf n ms) (by rw [qOf_length]; omega) kn (x : Int) hq4 (fun t ht => by rw [qOf_length] at ht; rw [qOf_get ms ht, List.length_map]; have := HPS.out.p.len t ht; omega) (by rw [qOf_length]; exact hkn) (by rw [HHQ.out]; exact decide_eq_true HIN.out))
              have hr4 := hg.keep HPS.out.l.o HPS.out.l.v (by decide) (by decide) (by decide)
              have ht4 := hg.keep HPS.out.l.o HPS.out.t (by decide) (by decide) (by decide)
              have HGO := Lib.hid (And.intro ho (And.intro hg (And.intro hl4 hoth)))
              clear c0 c1 c2 d0 d1 d2
              have d0 := (cell_blk ht4 0).1; have d1 := (cell_blk ht4 1).1; have d2 := (cell_blk ht4 2).1
              rw [HK.out] at d1
              clear ho hg hl4 hoth hq4 hr4 ht4
              go_wp2_with fail
              refine HRR2.out.mono ?_
              rintro e w5 ⟨v5, rfl, hq5, hb5⟩
              have HF := Lib.hid (play_rem HPS.out (by omega) hkn HGO.out.1 HGO.out.2.1 HGO.out.2.2.1 HGO.out.2.2.2 hb5 hq5)
              clear hq5 hb5
              go_wp2_with fail
              go_meet
              exact ⟨0, m4, _, rfl, rfl, HF.out⟩
            · have HRM := Lib.hid (lrem_none HPS.out.l.o 64 vs (by omega) hvb kn x (64 + 8 * kn) (ms kn) (HPS.out.p.k kn hkn) (fun z hz => by rw [show z = x by omega]; exact hin))
              have HHQ : Hid (hasQ (qOf n ms) kn x = false) := Lib.hid (by rw [hasQ_qOf ms kn x hkn]; exact decide_eq_false hin)
              clear hin
              go_wp2_with fail
              refine HRM.out.mono ?_
              rintro e w4 ⟨rfl, hb⟩
              have HPS4 := Lib.hid (HPS.out.below hb)
              clear hb c0 c1 c2 d0 d1 d2
              obtain ⟨c0, c1, c2, d0, d1, d2, _⟩ := HPS4.out.cells
              rw [HK.out] at d1
              have HRR2 := Lib.hid (rl_rem_none (w := w4) (.slice p9 n cap9) p9 cap9 (qOf n ms) (by rw [qOf_length]) (by rw [qOf_length]; omega) kn (x : Int) HPS4.out.p.q (fun t ht => by rw [qOf_length] at ht; rw [qOf_get ms ht, List.length_map]; have := HPS4.out.p.len t ht; omega) (by rw [qOf_length]; omega) HHQ.out)
              go_wp2_with fail
              refine HRR2.out.mono ?_
              rintro e w5 ⟨rfl, rfl⟩
              go_wp2_with fail
              go_meet
              exact ⟨8, m, ms, rfl, rfl, HPS4.out.l, HPS4.out.p.more (by omega), HPS4.out.t⟩
        case rest =>
        rename_i w6
        obtain ⟨er, m6, ms6, rfl, rfl, hps⟩ := hcut
        clear HCS HPS c0 c1 c2 d0 d1 d2
        obtain ⟨p6, cap6, vals6, hqv6, _⟩ := hps.p.q
        rw [qOf_length] at hqv6
        subst hqv6
        have HPS6 := Lib.hid hps
        obtain ⟨lp, bH, hlp, hhv, hhq⟩ := has_both hps.p HV8.out K x (by have := HXB.out; omega)
        have HLP := Lib.hid hlp
        have HHV := Lib.hid hhv
        have HHQ := Lib.hid hhq
        have der : (er != er) = false := by simp
        have HML : Hid (∀ k, k < n → (ms6 k).length ≤ 1000) := Lib.hid fun k hk => by have := hps.p.len k hk; omega
        have HMQ : Hid (∀ t, t < (qOf n ms6).length → ((qOf n ms6).getD t []).length ≤ 1000) := Lib.hid fun t ht => by rw [qOf_length] at ht; rw [qOf_get ms6 ht, List.length_map]; exact HML.out t ht
        have HQL : Hid ((qOf n ms6).length ≤ 1000) := Lib.hid (by rw [qOf_length]; omega)
        have hS0 := (hps.below (Below.refl _ _).drew).cells
        rw [HK.out, HO.out] at hS0
        clear hps hlp hhv hhq
        go_upto_region 29 with fail
        go_region_held3 (fun X => X.cell? ⟨R, 0, none⟩ = some (.pointer (some ⟨A, 0, none⟩)) ∧ X.cell? ⟨R, 1, none⟩ = some (.int .i64 64) ∧ X.cell? ⟨R, 2, none⟩ = some (.int .i64 (vs : Int)) ∧ X.cell? ⟨T, 0, none⟩ = some (.bool true) ∧ X.cell? ⟨T, 1, none⟩ = some (.int .i64 K) ∧ X.cell? ⟨T, 2, none⟩ = some (.int .u16 y.at_) ∧ PS R A T n vs (i + 1) y m6 ms6 (.slice p6 n cap6) w X)
          (first | exact hS0 | assumption)
          (first | (go_at_call 84; refine (told_any hS0.2.2.2.2.2.2.l.o 64 vs n (by omega) hvb (by omega) HV8.out ms6 hS0.2.2.2.2.2.2.p.k HML.out _ hS0.2.2.2.2.2.2.p.q).mono ?_; rintro e w7 ⟨rfl, hbb⟩; have hS1 := (hS0.2.2.2.2.2.2.below hbb).cells; rw [HK.out, HO.out] at hS1)
                 | (go_at_call 85; refine (lhas hS1.2.2.2.2.2.2.l.o 64 vs (by omega) hvb K x lp HLP.out).mono ?_; rintro e w8 ⟨rfl, hbc⟩; rw [HHV.out]; have hS2 := (hS1.2.2.2.2.2.2.below hbc).cells; rw [HK.out, HO.out] at hS2)
                 | (go_at_call 79; refine (rl_has _ (qOf n ms6) HQL.out K x w8 hS2.2.2.2.2.2.2.p.q HMQ.out).mono ?_; rintro e w9 ⟨rfl, rfl⟩; rw [HHQ.out]))
        all_goals
          have HF := Lib.hid hS2.2.2.2.2.2.2
          have dbb : (bH != bH) = false := by simp
          clear hS0 hS1 hS2
          go_wp2_with fail
          go_roundw
          case rel => exact ⟨i + 1, m6, ms6, by omega, by go_num, HF.out.l, HF.out.p⟩
          case measure => simp [intOf]; omega
      | false =>
        obtain ⟨w4, hw4⟩ : ∃ w4, w3 = w4 := ⟨_, rfl⟩
        have HST2 : Hid (∃ j : Nat, j ≤ n ∧ (Value.bool false) = .bool (elseB ms K x j) ∧ (Value.int .i64 0) = .int .i64 (j : Int) ∧ PS R A T n vs i y m ms (.slice p9 n cap9) w w3) := Lib.hid ⟨0, Nat.zero_le _, rfl, rfl, HPS.out⟩
        clear hw4 HPS c0 c1 c2 d0 d1 d2
        have d0 := HST2.out.choose_spec.2.2.2.cells
        rw [HK.out, HO.out] at d0
        obtain ⟨c0, c1, c2, d0, d1, d2, _⟩ := d0
        go_wp2_with fail
        go_loopw [14, 54] (fun s14 s54 wx => ∃ j : Nat, j ≤ n ∧ s14 = .bool (elseB ms K x j) ∧ s54 = .int .i64 (j : Int) ∧ PS R A T n vs i y m ms (.slice p9 n cap9) w wx) (fun _ s54 _ => n - (intOf s54).toNat)
        case atStart => exact HST2.out
        case round =>
          clear HST2 c0 c1 c2 d0 d1 d2
          obtain ⟨j, hj, rfl, rfl, hps⟩ := hrel
          have hcs := hps.cells
          rw [HK.out, HO.out] at hcs
          obtain ⟨c0, c1, c2, d0, d1, d2, _⟩ := hcs
          have HPS := Lib.hid hps
          obtain ⟨eb, heb⟩ : ∃ eb, elseB ms K x j = eb := ⟨_, rfl⟩
          have HEB := Lib.hid heb
          rw [heb]
          clear hps heb
          by_cases hjn : j < n
          · have hRH := rl_has (.slice p9 n cap9) (qOf n ms) (by rw [qOf_length]; omega) (j : Int) (x : Int) _ HPS.out.p.q (fun t ht => by rw [qOf_length] at ht; rw [qOf_get ms ht, List.length_map]; have := HPS.out.p.len t ht; omega)
            rw [hasQ_qOf ms j x hjn] at hRH
            obtain ⟨bx, hbx⟩ : ∃ bx, decide (x ∈ ms j) = bx := ⟨_, rfl⟩
            rw [hbx] at hRH
            have HRH := Lib.hid hRH
            have HNX : Hid (elseB ms K x (j + 1) = (eb || (decide ((j : Int) ≠ K) && bx))) := Lib.hid (by show (elseB ms K x j || (decide ((j : Int) ≠ K) && decide (x ∈ ms j))) = _; rw [HEB.out, hbx])
            clear hRH hbx HEB
            cases eb with
            | true =>
              go_wp2_with fail
              go_roundw
              case rel => exact ⟨j + 1, by omega, by rw [HNX.out]; rfl, by go_num, HPS.out⟩
              case measure => simp [intOf]; omega
            | false =>
              by_cases hjk : (j : Int) = K
              · have HJK := Lib.hid hjk
                go_wp2_with fail
                go_roundw
                case rel => exact ⟨j + 1, by omega, by rw [HNX.out]; simp [HJK.out], by go_num, HPS.out⟩
                case measure => simp [intOf]; omega
              · have HJK := Lib.hid hjk
                go_wp2_with fail
                refine HRH.out.mono ?_
                rintro e w5 ⟨rfl, rfl⟩
                go_wp2_with fail
                go_roundw
                case rel => exact ⟨j + 1, by omega, by rw [HNX.out]; simp [HJK.out], by go_num, HPS.out⟩
                case measure => simp [intOf]; omega
          · have hjn2 : n = j := by omega
            subst hjn2
            cases eb with
            | true =>
              go_wp2_with fail
              go_roundw
              case rel => exact ⟨i + 1, m, ms, by omega, by go_num, HPS.out.l, HPS.out.p.more (by omega)⟩
              case measure => simp [intOf]; omega
            | false =>
              have HCS : Hid (¬ (0 ≤ K ∧ K < (n : Int)) ∨ ∃ kn : Nat, K = kn ∧ kn < n) := Lib.hid (by
                by_cases e : 0 ≤ K ∧ K < (n : Int)
                · exact .inr ⟨K.toNat, by omega, by omega⟩
                · exact .inl e)
              have HEL : Hid (∀ t, t < n → (t : Int) ≠ K → x ∉ ms t) := Lib.hid (elseB_false HEB.out)
              clear HEB hjn
              go_upto_if 73 with fail
              go_cut [9, 16, 17] (fun s9 s16 s17 wx => TailP R A T n vs i y w s9 s16 s17 wx)
              case first =>
                as_aux_lemma =>
                rcases HCS.out with hko | ⟨kn, rfl, hkn⟩
                · -- no such list
                  have HRM := Lib.hid (ladd_out HPS.out.l.o 64 vs (by omega) hvb K x (by have := HV8.out; omega))
                  have HRR2 := Lib.hid (fun w => rl_add_out (w := w) p9 n cap9 (by omega) K x b8 hko)
                  clear hko
                  go_wp2_with fail
                  refine HRM.out.mono ?_
                  rintro e w4 ⟨rfl, hb⟩
                  have HPS4 := Lib.hid (HPS.out.below hb)
                  clear hb c0 c1 c2 d0 d1 d2
                  obtain ⟨c0, c1, c2, d0, d1, d2, _⟩ := HPS4.out.cells
                  rw [HK.out] at d1
                  go_wp2_with fail
                  refine (HRR2.out _).mono ?_
                  rintro e w5 ⟨rfl, rfl⟩
                  go_wp2_with fail
                  go_meet
                  exact ⟨3, m, ms, rfl, rfl, HPS4.out.l, HPS4.out.p.more (by omega), HPS4.out.t⟩
                · by_cases hx8 : x < 8192
                  · have e8 : b8 = true := by rw [← HB8.out]; exact decide_eq_true hx8
                    subst e8
                    have hT : thereE 3 [0, 2] x 16 = 0 := there_two (by omega) (by omega) (by have := HXB.out; omega)
                    by_cases hin : x ∈ ms kn
                    · have HRM := Lib.hid (ladd_there HPS.out.l.o 64 vs (by omega) hvb kn (64 + 8 * kn) x (ms kn) (HPS.out.p.k kn hkn) (by have := HXB.out; omega) hin)
                      have HHQ : Hid (hasQ (qOf n ms) kn x = true) := Lib.hid (by rw [hasQ_qOf ms kn x hkn]; exact decide_eq_true hin)
                      clear hin hT
                      go_wp2_with fail
                      refine HRM.out.mono ?_
                      rintro e w4 ⟨rfl, hb⟩
                      have HPS4 := Lib.hid (HPS.out.below hb)
                      clear hb c0 c1 c2 d0 d1 d2
                      obtain ⟨c0, c1, c2, d0, d1, d2, _⟩ := HPS4.out.cells
                      rw [HK.out] at d1
                      have HRR2 := Lib.hid (rl_add_has (w := w4) (.slice p9 n cap9) p9 cap9 (qOf n ms) (by rw [qOf_length]) (by rw [qOf_length]; omega) kn (x : Int) HPS4.out.p.q (fun t ht => by rw [qOf_length] at ht; rw [qOf_get ms ht, List.length_map]; have := HPS4.out.p.len t ht; omega) (by rw [qOf_length]; omega) (by have := HXB.out; omega) HHQ.out)
                      go_wp2_with fail
                      refine HRR2.out.mono ?_
                      rintro e w5 ⟨rfl, rfl⟩
                      go_wp2_with fail
                      go_meet
                      exact ⟨9, m, ms, rfl, rfl, HPS4.out.l, HPS4.out.p.more (by omega), HPS4.out.t⟩
                    · have HRM := Lib.hid (ladd_ls HPS.out.l.o 64 vs (by omega) hvb kn (64 + 8 * kn) x (ms kn) (HPS.out.p.k kn hkn) (by have := HXB.out; omega) hin hT (HPS.out.p.apart (by omega) hkn) (mul_off2 (by omega) (HPS.out.p.mul kn hkn) HXB.out.1 HXB.out.2 hin))
                      have HHQ : Hid (hasQ (qOf n ms) kn x = false) := Lib.hid (by rw [hasQ_qOf ms kn x hkn]; exact decide_eq_false hin)
                      have HIN := Lib.hid hin
                      clear hin hT
                      go_wp2_with fail
                      refine HRM.out.mono ?_
                      rintro e w4 ⟨m4, rfl, ho, hg, hl4, hoth⟩
                      have hq4 := HPS.out.p.q.went HPS.out.l.o hg
                      have HRR2 := Lib.hid (rl_add_yes (.slice p9 n cap9) (qOf n ms) (by rw [qOf_length]; omega) kn (x : Int) hq4 (fun t ht => by rw [qOf_length] at ht; rw [qOf_get ms ht, List.length_map]; have := HPS.out.p.len t ht; omega) (by rw [qOf_length]; exact hkn) (by have := HXB.out; omega) HHQ.out)
                      have ht4 := hg.keep HPS.out.l.o HPS.out.t (by decide) (by decide) (by decide)
                      have HGO := Lib.hid (And.intro ho (And.intro hg (And.intro hl4 hoth)))
                      clear c0 c1 c2 d0 d1 d2
                      have d0 := (cell_blk ht4 0).1; have d1 := (cell_blk ht4 1).1; have d2 := (cell_blk ht4 2).1
                      rw [HK.out] at d1
                      clear ho hg hl4 hoth hq4 ht4
                      go_wp2_with fail
                      refine HRR2.out.mono ?_
                      rintro e w5 ⟨v5, rfl, hq5, hb5⟩
                      have HF := Lib.hid (play_add HPS.out (by omega) hkn HXB.out.1 HXB.out.2 HIN.out HEL.out HGO.out.1 HGO.out.2.1 HGO.out.2.2.1 HGO.out.2.2.2 hb5 hq5)
                      clear hq5 hb5
                      go_wp2_with fail
                      go_meet
                      exact ⟨0, m4, _, rfl, rfl, HF.out⟩
                  · have e8 : b8 = false := by rw [← HB8.out]; exact decide_eq_false hx8
                    subst e8
                    have hT : thereE 3 [0, 2] x 16 = 3 := there_two_no (.inr (.inr ⟨by omega, by omega⟩))
                    have HRM := Lib.hid (ladd_no HPS.out.l.o 64 vs (by omega) hvb kn x (64 + 8 * kn) (ms kn) (HPS.out.p.k kn hkn) (by have := HXB.out; omega) (by have := HXU.out; omega) hT)
                    have HRR2 := Lib.hid (fun w => rl_add_th (w := w) p9 n cap9 (by omega) kn x (by omega) (by have := HXB.out; omega))
                    clear hT hx8
                    go_wp2_with fail
                    refine HRM.out.mono ?_
                    rintro e w4 ⟨rfl, hb⟩
                    have HPS4 := Lib.hid (HPS.out.below hb)
                    clear hb c0 c1 c2 d0 d1 d2
                    obtain ⟨c0, c1, c2, d0, d1, d2, _⟩ := HPS4.out.cells
                    rw [HK.out] at d1
                    go_wp2_with fail
                    refine (HRR2.out _).mono ?_
                    rintro e w5 ⟨rfl, rfl⟩
                    go_wp2_with fail
                    go_meet
                    exact ⟨3, m, ms, rfl, rfl, HPS4.out.l, HPS4.out.p.more (by omega), HPS4.out.t⟩
              case rest =>
              rename_i w6
              obtain ⟨er, m6, ms6, rfl, rfl, hps⟩ := hcut
              clear HCS HPS c0 c1 c2 d0 d1 d2
              obtain ⟨p6, cap6, vals6, hqv6, _⟩ := hps.p.q
              rw [qOf_length] at hqv6
              subst hqv6
              have HPS6 := Lib.hid hps
              obtain ⟨lp, bH, hlp, hhv, hhq⟩ := has_both hps.p HV8.out K x (by have := HXB.out; omega)
              have HLP := Lib.hid hlp
              have HHV := Lib.hid hhv
              have HHQ := Lib.hid hhq
              have der : (er != er) = false := by simp
              have HML : Hid (∀ k, k < n → (ms6 k).length ≤ 1000) := Lib.hid fun k hk => by have := hps.p.len k hk; omega
              have HMQ : Hid (∀ t, t < (qOf n ms6).length → ((qOf n ms6).getD t []).length ≤ 1000) := Lib.hid fun t ht => by rw [qOf_length] at ht; rw [qOf_get ms6 ht, List.length_map]; exact HML.out t ht
              have HQL : Hid ((qOf n ms6).length ≤ 1000) := Lib.hid (by rw [qOf_length]; omega)
              have hS0 := (hps.below (Below.refl _ _).drew).cells
              rw [HK.out, HO.out] at hS0
              clear hps hlp hhv hhq
              go_upto_region 29 with fail
              go_region_held3 (fun X => X.cell? ⟨R, 0, none⟩ = some (.pointer (some ⟨A, 0, none⟩)) ∧ X.cell? ⟨R, 1, none⟩ = some (.int .i64 64) ∧ X.cell? ⟨R, 2, none⟩ = some (.int .i64 (vs : Int)) ∧ X.cell? ⟨T, 0, none⟩ = some (.bool false) ∧ X.cell? ⟨T, 1, none⟩ = some (.int .i64 K) ∧ X.cell? ⟨T, 2, none⟩ = some (.int .u16 y.at_) ∧ PS R A T n vs (i + 1) y m6 ms6 (.slice p6 n cap6) w X)
                (first | exact hS0 | assumption)
                (first | (go_at_call 84; refine (told_any hS0.2.2.2.2.2.2.l.o 64 vs n (by omega) hvb (by omega) HV8.out ms6 hS0.2.2.2.2.2.2.p.k HML.out _ hS0.2.2.2.2.2.2.p.q).mono ?_; rintro e w7 ⟨rfl, hbb⟩; have hS1 := (hS0.2.2.2.2.2.2.below hbb).cells; rw [HK.out, HO.out] at hS1)
                       | (go_at_call 85; refine (lhas hS1.2.2.2.2.2.2.l.o 64 vs (by omega) hvb K x lp HLP.out).mono ?_; rintro e w8 ⟨rfl, hbc⟩; rw [HHV.out]; have hS2 := (hS1.2.2.2.2.2.2.below hbc).cells; rw [HK.out, HO.out] at hS2)
                       | (go_at_call 79; refine (rl_has _ (qOf n ms6) HQL.out K x w8 hS2.2.2.2.2.2.2.p.q HMQ.out).mono ?_; rintro e w9 ⟨rfl, rfl⟩; rw [HHQ.out]))
              all_goals
                have HF := Lib.hid hS2.2.2.2.2.2.2
                have dbb : (bH != bH) = false := by simp
                clear hS0 hS1 hS2
                go_wp2_with fail
                go_roundw
                case rel => exact ⟨i + 1, m6, ms6, by omega, by go_num, HF.out.l, HF.out.p⟩
                case measure => simp [intOf]; omega
    · have hil : len = i := by omega
      subst hil
      have T1 : Hid (thereE (twoS m).L (twoS m).es 64 vs = 0) := Lib.hid (there_two (by omega) (by omega) (by have := HVS.out; omega))
      have HV : Hid (∀ pu a k, ofV pu a k 0 = .agg #[.pointer pu, .int .i64 a, .int .i64 k]) := Lib.hid fun pu a k => by unfold ofV; rw [if_pos rfl]
      have q1 : IntKind.i64.wrap (IntKind.i64.wrap (8 * (n : Int)) + 3) = (vs : Int) := by rw [IntWalk.i64_in (8 * (n : Int)) (by omega), IntWalk.i64_in _ (by omega)]; have := HVS.out; omega
      have q2 : (8 * (n : Int)) + 3 = (vs : Int) := by have := HVS.out; omega
      have HML : Hid (∀ k, k < n → (ms k).length ≤ 1000) := Lib.hid fun k hk => by have := hp.len k hk; omega
      have HPP := Lib.hid hp
      have HBW := Lib.hid hv.b.bel
      obtain ⟨P2, ps2, p2, n2, cap2, hax⟩ := hv.o
      have HCL := Lib.hid (clone_any hax)
      have HQQ := Lib.hid (And.intro q1 q2)
      clear hax hv hp hlt q1 q2 HR HLN
      go_wp2_with fail
      refine HCL.out.mono ?_
      rintro e w3 ⟨A2, rfl, hx3, hb3, hA2, hown, hedg⟩
      have HX3 := Lib.hid hx3
      have HQ3 := Lib.hid (HPP.out.q.below hb3)
      have HB3 := Lib.hid (HBW.out.trans (hb3.mono HBW.out.size))
      clear hx3 hb3 hA2 hown hedg
      obtain ⟨q1, q2⟩ := HQQ.out
      go_wp2_with fail
      refine (on_of HX3.out 64 vs (by omega)).mono ?_
      rintro e w4 ⟨rfl, hb⟩
      rw [T1.out, HV.out]
      have HX4 := Lib.hid ((HX3.out.below hb).below (bel1 _ (.cells #[.pointer (some ⟨A2, 0, none⟩), .int .i64 64, .int .i64 (vs : Int)] 53)))
      have HQ4 := Lib.hid ((HQ3.out.below hb).below (bel1 _ (.cells #[.pointer (some ⟨A2, 0, none⟩), .int .i64 64, .int .i64 (vs : Int)] 53)))
      have hb4 := HB3.out.trans (hb.mono HB3.out.size)
      have HB4 := Lib.hid (hb4.trans ((bel1 _ (.cells #[.pointer (some ⟨A2, 0, none⟩), .int .i64 64, .int .i64 (vs : Int)] 53)).mono hb4.size))
      clear hb hb4 q1 q2
      go_wp2_with fail
      refine (lopenL (some ⟨A2, 0, none⟩) 64 vs _).mono ?_
      rintro e w5 ⟨rfl, hb⟩
      have HX5 := Lib.hid (HX4.out.below hb)
      have HQ5 := Lib.hid (HQ4.out.below hb)
      have HB5 := Lib.hid (HB4.out.trans (hb.mono HB4.out.size))
      clear hb
      go_wp2_with fail
      refine (told_any HX5.out 64 vs n (by omega) hvb (by omega) HV8.out ms HPP.out.k HML.out _ HQ5.out).mono ?_
      rintro e w6 ⟨rfl, hb⟩
      have HB6 := Lib.hid (HB5.out.trans (hb.mono HB5.out.size))
      clear hb
      go_wp2_with fail
      go_ret
      exact ⟨rfl, HB6.out⟩
end Go.Proofs.Ytfappdiipflpfaa.Bt
