/- An arena of three pages, two of them committed; lists in it; the statements' open and example. -/
import Derived.Test.YtfappdiipflpfaaLsG
namespace Go.Proofs.Ytfappdiipflpfaa.Bt
open Go Go.RowKit Go.Shelf
set_option linter.unusedVariables false

def twoS (m : Nat → UInt8) : ASt := ⟨3, [0, 2], m, false, 0⟩
theorem good_two : Good 3 [0, 2] := ⟨by simp [Rising], by simp, (fun e h => by simp at h; omega), by omega⟩
theorem there_two {a k : Int} (h0 : 0 ≤ a) (h1 : 0 ≤ k) (h2 : a + k ≤ 8192) : thereE 3 [0, 2] a k = 0 := by
  unfold thereE
  rw [if_pos]
  exact (there_iff good_two a k).2 ⟨h0, h1, by omega, fun i i1 i2 => by have := mem_full (L := 2) (by omega) (i / 4096); rw [this]; simp; omega⟩
theorem there_two_no {a k : Int} (h : a < 0 ∨ k < 0 ∨ (0 < k ∧ 8192 < a + k)) : thereE 3 [0, 2] a k = 3 := by
  unfold thereE
  rw [if_neg]
  intro e
  obtain ⟨h0, h1, h2, h3⟩ := (there_iff good_two a k).1 e
  rcases h with h | h | ⟨h, h5⟩
  · omega
  · omega
  · have h4 := h3 (a + k - 1) (by omega) (by omega)
    rw [mem_full (L := 2) (by omega)] at h4
    simp at h4; omega
theorem two_new : commitE (newS 3) 0 2 = 0 ∧ commitS (newS 3) 0 2 = twoS (fun _ => 0) := by
  have he : commitE (newS 3) 0 2 = 0 := by decide
  refine ⟨he, ?_⟩
  unfold commitE at he
  unfold commitS
  have hn : ¬ (countE (newS 3).L 0 2 ≠ 0 ∨ 0 < countR (newS 3).L (newS 3).es 0 2) := by decide
  rw [if_neg hn, show refB (newS 3) = false from rfl]
  show ASt.mk _ _ _ _ _ = _
  rw [show laidS (newS 3).L (newS 3).es 0 2 true = [0, 2] from by decide]; rfl
theorem numV_zero (a k : Nat) : numV (fun _ => 0) a k = 0 := by
  induction k with
  | zero => rfl
  | succ k ih => unfold numV; rw [ih]; simp
/-- two links apart -/
abbrev Off (a b : Nat) : Prop := a + 8 ≤ b ∨ b + 8 ≤ a
section
variable {A : Nat} {s : ASt} {w : World}
/-- what a list becomes by a member more; other lists stay -/
def AddP (A : Nat) (s : ASt) (va vs : Nat) (k : Int) (h0 x : Nat) (ms : List Nat) (w : World) (e : Ending) (w' : World) : Prop :=
  ∃ m', e = .returned (.int .i64 0) ∧ On A { s with mm := m' } w' ∧ Went A w w' ∧ LsK { s with mm := m' } va vs k h0 (ins x ms) ∧
    ∀ k' h1 ns, LsK s va vs k' h1 ns → (∀ c ∈ h1 :: ns, Off x c ∧ ∀ d ∈ h0 :: ms, Off d c) → LsK { s with mm := m' } va vs k' h1 ns
theorem ladd_ls (h : On A s w) (va vs : Nat) (h1 : va ≤ 4294967296) (h2 : vs ≤ 4294967296) (k : Int) (h0 x : Nat) (ms : List Nat) (hl : LsK s va vs k h0 ms) (hx : 0 < x) (hm : x ∉ ms) (hT : thereE s.L s.es x 16 = 0)
    (ha : Apart (h0 :: ms)) (hf : ∀ c ∈ h0 :: ms, x + 8 ≤ c ∨ c + 8 ≤ x) :
    Calls Try.prog 82 #[lsP (some ⟨A, 0, none⟩) va vs, .int .i64 k, .int .i64 (x : Int)] w (AddP A s va vs k h0 x ms w) :=
  (ladd_yes h va vs h1 h2 k h0 x ms hl hx hm hT).mono fun e w' ⟨he, ho, hg⟩ => by
    refine ⟨_, he, ho, hg, ?_, fun k' g0 ns hn hc => ?_⟩
    · obtain ⟨kn, e1, e2, e3, e4⟩ := hl
      exact ⟨kn, e1, e2, e3, add_ch h.good hT 8 e4 hx hm ha hf⟩
    · obtain ⟨kn, e1, e2, e3, e4⟩ := hn
      refine ⟨kn, e1, e2, e3, e4.keep fun c hcm => ?_⟩
      have h3 := hc c hcm
      have h4 := h3.2 _ (fnd_mem h0 8 ms x)
      show numV (put8 (put8 s.mm x _) _ x) c 8 = _
      rw [put8_far _ _ (by omega), put8_far _ _ (by omega)]
def DelP (A : Nat) (s : ASt) (va vs : Nat) (k : Int) (h0 x : Nat) (ms : List Nat) (w : World) (e : Ending) (w' : World) : Prop :=
  ∃ m', e = .returned (.int .i64 0) ∧ On A { s with mm := m' } w' ∧ Went A w w' ∧ LsK { s with mm := m' } va vs k h0 (ms.erase x) ∧
    ∀ k' h1 ns, LsK s va vs k' h1 ns → (∀ c ∈ h1 :: ns, ∀ d ∈ h0 :: ms, Off d c) → LsK { s with mm := m' } va vs k' h1 ns
theorem lrem_ls (h : On A s w) (va vs : Nat) (h1 : va ≤ 4294967296) (h2 : vs ≤ 4294967296) (k : Int) (h0 x : Nat) (ms : List Nat) (hl : LsK s va vs k h0 ms) (hx : 0 < x) (hm : x ∈ ms) (ha : Apart (h0 :: ms)) :
    Calls Try.prog 80 #[lsP (some ⟨A, 0, none⟩) va vs, .int .i64 k, .int .i64 (x : Int)] w (DelP A s va vs k h0 x ms w) :=
  (lrem_yes h va vs h1 h2 k h0 x ms hl hx hm).mono fun e w' ⟨he, ho, hg⟩ => by
    refine ⟨_, he, ho, hg, ?_, fun k' g0 ns hn hc => ?_⟩
    · obtain ⟨kn, e1, e2, e3, e4⟩ := hl
      exact ⟨kn, e1, e2, e3, del_ch h.good 8 e4 hm ha⟩
    · obtain ⟨kn, e1, e2, e3, e4⟩ := hn
      refine ⟨kn, e1, e2, e3, e4.keep fun c hcm => ?_⟩
      have h4 := hc c hcm _ (fnd_mem h0 8 ms x)
      show numV (put8 s.mm _ _) c 8 = _
      rw [put8_far _ _ (by omega)]
end
/-- the lists of a new arena -/
theorem ls_new (vs k : Nat) (hk : k < vs / 8) (hv : vs ≤ 4000) : LsK (twoS fun _ => 0) 64 vs k (64 + 8 * k) [] := ⟨k, rfl, hk, rfl, there_two (by omega) (by omega) (by omega), numV_zero _ _⟩
def OpenQ (n : Nat) (w : World) (e : Ending) (w' : World) : Prop :=
  ∃ A, e = .returned (.tuple #[.pointer (some ⟨A, 0, none⟩), lsP (some ⟨A, 0, none⟩) 64 (8 * n + 3), .bool true]) ∧ On A (twoS (fun _ => 0)) w' ∧ Base A w w'
set_option maxHeartbeats 2000000 in
theorem open7 (n : Nat) (hn : n ≤ 400) (w : World) : Calls Try.prog 77 #[.int .i64 (n : Int)] w (OpenQ n w) := by
  have L1 : Hid (lenN 3 = 3) := Lib.hid (by decide)
  have E1 : Hid (commitE (newS 3) 0 2 = 0) := Lib.hid two_new.1
  have S1 : Hid (commitS (newS 3) 0 2 = twoS (fun _ => 0)) := Lib.hid two_new.2
  obtain ⟨vs, hvs⟩ : ∃ vs : Nat, 8 * n + 3 = vs := ⟨_, rfl⟩
  have T1 : Hid (thereE (twoS fun _ => 0).L (twoS fun _ => 0).es 64 vs = 0) := Lib.hid (there_two (by omega) (by omega) (by omega))
  have HV : Hid (∀ pu a k, ofV pu a k 0 = .agg #[.pointer pu, .int .i64 a, .int .i64 k]) := Lib.hid fun pu a k => by unfold ofV; rw [if_pos rfl]
  have q1 : IntKind.i64.wrap (IntKind.i64.wrap (8 * (n : Int)) + 3) = (vs : Int) := by rw [IntWalk.i64_in (8 * (n : Int)) (by omega), IntWalk.i64_in _ (by omega)]; omega
  have q2 : (8 * (n : Int)) + 3 = (vs : Int) := by omega
  have hvl : vs ≤ 4294967296 := by omega
  have HQ := Lib.hid (And.intro q1 q2)
  unfold OpenQ
  rw [hvs]
  clear hvs q1 q2 hn
  go_enter Try.func77, Try.ntmps77
  go_wp2_with fail
  refine (on_new 3 _).mono ?_
  rintro e w1 ⟨A, rfl, hA, hx, hb, hm⟩
  rw [L1.out] at hx
  have HX1 := Lib.hid hx
  have HB1 := Lib.hid (show Base A w w1 from hb.rebase (bel1 w (.cells #[.pointer none, .int .i64 0, .int .i64 0] 115)))
  have HM1 := Lib.hid (hm w.heap.size (by simp))
  have HR1 := Lib.hid ((hb.bel.block w.heap.size (by simp)).trans (heap_new w (.cells #[.pointer none, .int .i64 0, .int .i64 0] 115)))
  clear hx hb hA hm
  go_wp2_with fail
  refine (on_commit HX1.out 0 2 (by omega)).mono ?_
  rintro e w2 ⟨rfl, hx, hg⟩
  rw [E1.out]; rw [S1.out] at hx
  have HX2 := Lib.hid hx
  have HB2 := Lib.hid (HB1.out.went hg)
  have HR2 := Lib.hid (HM1.out.at hg HR1.out)
  have HM2 := Lib.hid (HM1.out.went hg)
  clear hx hg
  obtain ⟨q1, q2⟩ := HQ.out
  go_wp2_with fail
  refine (on_of HX2.out 64 vs (by omega)).mono ?_
  rintro e w3 ⟨rfl, hb⟩
  rw [T1.out, HV.out]
  have HX3 := Lib.hid (HX2.out.below hb)
  have HB3 := Lib.hid (HB2.out.below HX2.out hb)
  have HR3 := Lib.hid ((hb.block _ (Array.getElem?_eq_some_iff.1 HR2.out).1).trans HR2.out)
  have HM3 := Lib.hid (HM2.out.went (Went.of_below HX2.out hb))
  clear hb q1 q2
  go_wp2_with fail
  have bV := Lib.hid (bel1 w3 (.cells #[.pointer (some ⟨A, 0, none⟩), .int .i64 64, .int .i64 (vs : Int)] 53))
  refine (lopenL (some ⟨A, 0, none⟩) 64 vs _).mono ?_
  rintro e w4 ⟨rfl, hb⟩
  have HX4 := Lib.hid ((HX3.out.below bV.out).below hb)
  have HB4 := Lib.hid ((HB3.out.below HX3.out bV.out).below (HX3.out.below bV.out) hb)
  have hr3 := HR3.out
  have hr4 := (hb.block w.heap.size (Nat.lt_of_lt_of_le (Array.getElem?_eq_some_iff.1 hr3).1 bV.out.size)).trans ((bV.out.block _ (Array.getElem?_eq_some_iff.1 hr3).1).trans hr3)
  have HR4 := Lib.hid hr4
  have HM4 := Lib.hid ((HM3.out.went (Went.of_below HX3.out bV.out)).went (Went.of_below (HX3.out.below bV.out) hb))
  have c0 := (cell_blk hr4 0).1; have c1 := (cell_blk hr4 1).1; have c2 := (cell_blk hr4 2).1
  have f0 := (cell_blk hr4 0).2; have f1 := (cell_blk hr4 1).2; have f2 := (cell_blk hr4 2).2
  clear hr3 hr4 hb
  go_wp2_with fail
  have h3 := three_set HR4.out rfl (.pointer (some ⟨A, 0, none⟩)) (.int .i64 64) (.int .i64 (vs : Int))
  have g0 := (cell_blk h3 0).1; have g1 := (cell_blk h3 1).1; have g2 := (cell_blk h3 2).1
  have hF := set3 (w0 := w) HX4.out HB4.out HM4.out (Nat.le_refl _) (.pointer (some ⟨A, 0, none⟩)) (.int .i64 64) (.int .i64 (vs : Int))
  have HF := Lib.hid hF
  clear hF
  exact bodyPost_ret (v := .tuple #[.pointer (some ⟨A, 0, none⟩), lsP (some ⟨A, 0, none⟩) 64 vs, .bool true]) (by simp [results, Try.results77, go_sem, g0, g1, g2]) rfl ⟨A, rfl, HF.out.1, HF.out.2⟩
/-- the statements' variable, the arena, what came in -/
structure LsV (R A vs : Nat) (s : ASt) (w0 x : World) : Prop where
  v : x.heap[R]? = some (.cells #[.pointer (some ⟨A, 0, none⟩), .int .i64 64, .int .i64 (vs : Int)] 115 (0, 0))
  o : On A s x
  b : Base A w0 x
theorem LsV.below {R A vs : Nat} {s : ASt} {w0 x y : World} (h : LsV R A vs s w0 x) (hb : Below x.heap.size x y) : LsV R A vs s w0 y := ⟨blk_on (A := A) hb h.v, h.o.below hb, h.b.below h.o hb⟩
theorem LsV.went {R A vs : Nat} {s s' : ASt} {w0 x y : World} (h : LsV R A vs s w0 x) (ho : On A s' y) (hg : Went A x y) : LsV R A vs s' w0 y := ⟨hg.keep h.o h.v (by decide) (by decide) (by decide), ho, h.b.went hg⟩
theorem LsV.all {R A vs : Nat} {s : ASt} {w0 x : World} (h : LsV R A vs s w0 x) : x.cell? ⟨R, 0, none⟩ = some (.pointer (some ⟨A, 0, none⟩)) ∧ x.cell? ⟨R, 1, none⟩ = some (.int .i64 64) ∧ x.cell? ⟨R, 2, none⟩ = some (.int .i64 (vs : Int)) :=
  ⟨(cell_blk h.v 0).1, (cell_blk h.v 1).1, (cell_blk h.v 2).1⟩
theorem LsV.start {A vs : Nat} {s : ASt} {w0 x : World} (ho : On A s x) (hb : Base A w0 x) : LsV x.heap.size A vs s w0 (x.alloc (.cells #[.pointer (some ⟨A, 0, none⟩), .int .i64 64, .int .i64 (vs : Int)] 115)) :=
  ⟨heap_new _ _, ho.below (bel1 _ _), hb.below ho (bel1 _ _)⟩
theorem apart1 (a : Nat) : Apart [a] := List.pairwise_singleton _ _
theorem apart2 {a b : Nat} (h : Off a b) : Apart [a, b] := List.pairwise_cons.2 ⟨fun c hc => by rw [List.mem_singleton.1 hc]; exact h, apart1 b⟩
set_option maxHeartbeats 4000000 in
set_option maxRecDepth 100000 in
theorem awake7 (w : World) : Calls Try.prog 76 #[] w (Gives (.bool true) w) := by
  have N0 := Lib.hid (ls_new 11 0 (by omega) (by omega))
  have TA : Hid (∀ m, thereE (twoS m).L (twoS m).es ((4128 : Nat) : Int) 16 = 0) := Lib.hid fun m => there_two (by omega) (by omega) (by omega)
  have TB : Hid (∀ m, thereE (twoS m).L (twoS m).es ((4096 : Nat) : Int) 16 = 0) := Lib.hid fun m => there_two (by omega) (by omega) (by omega)
  go_enter Try.func76, Try.ntmps76
  go_wp2_with fail
  refine (open7 1 (by omega) _).mono ?_
  rintro e w1 ⟨A, rfl, hx, hb⟩
  obtain ⟨R, hR⟩ : ∃ R, w1.heap.size = R := ⟨_, rfl⟩
  obtain ⟨w2, hw2⟩ : ∃ w2, w1.alloc (.cells #[.pointer (some ⟨A, 0, none⟩), .int .i64 64, .int .i64 11] 115) = w2 := ⟨_, rfl⟩
  have HV2 : Hid (LsV R A 11 (twoS fun _ => 0) w w2) := Lib.hid (by rw [← hw2, ← hR]; exact LsV.start hx hb)
  have HW2 := Lib.hid hw2
  clear hx hb hw2
  go_wp2_with fail
  rw [HW2.out]
  clear HW2 hR
  refine (ladd_ls HV2.out.o 64 11 (by omega) (by omega) 0 64 4128 [] N0.out (by omega) (by simp) (TA.out _) (apart1 _) (fun c hc => by rw [List.mem_singleton.1 hc]; omega)).mono ?_
  rintro e w3 ⟨m3, rfl, ho, hg, hl, _⟩
  have HV3 := Lib.hid (HV2.out.went ho hg)
  have HL3 : Hid (LsK (twoS m3) 64 11 0 64 [4128]) := Lib.hid hl
  obtain ⟨c0, c1, c2⟩ := HV3.out.all
  clear ho hg hl HV2 N0
  go_wp2_with fail
  refine (ladd_ls HV3.out.o 64 11 (by omega) (by omega) 0 64 4096 [4128] HL3.out (by omega) (by simp) (TB.out _) (apart2 (by omega)) (fun c hc => by simp at hc; omega)).mono ?_
  rintro e w4 ⟨m4, rfl, ho, hg, hl, _⟩
  have HV4 := Lib.hid (HV3.out.went ho hg)
  have HL4 : Hid (LsK (twoS m4) 64 11 0 64 [4096, 4128]) := Lib.hid hl
  clear c0 c1 c2
  obtain ⟨c0, c1, c2⟩ := HV4.out.all
  clear ho hg hl HV3 HL3
  go_wp2_with fail
  refine (lfirst HV4.out.o 64 11 (by omega) (by omega) 0 _ HL4.out.lk).mono ?_
  rintro e w5 ⟨rfl, hb⟩
  have HR : Hid (atV (prs 64 8 [4096, 4128]) 1 = 4096) := Lib.hid (by decide)
  rw [HR.out]
  have HV5 := Lib.hid (HV4.out.below hb)
  clear c0 c1 c2 hb HL4
  go_wp2_with fail
  refine (awake4 _).mono ?_
  rintro e w6 ⟨rfl, hb⟩
  have HV6 := Lib.hid (HV5.out.below hb)
  clear hb
  go_wp2_with fail
  go_ret
  exact ⟨rfl, HV6.out.b.bel⟩
end Go.Proofs.Ytfappdiipflpfaa.Bt
