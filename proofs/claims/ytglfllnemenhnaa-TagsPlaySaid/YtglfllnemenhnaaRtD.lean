/- The document's Lay of tags: what is refused. -/
import Derived.Test.YtglfllnemenhnaaRtC
namespace Go.Proofs.Ytglfllnemenhnaa.Bt
open Go Go.RowKit Go.Shelf
set_option linter.unusedVariables false
set_option linter.unusedSimpArgs false
set_option maxRecDepth 100000 in
theorem rlay_arg (p : Option Addr) (n cap : Nat) (i o st : Int) (h : o < 0 ∨ (¬ o < 0 ∧ 10 < o) ∨ (¬ o < 0 ∧ ¬ 10 < o ∧ st = 1) ∨ (¬ o < 0 ∧ ¬ 10 < o ∧ ¬ st = 1 ∧ 3 < st)) (w : World) :
    Calls Try.prog 33 #[.slice p n cap, .int .i64 i, .int .i64 o, .int .u8 st] w fun e w' => e = .returned (.tuple #[.slice p n cap, .int .i64 2]) ∧ w = w' := by
  have hd : decide (o < 0) = true ∨ (decide (o < 0) = false ∧ decide (10 < o) = true) ∨ (decide (o < 0) = false ∧ decide (10 < o) = false ∧ (st == 1) = true) ∨ (decide (o < 0) = false ∧ decide (10 < o) = false ∧ (st == 1) = false ∧ decide (3 < st) = true) := by
    rcases h with h | ⟨h1, h2⟩ | ⟨h1, h2, h3⟩ | ⟨h1, h2, h3, h4⟩
    · exact .inl (decide_eq_true h)
    · exact .inr (.inl ⟨decide_eq_false h1, decide_eq_true h2⟩)
    · exact .inr (.inr (.inl ⟨decide_eq_false h1, decide_eq_false h2, by simpa using h3⟩))
    · exact .inr (.inr (.inr ⟨decide_eq_false h1, decide_eq_false h2, by simpa using h3, decide_eq_true h4⟩))
  clear h
  rcases hd with d0 | ⟨d0, d1⟩ | ⟨d0, d1, d2⟩ | ⟨d0, d1, d2, d3⟩
  all_goals
    go_enter Try.func33, Try.ntmps33
    go_wp2_with fail
    go_ret2
    exact ⟨rfl, rfl⟩
set_option maxRecDepth 100000 in
theorem rlay_no (p : Option Addr) (n cap : Nat) (hn : n ≤ 2000) (i st : Int) (on : Nat) (ho : on ≤ 10) (hs1 : st ≠ 1) (hs3 : st ≤ 3) (h : i < 0 ∨ (¬ i < 0 ∧ n < 2 ^ on) ∨ (¬ i < 0 ∧ ¬ n < 2 ^ on ∧ (n : Int) - (2 ^ on : Nat) < i)) (w : World) :
    Calls Try.prog 33 #[.slice p n cap, .int .i64 i, .int .i64 (on : Int), .int .u8 st] w fun e w' => e = .returned (.tuple #[.slice p n cap, .int .i64 3]) ∧ w = w' := by
  have HP := Lib.hid (fun w => rpages_any on ho w)
  have hpb : 1 ≤ 2 ^ on ∧ 2 ^ on ≤ 1024 := (pow_n on (by omega)).2
  obtain ⟨P, hP⟩ : ∃ P, 2 ^ on = P := ⟨_, rfl⟩
  rw [hP] at HP hpb h
  clear hP
  have d0 : decide ((on : Int) < 0) = false := decide_eq_false (by omega)
  have d1 : decide (10 < (on : Int)) = false := decide_eq_false (by omega)
  have d2 : (st == 1) = false := by simpa using hs1
  have d3 : decide (3 < st) = false := decide_eq_false (by omega)
  have hd : decide (i < 0) = true ∨ (decide (i < 0) = false ∧ decide (n < P) = true) ∨ (decide (i < 0) = false ∧ decide (n < P) = false ∧ decide ((n : Int) - (P : Int) < i) = true) := by
    rcases h with h | ⟨h1, h2⟩ | ⟨h1, h2, h3⟩
    · exact .inl (decide_eq_true h)
    · exact .inr (.inl ⟨decide_eq_false h1, decide_eq_true h2⟩)
    · exact .inr (.inr ⟨decide_eq_false h1, decide_eq_false h2, decide_eq_true h3⟩)
  clear h ho hs1 hs3
  rcases hd with e0 | ⟨e0, e1⟩ | ⟨e0, e1, e2⟩
  all_goals
    go_enter Try.func33, Try.ntmps33
    go_wp2_with fail
    refine (HP.out _).mono ?_
    rintro e w' ⟨rfl, rfl⟩
    go_wp2_with fail
    go_ret2
    exact ⟨rfl, rfl⟩
end Go.Proofs.Ytglfllnemenhnaa.Bt
