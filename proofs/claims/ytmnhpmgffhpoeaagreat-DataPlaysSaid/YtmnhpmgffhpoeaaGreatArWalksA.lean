/- The contracts of an arena's Cap, Pages, Has, Committed, count, there, number: what each returns, and that nothing that was there is turned. -/
import Derived.Test.YtmnhpmgffhpoeaaGreatArAt
namespace Go.Proofs.YtmnhpmgffhpoeaaGreat.Bt
open Go Go.RowKit

section
variable {A P n cap : Nat} {s : ASt} {ps : List (Option Nat)} {p : Option Addr} {w : World}

theorem cap_any (h : ArX A s P ps p n cap w) :
    Calls Tryz.prog 88 #[.pointer (some ⟨A, 0, none⟩)] w fun e w' => e = .returned (.int .i64 (s.L : Int)) ∧ w = w' := by
  obtain ⟨c0, c1, c2, c3, c4⟩ := h.head
  clear h
  go_enter Tryz.func88, Tryz.ntmps88
  go_wp2_with fail
  go_ret
  exact ⟨rfl, rfl⟩
theorem cap_nil (w : World) : Calls Tryz.prog 88 #[.pointer none] w fun e w' => e = .returned (.int .i64 0) ∧ w = w' := by
  go_enter Tryz.func88, Tryz.ntmps88
  go_wp2_with fail
  go_ret
  exact ⟨rfl, rfl⟩

theorem there_nil (a n : Int) (w : World) : Calls Tryz.prog 53 #[.pointer none, .int .i64 a, .int .i64 n] w fun e w' => e = .returned (.int .i64 1) ∧ w = w' := by
  go_enter Tryz.func53, Tryz.ntmps53
  go_wp2_with fail
  go_ret
  exact ⟨rfl, rfl⟩
theorem there_any (h : ArX A s P ps p n cap w) (a k : Int) (ha : a ≤ 9223372036854775807) :
    Calls Tryz.prog 53 #[.pointer (some ⟨A, 0, none⟩), .int .i64 a, .int .i64 k] w fun e w' => e = .returned (.int .i64 (thereE s.L s.es a k)) ∧ Below w.heap.size w w' := by
  obtain ⟨c0, c1, c2, c3, c4⟩ := h.head
  have g := h.good
  have hg := g.small
  have HE := Lib.hid h.edges
  have HN := Lib.hid h.num
  clear h
  by_cases h1 : a < 0
  · have HR : Hid (thereE s.L s.es a k = 3) := Lib.hid (by unfold thereE thereB; rw [show decide (0 ≤ a ∧ 0 ≤ k ∧ k ≤ (s.L : Int) * 4096 - a) = false from by simp; omega]; rfl)
    have hd : decide (a < 0) = true := by simpa using h1
    go_enter Tryz.func53, Tryz.ntmps53
    go_wp2_with fail
    go_ret
    exact ⟨by rw [HR.out]; rfl, Below.refl _ _⟩
  have d1 : decide (a < 0) = false := by simpa using h1
  by_cases h2 : k < 0
  · have HR : Hid (thereE s.L s.es a k = 3) := Lib.hid (by unfold thereE thereB; rw [show decide (0 ≤ a ∧ 0 ≤ k ∧ k ≤ (s.L : Int) * 4096 - a) = false from by simp; omega]; rfl)
    have hd : decide (k < 0) = true := by simpa using h2
    go_enter Tryz.func53, Tryz.ntmps53
    go_wp2_with fail
    go_ret
    exact ⟨by rw [HR.out]; rfl, Below.refl _ _⟩
  have d2 : decide (k < 0) = false := by simpa using h2
  by_cases h3 : (s.L : Int) * 4096 - a < k
  · have HR : Hid (thereE s.L s.es a k = 3) := Lib.hid (by unfold thereE thereB; rw [show decide (0 ≤ a ∧ 0 ≤ k ∧ k ≤ (s.L : Int) * 4096 - a) = false from by simp; omega]; rfl)
    have hd : decide ((s.L : Int) * 4096 - a < k) = true := by simpa using h3
    go_enter Tryz.func53, Tryz.ntmps53
    go_wp2_with fail
    go_ret
    exact ⟨by rw [HR.out]; rfl, Below.refl _ _⟩
  have d3 : decide ((s.L : Int) * 4096 - a < k) = false := by simpa using h3
  have hin : decide (0 ≤ a ∧ 0 ≤ k ∧ k ≤ (s.L : Int) * 4096 - a) = true := by simp; omega
  by_cases h4 : k = 0
  · have HR : Hid (thereE s.L s.es a k = 0) := Lib.hid (by unfold thereE thereB; rw [hin, decide_eq_true h4]; rfl)
    have hd : (k == 0) = true := by simpa using h4
    clear h4 hin
    go_enter Tryz.func53, Tryz.ntmps53
    go_wp2_with fail
    go_ret
    exact ⟨by rw [HR.out]; rfl, Below.refl _ _⟩
  have d4 : (k == 0) = false := by simpa using h4
  have hq : a / 4096 ≤ 9223372036854775807 := by omega
  have HQ : Hid (thereE s.L s.es a k = if (firstB s.L s.es (a / 4096) false && decide (firstV s.L s.es (a / 4096) false ≤ (a + k - 1) / 4096)) then 3 else 0) := Lib.hid (by
    unfold thereE thereB; rw [hin, decide_eq_false h4]
    cases firstB s.L s.es (a / 4096) false && decide (firstV s.L s.es (a / 4096) false ≤ (a + k - 1) / 4096) <;> rfl)
  have hk1 : 1 ≤ k := by omega
  clear hin h4
  go_enter Tryz.func53, Tryz.ntmps53
  go_wp2_with fail
  refine (first_any s.L p n cap s.es (a / 4096) false _ g HE.out HN.out).mono ?_
  rintro e w1 ⟨rfl, hb1⟩
  cases hfb : firstB s.L s.es (a / 4096) false with
  | false =>
    rw [hfb] at HQ
    clear hfb
    go_wp2_with fail
    go_ret
    exact ⟨by rw [HQ.out]; rfl, hb1⟩
  | true =>
    rw [hfb] at HQ
    clear hfb
    generalize firstV s.L s.es (a / 4096) false = v at *
    by_cases hv : v ≤ (a + k - 1) / 4096
    · have hdv : decide (v ≤ (a + k - 1) / 4096) = true := by simpa using hv
      rw [hdv] at HQ
      go_wp2_with fail
      go_ret
      exact ⟨by rw [HQ.out]; rfl, hb1⟩
    · have hdv : decide (v ≤ (a + k - 1) / 4096) = false := by simpa using hv
      rw [hdv] at HQ
      go_wp2_with fail
      go_ret
      exact ⟨by rw [HQ.out]; rfl, hb1⟩
end
end Go.Proofs.YtmnhpmgffhpoeaaGreat.Bt
