/- The plain mathematics of BitsRows: what the rows of a set are, how many each has, and together. -/
import Derived.Test.YtmkffkbhgdhkcaaBitsCountMath
import Derived.Test.YtmkffkbhgdhkcaaBitsCount
namespace Go.Proofs.Ytmkffkbhgdhkcaa.Bt
open Go

theorem flat_get : ∀ (l : List Pr) (j : Nat) (h : j < l.length), (flat l).getD (2 * j) 0 = (l[j].1.1 : Int) ∧ (flat l).getD (2 * j + 1) 0 = (l[j].1.2 : Int) := by
  intro l
  induction l with
  | nil => intro j h; simp at h
  | cons x t ih =>
    intro j h
    have e : flat (x :: t) = (x.1.1 : Int) :: (x.1.2 : Int) :: flat t := rfl
    rw [e]
    match j, h with
    | 0, _ => exact ⟨rfl, rfl⟩
    | j + 1, h =>
      have := ih j (by simpa using h)
      rw [show 2 * (j + 1) = 2 * j + 1 + 1 from by omega, List.getD_cons_succ, List.getD_cons_succ]
      exact ⟨this.1, by rw [show 2 * j + 1 + 1 + 1 = (2 * j + 1) + 1 + 1 from rfl, List.getD_cons_succ, List.getD_cons_succ]; exact this.2⟩
theorem pairs_len (es : List Nat) : (pairs es).length = es.length / 2 := by unfold pairs; rw [pairsTo_length]
theorem flat_pairs_len {L : Nat} {es : List Nat} (g : Good L es) : (flat (pairs es)).length = es.length := by rw [flat_length, pairs_len]; have := g.even; omega
theorem pairs_get {es : List Nat} {j : Nat} (h : j < (pairs es).length) : (pairs es)[j] = pairAt es j := by
  unfold pairs pairsTo at h ⊢; simp
/-- the j-th row as numbers -/
theorem rows_at {L : Nat} {es : List Nat} (g : Good L es) {j : Nat} (h : j < es.length / 2) :
    (flat (pairs es)).getD (2 * j) 0 = (es.getD (2 * j) 0 : Nat) ∧ (flat (pairs es)).getD (2 * j + 1) 0 = ((es.getD (2 * j + 1) 0 : Nat) : Int) - (es.getD (2 * j) 0 : Nat) ∧
    es.getD (2 * j) 0 < es.getD (2 * j + 1) 0 ∧ es.getD (2 * j + 1) 0 ≤ L := by
  have hl : 2 * j + 1 < es.length := by omega
  have hp : j < (pairs es).length := by rw [pairs_len]; exact h
  obtain ⟨f1, f2⟩ := flat_get (pairs es) j hp
  rw [pairs_get hp] at f1 f2
  obtain ⟨v1, v2⟩ := pair_vals g hl
  refine ⟨by rw [f1, v1], by rw [f2, v2], rising_get g.rising (by omega) hl, ?_⟩
  apply g.le; rw [List.getD_eq_getElem?_getD, List.getElem?_eq_getElem hl]; exact List.getElem_mem _
/-- behind k rows: how many numbers, and where the last one ends -/
def cntTo (es : List Nat) (k : Nat) : Int := ((List.range k).map fun j => ((es.getD (2 * j + 1) 0 : Nat) : Int) - (es.getD (2 * j) 0 : Nat)).sum
def endTo (es : List Nat) (k : Nat) : Int := if k = 0 then -1 else (es.getD (2 * k - 1) 0 : Nat)
theorem cntTo_succ (es : List Nat) (k : Nat) : cntTo es (k + 1) = cntTo es k + (((es.getD (2 * k + 1) 0 : Nat) : Int) - (es.getD (2 * k) 0 : Nat)) := by simp [cntTo, List.range_succ]
theorem endTo_succ (es : List Nat) (k : Nat) : endTo es (k + 1) = (es.getD (2 * k + 1) 0 : Nat) := by unfold endTo; rw [if_neg (by omega), show 2 * (k + 1) - 1 = 2 * k + 1 from by omega]
theorem endTo_lt {L : Nat} {es : List Nat} (g : Good L es) {k : Nat} (h : k < es.length / 2) : endTo es k < (es.getD (2 * k) 0 : Nat) := by
  unfold endTo
  by_cases h0 : k = 0
  · rw [if_pos h0]; omega
  · rw [if_neg h0]
    have := rising_get g.rising (show 2 * k - 1 < 2 * k by omega) (by omega)
    omega
theorem cntTo_bd {L : Nat} {es : List Nat} (g : Good L es) : ∀ k, k ≤ es.length / 2 → 0 ≤ cntTo es k ∧ cntTo es k ≤ endTo es k + 1 := by
  intro k
  induction k with
  | zero => intro _; simp [cntTo, endTo]
  | succ k ih =>
    intro h
    obtain ⟨_, _, h3, _⟩ := rows_at g (show k < es.length / 2 by omega)
    have h4 := endTo_lt g (show k < es.length / 2 by omega)
    have := ih (by omega)
    rw [cntTo_succ, endTo_succ]; omega
/-- each row is in the set -/
theorem count_row_is {L : Nat} {es : List Nat} (g : Good L es) {j : Nat} (h : j < es.length / 2) :
    withinB L (es.getD (2 * j) 0 : Nat) (((es.getD (2 * j + 1) 0 : Nat) : Int) - (es.getD (2 * j) 0 : Nat)) = true ∧
    countV L es (es.getD (2 * j) 0 : Nat) (((es.getD (2 * j + 1) 0 : Nat) : Int) - (es.getD (2 * j) 0 : Nat)) = ((es.getD (2 * j + 1) 0 : Nat) : Int) - (es.getD (2 * j) 0 : Nat) := by
  obtain ⟨_, _, h3, h4⟩ := rows_at g h
  have hw : withinB L (es.getD (2 * j) 0 : Nat) (((es.getD (2 * j + 1) 0 : Nat) : Int) - (es.getD (2 * j) 0 : Nat)) = true := by
    generalize es.getD (2 * j) 0 = a at *
    generalize es.getD (2 * j + 1) 0 = c at *
    unfold withinB; simp; omega
  refine ⟨hw, ?_⟩
  unfold countV
  rw [hw, if_pos rfl]
  unfold memCount
  rw [List.countP_eq_length.2 fun i hi => ?_]
  · simp only [List.length_range]; omega
  · have hi' := List.mem_range.1 hi
    have hc : cnt es ((((es.getD (2 * j) 0 : Nat) : Int).toNat : Int) + i + 1) = 2 * j + 1 := by
      refine cnt_of (by omega) (fun k hk => ?_) (fun k hk hl => ?_)
      · by_cases e : k = 2 * j
        · subst e; omega
        · have := rising_get g.rising (show k < 2 * j by omega) (by omega); omega
      · by_cases e : k = 2 * j + 1
        · subst e; omega
        · have := rising_get g.rising (show 2 * j + 1 < k by omega) hl; omega
    unfold mem
    rw [hc]; unfold insB; simp
/-- all together -/
theorem count_total {L : Nat} {es : List Nat} (g : Good L es) : withinB L 0 L = true ∧ countV L es 0 L = cntTo es (es.length / 2) := by
  have hw : withinB L 0 L = true := by unfold withinB; simp
  refine ⟨hw, ?_⟩
  unfold countV
  rw [hw, if_pos rfl, memCount_sum g]
  unfold sumP cntTo pairs pairsTo
  rw [List.map_map]
  congr 1
  refine List.map_congr_left fun j hj => ?_
  have hj' := List.mem_range.1 hj
  obtain ⟨_, _, h3, h4⟩ := rows_at g hj'
  obtain ⟨v1, v2⟩ := pair_vals g (show 2 * j + 1 < es.length by omega)
  show ovP _ _ (pairAt es j) = _
  unfold ovP ovI
  rw [v2, v1]
  simp only [Int.toNat_natCast, Int.toNat_zero]
  omega
end Go.Proofs.Ytmkffkbhgdhkcaa.Bt
