/- The plain mathematics of layer 1 (sizes): no program, no condition. -/
import GoSem.Claim
import Derived.WalkKit
namespace Go.Proofs.Ytioiipilgljeeaa.Sz
open Go

def isSz (n : Int) : Bool := decide (0 ≤ n ∧ n ≤ 4294967296)
def wholeB (a : Int) : Bool := decide (a ∈ [1, 2, 4, 8, 16, 32, 64, 128, 256, 512, 1024, 2048, 4096])
def upV (n a : Int) : Int := if isSz n && wholeB a then (n + a - 1) / a * a else 0
def upB (n a : Int) : Bool := isSz n && wholeB a
def pgV (n : Int) : Int := if isSz n then (n + 4095) / 4096 else 0
def ordV (p : Int) : Int := if p < 1 then 0 else if p ≤ 1 then 0 else if p ≤ 2 then 1 else if p ≤ 4 then 2 else if p ≤ 8 then 3 else if p ≤ 16 then 4 else if p ≤ 32 then 5 else if p ≤ 64 then 6 else if p ≤ 128 then 7 else if p ≤ 256 then 8 else if p ≤ 512 then 9 else if p ≤ 1024 then 10 else 0
def ordB (p : Int) : Bool := decide (1 ≤ p ∧ p ≤ 1024)
def spanV (o : Int) : Int := if o < 0 then 0 else if 10 < o then 0 else 4096 * 2 ^ o.toNat
def pw (j : Nat) : Int := 2 ^ j

theorem isSz_true {n : Int} (h : isSz n = true) : 0 ≤ n ∧ n ≤ 4294967296 := by simpa [isSz] using h
theorem isSz_false {n : Int} (h : isSz n = false) : ¬ (0 ≤ n ∧ n ≤ 4294967296) := by simpa [isSz] using h
theorem isSz_mk {n : Int} (h : 0 ≤ n ∧ n ≤ 4294967296) : isSz n = true := by simpa [isSz] using h
theorem isSz_no {n : Int} (h : ¬ (0 ≤ n ∧ n ≤ 4294967296)) : isSz n = false := by simpa [isSz] using h

theorem wholeB_cases {a : Int} (h : wholeB a = true) : a = 1 ∨ a = 2 ∨ a = 4 ∨ a = 8 ∨ a = 16 ∨ a = 32 ∨ a = 64 ∨ a = 128 ∨ a = 256 ∨ a = 512 ∨ a = 1024 ∨ a = 2048 ∨ a = 4096 := by
  simpa [wholeB] using h
theorem wholeB_range {a : Int} (h : wholeB a = true) : 1 ≤ a ∧ a ≤ 4096 := by
  rcases wholeB_cases h with h | h | h | h | h | h | h | h | h | h | h | h | h <;> omega

theorem up_bd {n a : Int} (h : isSz n = true) (ha : wholeB a = true) : n ≤ (n + a - 1) / a * a ∧ (n + a - 1) / a * a ≤ 4294967296 ∧ (n + a - 1) / a * a - n < a ∧ (n + a - 1) / a * a % a = 0 := by
  have := isSz_true h
  rcases wholeB_cases ha with rfl | rfl | rfl | rfl | rfl | rfl | rfl | rfl | rfl | rfl | rfl | rfl | rfl <;> omega
/-- the document's way to round up is the program's -/
theorem up_ref0 {n a : Int} (h : isSz n = true) (ha : wholeB a = true) (hz : n % a = 0) : (n + a - 1) / a * a = n := by
  have := isSz_true h
  rcases wholeB_cases ha with rfl | rfl | rfl | rfl | rfl | rfl | rfl | rfl | rfl | rfl | rfl | rfl | rfl <;> omega
theorem up_ref1 {n a : Int} (h : isSz n = true) (ha : wholeB a = true) (hz : ¬ n % a = 0) : (n + a - 1) / a * a = n - n % a + a := by
  have := isSz_true h
  rcases wholeB_cases ha with rfl | rfl | rfl | rfl | rfl | rfl | rfl | rfl | rfl | rfl | rfl | rfl | rfl <;> omega

theorem pw_succ (j : Nat) : pw (j + 1) = 2 * pw j := by unfold pw; rw [Int.pow_succ]; omega
theorem pw_pos (j : Nat) : 1 ≤ pw j := by
  induction j with
  | zero => decide
  | succ j ih => rw [pw_succ]; omega
theorem pw_mono {i j : Nat} (h : i ≤ j) : pw i ≤ pw j := by
  induction h with
  | refl => omega
  | step _ ih => rw [pw_succ]; have := pw_pos i; omega
theorem pw_12 : pw 12 = 4096 := by decide
theorem pw_13 : pw 13 = 8192 := by decide
theorem pw_10 : pw 10 = 1024 := by decide

theorem wholeB_pw (j : Nat) (h : j ≤ 12) : wholeB (pw j) = true := by
  match j, h with
  | 0, _ | 1, _ | 2, _ | 3, _ | 4, _ | 5, _ | 6, _ | 7, _ | 8, _ | 9, _ | 10, _ | 11, _ | 12, _ => decide
  | n + 13, h => omega
theorem wholeB_none (a : Int) (h : ∀ i, i < 13 → pw i ≠ a) : wholeB a = false := by
  cases hw : wholeB a with
  | false => rfl
  | true =>
    exfalso
    rcases wholeB_cases hw with rfl | rfl | rfl | rfl | rfl | rfl | rfl | rfl | rfl | rfl | rfl | rfl | rfl
    · exact h 0 (by omega) (by decide)
    · exact h 1 (by omega) (by decide)
    · exact h 2 (by omega) (by decide)
    · exact h 3 (by omega) (by decide)
    · exact h 4 (by omega) (by decide)
    · exact h 5 (by omega) (by decide)
    · exact h 6 (by omega) (by decide)
    · exact h 7 (by omega) (by decide)
    · exact h 8 (by omega) (by decide)
    · exact h 9 (by omega) (by decide)
    · exact h 10 (by omega) (by decide)
    · exact h 11 (by omega) (by decide)
    · exact h 12 (by omega) (by decide)
/-- 'a & (a - 1) is nought' says the same -/
theorem whole_bits_nat : ∀ i : Fin 64, ∀ j : Fin 64, (bits .and .i64 ((64 * i.val + j.val + 1 : Nat) : Int) (((64 * i.val + j.val + 1 : Nat) : Int) - 1) == 0) = wholeB ((64 * i.val + j.val + 1 : Nat) : Int) := by decide +kernel
theorem whole_bits (a : Int) (h1 : 1 ≤ a) (h2 : a ≤ 4096) : (bits .and .i64 a (a - 1) == 0) = wholeB a := by
  obtain ⟨k, rfl⟩ : ∃ k : Nat, a = ((k + 1 : Nat) : Int) := ⟨(a - 1).toNat, by omega⟩
  have h := whole_bits_nat ⟨k / 64, by omega⟩ ⟨k % 64, by omega⟩
  simpa [show 64 * (k / 64) + k % 64 = k from by omega] using h
theorem whole_no (a : Int) (h : a < 1 ∨ 4096 < a) : wholeB a = false := by
  cases hw : wholeB a with
  | false => rfl
  | true => have := wholeB_range hw; omega
end Go.Proofs.Ytioiipilgljeeaa.Sz
