/- Numbers laid and read. -/
import Derived.Test.YtllghngjnhbmaaaArFull
import Derived.Test.YtllghngjnhbmaaaArDec
import Derived.Deep.DeepCutAuto
namespace Go.Proofs.Ytllghngjnhbmaaa.Bt
open Go Go.RowKit Go.Shelf
set_option linter.unusedVariables false

theorem numV_congr {m m' : Nat → UInt8} {a k : Nat} (h : ∀ j, j < k → m (a + j) = m' (a + j)) : numV m a k = numV m' a k := by
  induction k with
  | zero => rfl
  | succ k ih => unfold numV; rw [ih fun j hj => h j (by omega), h k (by omega)]
theorem numV_store (m : Nat → UInt8) (a : Nat) (x : Int) (k : Nat) : numV (putM m a (numB x k)) a k = x.toNat % 2 ^ (8 * k) := by
  have key : ∀ j, j ≤ k → numV (putM m a (numB x k)) a j = x.toNat % 2 ^ (8 * j) := by
    intro j
    induction j with
    | zero => intro _; simp [numV, Nat.mod_one]
    | succ j ih =>
      intro hj
      unfold numV
      rw [ih (by omega), putM_in _ _ _ (by rw [numB_length]; omega)]
      have e : (numB x k).getD j 0 = byteN x j := by simp [numB, List.getD_eq_getElem?_getD, show j < k from by omega]
      rw [e]
      unfold byteN
      have e2 : 2 ^ (8 * (j + 1)) = 2 ^ (8 * j) * 256 := by rw [show 8 * (j + 1) = 8 * j + 8 from by omega, Nat.pow_add]
      rw [e2, Nat.mod_mul]
      simp [Nat.mul_comm]
  exact key k (Nat.le_refl k)
/-- no other bytes laid -/
theorem putS_full {m : Nat → UInt8} {y : Int} {x : List UInt8} (an kn : Nat) (h : y < 0 ∨ (an : Int) + kn ≤ y ∨ y + (x.length : Int) ≤ an) :
    ∃ m', putS (fullS 8 m) y x = fullS 8 m' ∧ ∀ j, j < kn → m' (an + j) = m (an + j) := by
  unfold putS
  split
  · rename_i ht
    have hy : 0 ≤ y := by
      have e := thereE_full (L := 8) (by omega) (by omega) y x.length
      rw [show thereE (fullS 8 m).L (fullS 8 m).es y x.length = thereE 8 [0, 8] y x.length from rfl] at ht
      rw [e] at ht
      split at ht
      · omega
      · cases ht
    exact ⟨putM m y.toNat x, rfl, fun j hj => putM_out _ _ _ (by omega)⟩
  · exact ⟨m, rfl, fun _ _ => rfl⟩
end Go.Proofs.Ytllghngjnhbmaaa.Bt
