/- Noughts; numbers laid and read. -/
import Derived.Test.YtglfllnemenhnaaArFull
import Derived.Test.YtglfllnemenhnaaArDec
import Derived.Deep.DeepCutAuto
namespace Go.Proofs.Ytglfllnemenhnaa.Bt
open Go Go.RowKit Go.Shelf
set_option linter.unusedVariables false

theorem noughts_any (k : Nat) (hk : k ≤ 4294967296) (w : World) : Calls Try.prog 123 #[.int .i64 k] w fun e w' => e = .returned (.string (strL (List.replicate k 0))) ∧ Below w.heap.size w w' := by
  have HMK := run_bytes (a := 0) k (fun _ => 0) hk w
  have HCV : (convert 114 9 (.slice (some ⟨w.heap.size, 0, none⟩) k k)).run Try.prog (w.alloc (.cells (outV (a := 0) (n := k) (fun _ => 0) []) 5)) = .ok (.string (strL (List.replicate k 0))) (w.alloc (.cells (outV (a := 0) (n := k) (fun _ => 0) []) 5)) := by
    have h := run_convert_bytes_arg (P := Try.prog) (w.alloc (.cells (outV (a := 0) (n := k) (fun _ => 0) []) 5)) 114 5 Try.underlying114 Try.underlying5 w.heap.size 0 k k ((List.range k).map fun i => 0) (by simp) (fun i hi => by
      rw [(cell_blk (heap_new w _) _).1, Nat.zero_add, outV_get _ [] i hi]
      simp [List.getD_eq_getElem?_getD, hi, cov]) 9 Try.underlying9
    have e2 : strOfNums ((List.range k).map fun i => 0) = strL (List.replicate k 0) := by
      have e : ∀ l : List Nat, ((l.map fun _ => (0 : Int)).map fun n : Int => UInt8.ofNat n.toNat) = List.replicate l.length 0 := by
        intro l
        induction l with
        | nil => rfl
        | cons a l ih => rw [List.map_cons, List.map_cons, ih, List.length_cons, List.replicate_succ]; rfl
      unfold strOfNums strL
      rw [e, List.length_range]
    rw [e2] at h
    exact h
  go_enter Try.func123, Try.ntmps123
  go_wp2_with fail
  go_ret
  exact ⟨rfl, (Below.refl _ _).alloc (Nat.le_refl _) _⟩

theorem numV_congr {m m' : Nat → UInt8} {a k : Nat} (h : ∀ j, j < k → m (a + j) = m' (a + j)) : numV m a k = numV m' a k := by
  induction k with
  | zero => rfl
  | succ k ih => unfold numV; rw [ih fun j hj => h j (by omega), h k (by omega)]
theorem numV_store (m : Nat → UInt8) (a : Nat) (x : Int) (k : Nat) : numV (putM m a (numB x k)) a k = x.toNat % 2 ^ (8 * k) := by
  have key : ∀ j, j ≤ k → numV (putM m a (numB x k)) a j = x.toNat % 2 ^ (8 * j) := by
    intro j
    induction j with
    | zero => intro _; simp [numV, Nat.mod_one]
    | succ j ih =>
      intro hj
      unfold numV
      rw [ih (by omega), putM_in _ _ _ (by rw [numB_length]; omega)]
      have e : (numB x k).getD j 0 = byteN x j := by simp [numB, List.getD_eq_getElem?_getD, show j < k from by omega]
      rw [e]
      unfold byteN
      have e2 : 2 ^ (8 * (j + 1)) = 2 ^ (8 * j) * 256 := by rw [show 8 * (j + 1) = 8 * j + 8 from by omega, Nat.pow_add]
      rw [e2, Nat.mod_mul]
      simp [Nat.mul_comm]
  exact key k (Nat.le_refl k)
/-- no other bytes laid -/
theorem putS_full {m : Nat → UInt8} {y : Int} {x : List UInt8} (an kn : Nat) (h : y < 0 ∨ (an : Int) + kn ≤ y ∨ y + (x.length : Int) ≤ an) :
    ∃ m', putS (fullS 8 m) y x = fullS 8 m' ∧ ∀ j, j < kn → m' (an + j) = m (an + j) := by
  unfold putS
  split
  · rename_i ht
    have hy : 0 ≤ y := by
      have e := thereE_full (L := 8) (by omega) (by omega) y x.length
      rw [show thereE (fullS 8 m).L (fullS 8 m).es y x.length = thereE 8 [0, 8] y x.length from rfl] at ht
      rw [e] at ht
      split at ht
      · omega
      · cases ht
    exact ⟨putM m y.toNat x, rfl, fun j hj => putM_out _ _ _ (by omega)⟩
  · exact ⟨m, rfl, fun _ _ => rfl⟩
end Go.Proofs.Ytglfllnemenhnaa.Bt
