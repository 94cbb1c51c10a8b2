/- Noughts; numbers laid and read. -/
import Derived.Test.YtdmaendhkenmgaaArNumM
import Derived.Deep.DeepCutAuto
namespace Go.Proofs.Ytdmaendhkenmgaa.Bt
open Go Go.RowKit Go.Shelf
set_option linter.unusedVariables false

theorem noughts_any (k : Nat) (hk : k ≤ 4294967296) (w : World) : Calls Try.prog 70 #[.int .i64 k] w fun e w' => e = .returned (.string (strL (List.replicate k 0))) ∧ Below w.heap.size w w' := by
  have HMK := run_bytes (a := 0) k (fun _ => 0) hk w
  have HCV : (convert 130 9 (.slice (some ⟨w.heap.size, 0, none⟩) k k)).run Try.prog (w.alloc (.cells (outV (a := 0) (n := k) (fun _ => 0) []) 5)) = .ok (.string (strL (List.replicate k 0))) (w.alloc (.cells (outV (a := 0) (n := k) (fun _ => 0) []) 5)) := by
    have h := run_convert_bytes_arg (P := Try.prog) (w.alloc (.cells (outV (a := 0) (n := k) (fun _ => 0) []) 5)) 130 5 Try.underlying130 Try.underlying5 w.heap.size 0 k k ((List.range k).map fun i => 0) (by simp) (fun i hi => by
      rw [(cell_blk (heap_new w _) _).1, Nat.zero_add, outV_get _ [] i hi]
      simp [List.getD_eq_getElem?_getD, hi, cov]) 9 Try.underlying9
    have e2 : strOfNums ((List.range k).map fun i => 0) = strL (List.replicate k 0) := by
      have e : ∀ l : List Nat, ((l.map fun _ => (0 : Int)).map fun n : Int => UInt8.ofNat n.toNat) = List.replicate l.length 0 := by
        intro l
        induction l with
        | nil => rfl
        | cons a l ih => rw [List.map_cons, List.map_cons, ih, List.length_cons, List.replicate_succ]; rfl
      unfold strOfNums strL
      rw [e, List.length_range]
    rw [e2] at h
    exact h
  go_enter Try.func70, Try.ntmps70
  go_wp2_with fail
  go_ret
  exact ⟨rfl, (Below.refl _ _).alloc (Nat.le_refl _) _⟩
end Go.Proofs.Ytdmaendhkenmgaa.Bt
