/- The document's functions on a buddy: free. -/
import Derived.Test.YtfemgekhpcgliaaGreatBrC
namespace Go.Proofs.YtfemgekhpcgliaaGreat.Bt
open Go Go.RowKit Go.Shelf
set_option linter.unusedVariables false
set_option linter.unusedSimpArgs false
theorem Tryz.infoBl : (Tryz.prog.info? 4).map (fun i => (i.zero, i.size, i.bytes)) = some (some (.bool false), 1, 1) := by kernel_rfl
theorem made_bools (n : Nat) : madeCells (Value.bool false).cells (n * 1) = bC n (fun _ => false) := by
  apply Array.ext_getElem?
  intro i
  by_cases hi : i < n
  · rw [bC_at _ _ _ hi]
    simp [madeCells, hi, Value.cells, Nat.mod_one]
  · rw [Array.getElem?_eq_none (by rw [size_madeCells]; omega), Array.getElem?_eq_none (by rw [bC_size]; omega)]
theorem run_bools (n : Nat) (hn : n ≤ 2000) (w : World) :
    (Instr.makeSlice 106 (.int .i64 (n : Int)) (.int .i64 (n : Int))).run Tryz.prog w = .ok (.slice (some ⟨w.heap.size, 0, none⟩) n n) (w.alloc (.cells (bC n (fun _ => false)) 4)) := by
  obtain ⟨i0, hi, hz0, hz1, hz2⟩ := info_parts Tryz.infoBl
  have h := run_make (P := Tryz.prog) w 106 4 i0 (.bool false) Tryz.underlying106 hi hz0 .i64 .i64 (n : Int) n (by omega) (Int.le_refl _) (by rw [hz2]; omega) (by omega)
  rw [Int.toNat_natCast, hz1, made_bools] at h
  exact h
theorem BolAt.ext {b n : Nat} {f f' : Nat → Bool} {w : World} (h : BolAt b n f w) (e : ∀ i, i < n → f i = f' i) : BolAt b n f' w := by
  have : bC n f = bC n f' := by
    unfold bC
    congr 1
    exact List.map_congr_left fun i hi => by rw [e i (List.mem_range.1 hi)]
  unfold BolAt
  rw [← this]; exact h
theorem BolAt.set {b n : Nat} {f : Nat → Bool} {w : World} (h : BolAt b n f w) (i : Nat) (hi : i < n) (v : Bool) : BolAt b n (fun p => if p = i then v else f p) (w.setCell ⟨b, i, none⟩ (.bool v)) := by
  unfold BolAt
  have e : (bC n f).set! i (.bool v) = bC n (fun p => if p = i then v else f p) := by
    apply Array.ext_getElem?
    intro j
    by_cases hj : j < n
    · rw [bC_at _ _ _ hj, Array.set!_eq_setIfInBounds, Array.getElem?_setIfInBounds]
      by_cases c : i = j
      · subst c; rw [if_pos rfl, if_pos (by rw [bC_size]; exact hi), if_pos rfl]
      · rw [if_neg c, bC_at _ _ _ hj, if_neg (fun q => c q.symm)]
    · rw [Array.getElem?_eq_none (by simp [bC_size]; omega), Array.getElem?_eq_none (by rw [bC_size]; omega)]
  rw [← e]
  exact heap_set h _
def inR (y : Nat × Nat × Bool) (k p : Nat) : Bool := decide (y.1 ≤ p ∧ p < y.1 + k)
def freeF (L : List (Nat × Nat × Bool)) (p : Nat) : Bool := L.all fun y => !inR y (2 ^ y.2.1) p
theorem freeF_snoc (L : List (Nat × Nat × Bool)) (y : Nat × Nat × Bool) (p : Nat) : freeF (L ++ [y]) p = (freeF L p && !inR y (2 ^ y.2.1) p) := by
  unfold freeF; rw [List.all_append]; simp
theorem take_snoc {L : List (Nat × Nat × Bool)} {j : Nat} (h : j < L.length) : L.take (j + 1) = L.take j ++ [L.getD j r0] := by
  rw [List.take_add_one, List.getElem?_eq_getElem h, List.getD_eq_getElem?_getD, List.getElem?_eq_getElem h]; rfl
theorem inR_step (y : Nat × Nat × Bool) (k p : Nat) (b : Bool) : (if p = y.1 + k then false else (b && !inR y k p)) = (b && !inR y (k + 1) p) := by
  unfold inR
  by_cases e : p = y.1 + k
  · rw [if_pos e, decide_eq_true (by omega)]; simp
  · rw [if_neg e]
    have : decide (y.1 ≤ p ∧ p < y.1 + k) = decide (y.1 ≤ p ∧ p < y.1 + (k + 1)) := by
      congr 1; exact propext ⟨fun _ => by omega, fun _ => by omega⟩
    rw [this]
end Go.Proofs.YtfemgekhpcgliaaGreat.Bt
