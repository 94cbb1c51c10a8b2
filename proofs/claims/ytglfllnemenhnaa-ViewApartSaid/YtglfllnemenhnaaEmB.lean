/- The document's arena without pages. -/
import Derived.Test.YtglfllnemenhnaaEmA
namespace Go.Proofs.Ytglfllnemenhnaa.Bt
open Go Go.RowKit Go.Shelf
def NewZ (w : World) (e : Ending) (w' : World) : Prop := ∃ b, e = .returned (.agg #[.slice (some ⟨b, 0, none⟩) 0 0, .int .i64 (-1)]) ∧ Below w.heap.size w w'
theorem rnew_zero (w : World) : Calls Try.prog 17 #[.int .i64 0] w (NewZ w) := by
  have HMK : ∀ w : World, (Instr.makeSlice 37 (.int .i64 0) (.int .i64 0)).run Try.prog w = .ok (.slice (some ⟨w.heap.size, 0, none⟩) 0 0) (w.alloc (.cells #[] 9)) := fun w => run_strs 0 (by omega) w
  go_enter Try.func17, Try.ntmps17
  go_wp2_with fail
  have hb := below2 w (.cells #[.slice (some ⟨w.heap.size + 1, 0, none⟩) 0 0, .int .i64 (-1)] 39) (.cells #[] 9)
  exact bodyPost_ret (R := NewZ w) (v := docV (some ⟨w.heap.size + 1, 0, none⟩) 0 0 (-1)) (by simp [results, Try.results17, go_sem]) rfl ⟨_, rfl, hb⟩
end Go.Proofs.Ytglfllnemenhnaa.Bt
