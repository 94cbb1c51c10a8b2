/- Closed functions that tell true, reckoned by the kernel. -/
import Derived.Test.YtelfddkfddnenaaGreatKnG
namespace Go.Proofs.YtelfddkfddnenaaGreat.Bt
open Go Ev Go.RowKit
set_option linter.unusedVariables false
set_option linter.unusedSimpArgs false
set_option maxRecDepth 10000000
theorem aG : okR (run (ftK Tryz.prog 79 [21]) 60 4) = true := by kernel_rfl
theorem kG : KnOK Tryz.prog 4 (.b true) := kn_of jn mixed (l := [21]) (fun g hg => by rw [List.mem_singleton.1 hg]; exact k16) aG
theorem gnone (w : World) : Calls Tryz.prog 4 #[] w fun e w' => e = .returned (.bool true) ∧ Below w.heap.size w w' := kG.calls w
end Go.Proofs.YtelfddkfddnenaaGreat.Bt
