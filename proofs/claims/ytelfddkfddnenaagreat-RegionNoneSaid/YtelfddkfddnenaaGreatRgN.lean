/- Closed functions that tell true, reckoned by the kernel. -/
import Derived.Test.YtelfddkfddnenaaGreatKnF
namespace Go.Proofs.YtelfddkfddnenaaGreat.Bt
open Go Ev Go.RowKit
set_option linter.unusedVariables false
set_option linter.unusedSimpArgs false
set_option maxRecDepth 10000000
theorem aR : okR (run (ftK Tryz.prog 79 [8]) 60 3) = true := by kernel_rfl
theorem kR : KnOK Tryz.prog 3 (.b true) := kn_of jn mixed (l := [8]) (fun g hg => by rw [List.mem_singleton.1 hg]; exact k15) aR
theorem rnone (w : World) : Calls Tryz.prog 3 #[] w fun e w' => e = .returned (.bool true) ∧ Below w.heap.size w w' := kR.calls w
end Go.Proofs.YtelfddkfddnenaaGreat.Bt
