/- Closed functions that tell true, reckoned by the kernel. -/
import Derived.Test.YtelfddkfddnenaaGreatKnF
namespace Go.Proofs.YtelfddkfddnenaaGreat.Bt
open Go Ev Go.RowKit
set_option linter.unusedVariables false
set_option linter.unusedSimpArgs false
set_option maxRecDepth 10000000
theorem a16 : okR (run (ftK Tryz.prog 79 [8]) 60 21) = true := by kernel_rfl
theorem k16 : KnOK Tryz.prog 21 (.b true) := kn_of jn mixed (l := [8]) (fun g hg => by rw [List.mem_singleton.1 hg]; exact k15) a16
end Go.Proofs.YtelfddkfddnenaaGreat.Bt
