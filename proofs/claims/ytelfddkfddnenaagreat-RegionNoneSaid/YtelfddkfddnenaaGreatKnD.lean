/- Closed functions that tell true, reckoned by the kernel. -/
import Derived.Test.YtelfddkfddnenaaGreatKnC
namespace Go.Proofs.YtelfddkfddnenaaGreat.Bt
open Go Ev Go.RowKit
set_option linter.unusedVariables false
set_option linter.unusedSimpArgs false
set_option maxRecDepth 10000000
theorem a12 : okR (run (ftK Tryz.prog 79 [293, 294]) 60 238) = true := by kernel_rfl
theorem k12 : KnOK Tryz.prog 238 (.b true) := kn_of jn mixed (l := [293, 294]) (fun g hg => by rcases List.mem_cons.1 hg with rfl | hg; exact k9; rw [List.mem_singleton.1 hg]; exact k11) a12
end Go.Proofs.YtelfddkfddnenaaGreat.Bt
