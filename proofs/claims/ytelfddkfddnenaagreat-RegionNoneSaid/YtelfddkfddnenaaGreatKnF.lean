/- Closed functions that tell true, reckoned by the kernel. -/
import Derived.Test.YtelfddkfddnenaaGreatKnE
namespace Go.Proofs.YtelfddkfddnenaaGreat.Bt
open Go Ev Go.RowKit
set_option linter.unusedVariables false
set_option linter.unusedSimpArgs false
set_option maxRecDepth 10000000
theorem a15 : okR (run (ftK Tryz.prog 79 [111, 112]) 60 8) = true := by kernel_rfl
theorem k15 : KnOK Tryz.prog 8 (.b true) := kn_of jn mixed (l := [111, 112]) (fun g hg => by rcases List.mem_cons.1 hg with rfl | hg; exact k13; rw [List.mem_singleton.1 hg]; exact k14) a15
end Go.Proofs.YtelfddkfddnenaaGreat.Bt
