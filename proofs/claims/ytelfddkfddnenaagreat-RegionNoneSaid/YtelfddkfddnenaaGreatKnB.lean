/- Closed functions that tell true, reckoned by the kernel. -/
import Derived.Test.YtelfddkfddnenaaGreatKnA
namespace Go.Proofs.YtelfddkfddnenaaGreat.Bt
open Go Ev Go.RowKit
set_option linter.unusedVariables false
set_option linter.unusedSimpArgs false
set_option maxRecDepth 10000000
theorem a8 : okR (run (ftK Tryz.prog 79 [321, 322]) 60 309) = true := by kernel_rfl
theorem k8 : KnOK Tryz.prog 309 (.b true) := kn_of jn mixed (l := [321, 322]) (fun g hg => by rcases List.mem_cons.1 hg with rfl | hg; exact k6; rw [List.mem_singleton.1 hg]; exact k7) a8
theorem a9 : okR (run (ftK Tryz.prog 79 [309]) 60 293) = true := by kernel_rfl
theorem k9 : KnOK Tryz.prog 293 (.b true) := kn_of jn mixed (l := [309]) (fun g hg => by rw [List.mem_singleton.1 hg]; exact k8) a9
end Go.Proofs.YtelfddkfddnenaaGreat.Bt
