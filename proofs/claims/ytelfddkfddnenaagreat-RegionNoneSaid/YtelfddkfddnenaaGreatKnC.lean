/- Closed functions that tell true, reckoned by the kernel. -/
import Derived.Test.YtelfddkfddnenaaGreatKnB
namespace Go.Proofs.YtelfddkfddnenaaGreat.Bt
open Go Ev Go.RowKit
set_option linter.unusedVariables false
set_option linter.unusedSimpArgs false
set_option maxRecDepth 10000000
theorem a10 : okR (run (ftK Tryz.prog 79 [135]) 60 239) = true := by kernel_rfl
theorem k10 : KnOK Tryz.prog 239 (.b true) := kn_of jn mixed (l := [135]) (fun g hg => by rw [List.mem_singleton.1 hg]; exact k5) a10
theorem a11 : okR (run (ftK Tryz.prog 79 [239]) 60 294) = true := by kernel_rfl
theorem k11 : KnOK Tryz.prog 294 (.b true) := kn_of jn mixed (l := [239]) (fun g hg => by rw [List.mem_singleton.1 hg]; exact k10) a11
theorem a14 : okR (run (ftK Tryz.prog 79 [239]) 60 112) = true := by kernel_rfl
theorem k14 : KnOK Tryz.prog 112 (.b true) := kn_of jn mixed (l := [239]) (fun g hg => by rw [List.mem_singleton.1 hg]; exact k10) a14
end Go.Proofs.YtelfddkfddnenaaGreat.Bt
