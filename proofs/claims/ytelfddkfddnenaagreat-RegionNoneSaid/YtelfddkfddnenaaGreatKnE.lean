/- Closed functions that tell true, reckoned by the kernel. -/
import Derived.Test.YtelfddkfddnenaaGreatKnD
namespace Go.Proofs.YtelfddkfddnenaaGreat.Bt
open Go Ev Go.RowKit
set_option linter.unusedVariables false
set_option linter.unusedSimpArgs false
set_option maxRecDepth 10000000
theorem a13 : okR (run (ftK Tryz.prog 79 [238]) 60 111) = true := by kernel_rfl
theorem k13 : KnOK Tryz.prog 111 (.b true) := kn_of jn mixed (l := [238]) (fun g hg => by rw [List.mem_singleton.1 hg]; exact k12) a13
end Go.Proofs.YtelfddkfddnenaaGreat.Bt
