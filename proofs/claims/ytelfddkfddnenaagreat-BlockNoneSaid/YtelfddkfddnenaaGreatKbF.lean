/- Closed functions that tell true, reckoned by the kernel. -/
import Derived.Test.YtelfddkfddnenaaGreatKbE
namespace Go.Proofs.YtelfddkfddnenaaGreat.Bt
open Go Ev Go.RowKit
set_option linter.unusedVariables false
set_option linter.unusedSimpArgs false
set_option maxRecDepth 10000000
theorem a24 : okR (run (ftR Tryz.prog (.kn 156 (.b true) :: rws)) 60 50) = true := by kernel_rfl
theorem k24 : KnOK Tryz.prog 50 (.b true) := kn_of (X := arX) mixed (l := .kn 156 (.b true) :: rws) (fun r hr => by rcases List.mem_cons.1 hr with rfl | hr; exact k18; exact rws_ok r hr) a24
end Go.Proofs.YtelfddkfddnenaaGreat.Bt
