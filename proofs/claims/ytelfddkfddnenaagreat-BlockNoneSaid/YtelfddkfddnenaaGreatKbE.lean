/- Closed functions that tell true, reckoned by the kernel. -/
import Derived.Test.YtelfddkfddnenaaGreatKbD
namespace Go.Proofs.YtelfddkfddnenaaGreat.Bt
open Go Ev Go.RowKit
set_option linter.unusedVariables false
set_option linter.unusedSimpArgs false
set_option maxRecDepth 10000000
theorem a18 : okR (run (ftR Tryz.prog (.kn 21 (.b true) :: rws)) 60 156) = true := by kernel_rfl
theorem k18 : KnOK Tryz.prog 156 (.b true) := kn_of (X := arX) mixed (l := .kn 21 (.b true) :: rws) (fun r hr => by rcases List.mem_cons.1 hr with rfl | hr; exact k16; exact rws_ok r hr) a18
end Go.Proofs.YtelfddkfddnenaaGreat.Bt
