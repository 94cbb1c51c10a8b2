/- Closed functions that tell true, reckoned by the kernel. -/
import Derived.Test.YtlbbocbfblohkaaGreatDoorKcC
import Derived.KernelRfl
namespace Go.Proofs.YtlbbocbfblohkaaGreatDoor.Bt
open Go Ev Go.RowKit
set_option linter.unusedVariables false
set_option linter.unusedSimpArgs false
set_option maxRecDepth 10000000
theorem aw20 : runK (ftL bs (.kn 80 (.b true) :: rws)) 60 141 = .fin (.b true) h0 (nat_lit 0) := by kernel_rfl
theorem kw20 : KnOK Tryz.prog 141 (.b true) := kn_ofK (X := arX) mixed bsOK (l := .kn 80 (.b true) :: rws) (fun r hr => by rcases List.mem_cons.1 hr with rfl | hr; exact kw19; exact rws_ok r hr) aw20
end Go.Proofs.YtlbbocbfblohkaaGreatDoor.Bt
