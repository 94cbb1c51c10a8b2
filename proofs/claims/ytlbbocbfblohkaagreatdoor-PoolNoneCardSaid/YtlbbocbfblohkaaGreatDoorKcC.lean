/- Closed functions that tell true, reckoned by the kernel. -/
import Derived.Test.YtlbbocbfblohkaaGreatDoorKcB
import Derived.KernelRfl
namespace Go.Proofs.YtlbbocbfblohkaaGreatDoor.Bt
open Go Ev Go.RowKit
set_option linter.unusedVariables false
set_option linter.unusedSimpArgs false
set_option maxRecDepth 10000000
theorem aw19 : runK (ftL bs (.kn 227 (.b true) :: rws)) 60 80 = .fin (.b true) h0 (nat_lit 0) := by kernel_rfl
theorem kw19 : KnOK Tryz.prog 80 (.b true) := kn_ofK (X := arX) mixed bsOK (l := .kn 227 (.b true) :: rws) (fun r hr => by rcases List.mem_cons.1 hr with rfl | hr; exact kw18; exact rws_ok r hr) aw19
end Go.Proofs.YtlbbocbfblohkaaGreatDoor.Bt
