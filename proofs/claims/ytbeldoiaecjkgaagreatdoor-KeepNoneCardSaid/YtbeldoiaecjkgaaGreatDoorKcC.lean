/- Closed functions, reckoned by the kernel. -/
import Derived.Test.YtbeldoiaecjkgaaGreatDoorKcJ
import Derived.KernelRfl
namespace Go.Proofs.YtbeldoiaecjkgaaGreatDoor.Bt
open Go Ev Go.RowKit
set_option linter.unusedVariables false
set_option linter.unusedSimpArgs false
set_option maxRecDepth 10000000
theorem aw19 : runK (ftL bs (.kn 276 (.b true) :: rws)) 60 270 = .fin (.b true) h0 (nat_lit 0) := by kernel_rfl
end Go.Proofs.YtbeldoiaecjkgaaGreatDoor.Bt
