/- Closed functions, reckoned by the kernel. -/
import Derived.Test.YtbeldoiaecjkgaaGreatDoorKcJ
import Derived.KernelRfl
namespace Go.Proofs.YtbeldoiaecjkgaaGreatDoor.Bt
open Go Ev Go.RowKit
set_option linter.unusedVariables false
set_option linter.unusedSimpArgs false
set_option maxRecDepth 10000000
theorem aw26 (ty : Nat) : runGX 0 ty [192, 96, 128, 128, 128] (ftL bs (.ar 42 (gvF2 0 [192, 96, 128, 128, 128]) :: rws)) 60 5 = .fin (.b true) (mk1 (.gv 0 ty [192, 96, 128, 128, 128])) (nat_lit 0) := by kernel_rfl
end Go.Proofs.YtbeldoiaecjkgaaGreatDoor.Bt
