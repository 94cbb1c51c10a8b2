/- Closed functions, reckoned by the kernel. -/
import Derived.Test.YtbeldoiaecjkgaaGreatDoorKcJ
import Derived.KernelRfl
namespace Go.Proofs.YtbeldoiaecjkgaaGreatDoor.Bt
open Go Ev Go.RowKit
set_option linter.unusedVariables false
set_option linter.unusedSimpArgs false
set_option maxRecDepth 10000000
theorem aw25 (ty : Nat) : runGX 0 ty [192, 96, 128, 128, 128] (ftL bs (.kn 180 (.b true) :: .kn 181 (.b true) :: .ar 182 (gvF2 0 [192, 96, 128, 128, 128]) :: .kn 183 (.b true) :: rws)) 60 42 = .fin (.b true) (mk1 (.gv 0 ty [192, 96, 128, 128, 128])) (nat_lit 0) := by kernel_rfl
end Go.Proofs.YtbeldoiaecjkgaaGreatDoor.Bt
