/- Closed functions, reckoned by the kernel. -/
import Derived.Test.YtbeldoiaecjkgaaGreatDoorKcJ
import Derived.KernelRfl
namespace Go.Proofs.YtbeldoiaecjkgaaGreatDoor.Bt
open Go Ev Go.RowKit
set_option linter.unusedVariables false
set_option linter.unusedSimpArgs false
set_option maxRecDepth 10000000
theorem aw12 : runK (ftL bs (.kn 374 (.b true) :: .kn 375 (.b true) :: rws)) 60 370 = .fin (.b true) h0 (nat_lit 0) := by kernel_rfl
theorem aw13 : runK (ftL bs (.kn 370 (.b true) :: rws)) 60 364 = .fin (.b true) h0 (nat_lit 0) := by kernel_rfl
theorem aw15 : runK (ftL bs (.kn 364 (.b true) :: .kn 365 (.b true) :: rws)) 60 356 = .fin (.b true) h0 (nat_lit 0) := by kernel_rfl
theorem aw16 : runK (ftL bs (.kn 356 (.b true) :: rws)) 60 323 = .fin (.b true) h0 (nat_lit 0) := by kernel_rfl
theorem aw18 : runK (ftL bs (.kn 323 (.b true) :: rws)) 60 276 = .fin (.b true) h0 (nat_lit 0) := by kernel_rfl
end Go.Proofs.YtbeldoiaecjkgaaGreatDoor.Bt
