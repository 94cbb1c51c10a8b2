/- Closed functions, reckoned by the kernel. -/
import Derived.Test.YtbeldoiaecjkgaaGreatDoorKcJ
import Derived.KernelRfl
namespace Go.Proofs.YtbeldoiaecjkgaaGreatDoor.Bt
open Go Ev Go.RowKit
set_option linter.unusedVariables false
set_option linter.unusedSimpArgs false
set_option maxRecDepth 10000000
theorem aw3 : runK (ftL bs (rws)) 60 309 = .fin (.b true) h0 (nat_lit 0) := by kernel_rfl
theorem aw4 : runK (ftL bs (.kn 309 (.b true) :: rws)) 60 268 = .fin (.b true) h0 (nat_lit 0) := by kernel_rfl
theorem aw5 : runK (ftL bs (.kn 268 (.b true) :: rws)) 60 271 = .fin (.b true) h0 (nat_lit 0) := by kernel_rfl
theorem aw6 : runK (ftL bs (.kn 268 (.b true) :: rws)) 60 388 = .fin (.b true) h0 (nat_lit 0) := by kernel_rfl
theorem aw7 : runK (ftL bs (.kn 268 (.b true) :: rws)) 60 389 = .fin (.b true) h0 (nat_lit 0) := by kernel_rfl
theorem aw8 : runK (ftL bs (.kn 388 (.b true) :: .kn 389 (.b true) :: rws)) 60 381 = .fin (.b true) h0 (nat_lit 0) := by kernel_rfl
theorem aw9 : runK (ftL bs (.kn 381 (.b true) :: plain)) 60 374 = .fin (.b true) h0 (nat_lit 0) := by kernel_rfl
theorem aw10 : runK (ftL bs (.kn 271 (.b true) :: rws)) 60 371 = .fin (.b true) h0 (nat_lit 0) := by kernel_rfl
theorem aw11 : runK (ftL bs (.kn 371 (.b true) :: rws)) 60 375 = .fin (.b true) h0 (nat_lit 0) := by kernel_rfl
theorem aw14 : runK (ftL bs (.kn 371 (.b true) :: rws)) 60 365 = .fin (.b true) h0 (nat_lit 0) := by kernel_rfl
theorem aw17 : runK (ftL bs (.kn 268 (.b true) :: rws)) 60 180 = .fin (.b true) h0 (nat_lit 0) := by kernel_rfl
end Go.Proofs.YtbeldoiaecjkgaaGreatDoor.Bt
