import Derived.Test.YtpkaehpllldcmaaGreatDoorKcJ
import Derived.KernelRfl
namespace Go.Proofs.YtpkaehpllldcmaaGreatDoor.Bt
open Go Ev Go.RowKit
set_option linter.unusedVariables false
set_option linter.unusedSimpArgs false
set_option maxRecDepth 10000000
theorem aw12 : runK (ftL bs (.kn 302 (.b true) :: .kn 303 (.b true) :: rws)) 60 298 = .fin (.b true) h0 (nat_lit 0) := by kernel_rfl
theorem aw13 : runK (ftL bs (.kn 298 (.b true) :: rws)) 60 289 = .fin (.b true) h0 (nat_lit 0) := by kernel_rfl
theorem aw15 : runK (ftL bs (.kn 289 (.b true) :: .kn 290 (.b true) :: rws)) 60 269 = .fin (.b true) h0 (nat_lit 0) := by kernel_rfl
theorem aw16 : runK (ftL bs (.kn 269 (.b true) :: rws)) 60 191 = .fin (.b true) h0 (nat_lit 0) := by kernel_rfl
theorem aw18 : runK (ftL bs (.kn 191 (.b true) :: rws)) 60 120 = .fin (.b true) h0 (nat_lit 0) := by kernel_rfl
end Go.Proofs.YtpkaehpllldcmaaGreatDoor.Bt
