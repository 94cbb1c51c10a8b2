import Derived.Test.YtpkaehpllldcmaaGreatDoorKcJ
import Derived.KernelRfl
namespace Go.Proofs.YtpkaehpllldcmaaGreatDoor.Bt
open Go Ev Go.RowKit
set_option linter.unusedVariables false
set_option linter.unusedSimpArgs false
set_option maxRecDepth 10000000
theorem aw19 : runK (ftL bs (.kn 120 (.b true) :: rws)) 60 47 = .fin (.b true) h0 (nat_lit 0) := by kernel_rfl
end Go.Proofs.YtpkaehpllldcmaaGreatDoor.Bt
