import Derived.Test.YtpkaehpllldcmaaGreatDoorKcJ
import Derived.KernelRfl
namespace Go.Proofs.YtpkaehpllldcmaaGreatDoor.Bt
open Go Ev Go.RowKit
set_option linter.unusedVariables false
set_option linter.unusedSimpArgs false
set_option maxRecDepth 10000000
theorem aw23 (ty : Nat) : runGX 0 ty [192, 96, 128, 128, 128] (ftL bs (.kn 46 (.b true) :: .kn 47 (.b true) :: rws)) 60 4 = .fin (.b true) (mk1 (.gv 0 ty [192, 96, 128, 128, 128])) (nat_lit 0) := by kernel_rfl
end Go.Proofs.YtpkaehpllldcmaaGreatDoor.Bt
