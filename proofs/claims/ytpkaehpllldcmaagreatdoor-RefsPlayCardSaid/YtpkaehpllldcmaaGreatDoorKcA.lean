import Derived.Test.YtpkaehpllldcmaaGreatDoorKcJ
import Derived.KernelRfl
namespace Go.Proofs.YtpkaehpllldcmaaGreatDoor.Bt
open Go Ev Go.RowKit
set_option linter.unusedVariables false
set_option linter.unusedSimpArgs false
set_option maxRecDepth 10000000
theorem aw3 : runK (ftL bs (rws)) 60 185 = .fin (.b true) h0 (nat_lit 0) := by kernel_rfl
theorem aw4 : runK (ftL bs (.kn 185 (.b true) :: rws)) 60 111 = .fin (.b true) h0 (nat_lit 0) := by kernel_rfl
theorem aw5 : runK (ftL bs (.kn 111 (.b true) :: rws)) 60 46 = .fin (.b true) h0 (nat_lit 0) := by kernel_rfl
theorem aw6 : runK (ftL bs (.kn 111 (.b true) :: rws)) 60 317 = .fin (.b true) h0 (nat_lit 0) := by kernel_rfl
theorem aw7 : runK (ftL bs (.kn 111 (.b true) :: rws)) 60 318 = .fin (.b true) h0 (nat_lit 0) := by kernel_rfl
theorem aw8 : runK (ftL bs (.kn 317 (.b true) :: .kn 318 (.b true) :: rws)) 60 309 = .fin (.b true) h0 (nat_lit 0) := by kernel_rfl
theorem aw9 : runK (ftL bs (.kn 309 (.b true) :: plain)) 60 302 = .fin (.b true) h0 (nat_lit 0) := by kernel_rfl
theorem aw10 : runK (ftL bs (.kn 46 (.b true) :: rws)) 60 299 = .fin (.b true) h0 (nat_lit 0) := by kernel_rfl
theorem aw11 : runK (ftL bs (.kn 299 (.b true) :: rws)) 60 303 = .fin (.b true) h0 (nat_lit 0) := by kernel_rfl
theorem aw14 : runK (ftL bs (.kn 299 (.b true) :: rws)) 60 290 = .fin (.b true) h0 (nat_lit 0) := by kernel_rfl
end Go.Proofs.YtpkaehpllldcmaaGreatDoor.Bt
