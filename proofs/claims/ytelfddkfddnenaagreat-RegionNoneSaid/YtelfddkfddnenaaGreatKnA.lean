/- Closed functions that tell true, reckoned by the kernel. -/
import Derived.Test.YtelfddkfddnenaaGreatKnJ
namespace Go.Proofs.YtelfddkfddnenaaGreat.Bt
open Go Ev Go.RowKit
set_option linter.unusedVariables false
set_option linter.unusedSimpArgs false
set_option maxRecDepth 10000000
theorem a3 : okR (run (ftK Tryz.prog 79 []) 60 299) = true := by kernel_rfl
theorem k3 : KnOK Tryz.prog 299 (.b true) := kn_of jn mixed (l := []) (fun g hg => by cases hg) a3
theorem a4 : okR (run (ftK Tryz.prog 79 [299]) 60 254) = true := by kernel_rfl
theorem k4 : KnOK Tryz.prog 254 (.b true) := kn_of jn mixed (l := [299]) (fun g hg => by rw [List.mem_singleton.1 hg]; exact k3) a4
theorem a5 : okR (run (ftK Tryz.prog 79 [254]) 60 135) = true := by kernel_rfl
theorem k5 : KnOK Tryz.prog 135 (.b true) := kn_of jn mixed (l := [254]) (fun g hg => by rw [List.mem_singleton.1 hg]; exact k4) a5
theorem a6 : okR (run (ftK Tryz.prog 79 [254]) 60 321) = true := by kernel_rfl
theorem k6 : KnOK Tryz.prog 321 (.b true) := kn_of jn mixed (l := [254]) (fun g hg => by rw [List.mem_singleton.1 hg]; exact k4) a6
theorem a7 : okR (run (ftK Tryz.prog 79 [254]) 60 322) = true := by kernel_rfl
theorem k7 : KnOK Tryz.prog 322 (.b true) := kn_of jn mixed (l := [254]) (fun g hg => by rw [List.mem_singleton.1 hg]; exact k4) a7
end Go.Proofs.YtelfddkfddnenaaGreat.Bt
