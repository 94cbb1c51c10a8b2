/- Closed functions that tell true, reckoned by the kernel. -/
import Derived.Test.YtelfddkfddnenaaGreatKbJ
namespace Go.Proofs.YtelfddkfddnenaaGreat.Bt
open Go Ev Go.RowKit
set_option linter.unusedVariables false
set_option linter.unusedSimpArgs false
set_option maxRecDepth 10000000
theorem a3 : okR (run (ftR Tryz.prog (rws)) 60 299) = true := by kernel_rfl
theorem k3 : KnOK Tryz.prog 299 (.b true) := kn_of (X := arX) mixed (l := rws) (fun r hr => by exact rws_ok r hr) a3
theorem a4 : okR (run (ftR Tryz.prog (.kn 299 (.b true) :: rws)) 60 254) = true := by kernel_rfl
theorem k4 : KnOK Tryz.prog 254 (.b true) := kn_of (X := arX) mixed (l := .kn 299 (.b true) :: rws) (fun r hr => by rcases List.mem_cons.1 hr with rfl | hr; exact k3; exact rws_ok r hr) a4
theorem a5 : okR (run (ftR Tryz.prog (.kn 254 (.b true) :: rws)) 60 135) = true := by kernel_rfl
theorem k5 : KnOK Tryz.prog 135 (.b true) := kn_of (X := arX) mixed (l := .kn 254 (.b true) :: rws) (fun r hr => by rcases List.mem_cons.1 hr with rfl | hr; exact k4; exact rws_ok r hr) a5
theorem a6 : okR (run (ftR Tryz.prog (.kn 254 (.b true) :: rws)) 60 321) = true := by kernel_rfl
theorem k6 : KnOK Tryz.prog 321 (.b true) := kn_of (X := arX) mixed (l := .kn 254 (.b true) :: rws) (fun r hr => by rcases List.mem_cons.1 hr with rfl | hr; exact k4; exact rws_ok r hr) a6
theorem a7 : okR (run (ftR Tryz.prog (.kn 254 (.b true) :: rws)) 60 322) = true := by kernel_rfl
theorem k7 : KnOK Tryz.prog 322 (.b true) := kn_of (X := arX) mixed (l := .kn 254 (.b true) :: rws) (fun r hr => by rcases List.mem_cons.1 hr with rfl | hr; exact k4; exact rws_ok r hr) a7
end Go.Proofs.YtelfddkfddnenaaGreat.Bt
