/- Closed functions that tell true, reckoned by the kernel. -/
import Derived.Test.YtelfddkfddnenaaGreatKbC
namespace Go.Proofs.YtelfddkfddnenaaGreat.Bt
open Go Ev Go.RowKit
set_option linter.unusedVariables false
set_option linter.unusedSimpArgs false
set_option maxRecDepth 10000000
theorem a15 : okR (run (ftR Tryz.prog (.kn 111 (.b true) :: .kn 112 (.b true) :: rws)) 60 8) = true := by kernel_rfl
theorem k15 : KnOK Tryz.prog 8 (.b true) := kn_of (X := arX) mixed (l := .kn 111 (.b true) :: .kn 112 (.b true) :: rws) (fun r hr => by rcases List.mem_cons.1 hr with rfl | hr; exact k13; rcases List.mem_cons.1 hr with rfl | hr; exact k14; exact rws_ok r hr) a15
theorem a16 : okR (run (ftR Tryz.prog (.kn 8 (.b true) :: rws)) 60 21) = true := by kernel_rfl
theorem k16 : KnOK Tryz.prog 21 (.b true) := kn_of (X := arX) mixed (l := .kn 8 (.b true) :: rws) (fun r hr => by rcases List.mem_cons.1 hr with rfl | hr; exact k15; exact rws_ok r hr) a16
end Go.Proofs.YtelfddkfddnenaaGreat.Bt
