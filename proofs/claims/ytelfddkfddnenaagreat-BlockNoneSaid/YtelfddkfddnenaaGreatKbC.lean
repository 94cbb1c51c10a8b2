/- Closed functions that tell true, reckoned by the kernel. -/
import Derived.Test.YtelfddkfddnenaaGreatKbB
namespace Go.Proofs.YtelfddkfddnenaaGreat.Bt
open Go Ev Go.RowKit
set_option linter.unusedVariables false
set_option linter.unusedSimpArgs false
set_option maxRecDepth 10000000
theorem a12 : okR (run (ftR Tryz.prog (.kn 293 (.b true) :: .kn 294 (.b true) :: rws)) 60 238) = true := by kernel_rfl
theorem k12 : KnOK Tryz.prog 238 (.b true) := kn_of (X := arX) mixed (l := .kn 293 (.b true) :: .kn 294 (.b true) :: rws) (fun r hr => by rcases List.mem_cons.1 hr with rfl | hr; exact k9; rcases List.mem_cons.1 hr with rfl | hr; exact k11; exact rws_ok r hr) a12
theorem a13 : okR (run (ftR Tryz.prog (.kn 238 (.b true) :: rws)) 60 111) = true := by kernel_rfl
theorem k13 : KnOK Tryz.prog 111 (.b true) := kn_of (X := arX) mixed (l := .kn 238 (.b true) :: rws) (fun r hr => by rcases List.mem_cons.1 hr with rfl | hr; exact k12; exact rws_ok r hr) a13
end Go.Proofs.YtelfddkfddnenaaGreat.Bt
