/- Closed functions that tell true, reckoned by the kernel. -/
import Derived.Test.YtelfddkfddnenaaGreatKbF
namespace Go.Proofs.YtelfddkfddnenaaGreat.Bt
open Go Ev Go.RowKit
set_option linter.unusedVariables false
set_option linter.unusedSimpArgs false
set_option maxRecDepth 10000000
theorem aB : okR (run (ftR Tryz.prog (.kn 50 (.b true) :: rws)) 60 6) = true := by kernel_rfl
theorem kB : KnOK Tryz.prog 6 (.b true) := kn_of (X := arX) mixed (l := .kn 50 (.b true) :: rws) (fun r hr => by rcases List.mem_cons.1 hr with rfl | hr; exact k24; exact rws_ok r hr) aB
theorem bnone (w : World) : Calls Tryz.prog 6 #[] w fun e w' => e = .returned (.bool true) ∧ Below w.heap.size w w' := kB.calls w
end Go.Proofs.YtelfddkfddnenaaGreat.Bt
