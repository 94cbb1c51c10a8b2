/- Closed functions that tell true, reckoned by the kernel. -/
import Derived.Test.YtelfddkfddnenaaGreatKbA
namespace Go.Proofs.YtelfddkfddnenaaGreat.Bt
open Go Ev Go.RowKit
set_option linter.unusedVariables false
set_option linter.unusedSimpArgs false
set_option maxRecDepth 10000000
theorem a8 : okR (run (ftR Tryz.prog (.kn 321 (.b true) :: .kn 322 (.b true) :: rws)) 60 309) = true := by kernel_rfl
theorem k8 : KnOK Tryz.prog 309 (.b true) := kn_of (X := arX) mixed (l := .kn 321 (.b true) :: .kn 322 (.b true) :: rws) (fun r hr => by rcases List.mem_cons.1 hr with rfl | hr; exact k6; rcases List.mem_cons.1 hr with rfl | hr; exact k7; exact rws_ok r hr) a8
theorem a9 : okR (run (ftR Tryz.prog (.kn 309 (.b true) :: [.jn 79])) 60 293) = true := by kernel_rfl
theorem k9 : KnOK Tryz.prog 293 (.b true) := kn_of (X := arX) mixed (l := .kn 309 (.b true) :: [.jn 79]) (fun r hr => by rcases List.mem_cons.1 hr with rfl | hr; exact k8; rw [List.mem_singleton.1 hr]; exact jn) a9
theorem a10 : okR (run (ftR Tryz.prog (.kn 135 (.b true) :: rws)) 60 239) = true := by kernel_rfl
theorem k10 : KnOK Tryz.prog 239 (.b true) := kn_of (X := arX) mixed (l := .kn 135 (.b true) :: rws) (fun r hr => by rcases List.mem_cons.1 hr with rfl | hr; exact k5; exact rws_ok r hr) a10
theorem a11 : okR (run (ftR Tryz.prog (.kn 239 (.b true) :: rws)) 60 294) = true := by kernel_rfl
theorem k11 : KnOK Tryz.prog 294 (.b true) := kn_of (X := arX) mixed (l := .kn 239 (.b true) :: rws) (fun r hr => by rcases List.mem_cons.1 hr with rfl | hr; exact k10; exact rws_ok r hr) a11
theorem a14 : okR (run (ftR Tryz.prog (.kn 239 (.b true) :: rws)) 60 112) = true := by kernel_rfl
theorem k14 : KnOK Tryz.prog 112 (.b true) := kn_of (X := arX) mixed (l := .kn 239 (.b true) :: rws) (fun r hr => by rcases List.mem_cons.1 hr with rfl | hr; exact k10; exact rws_ok r hr) a14
end Go.Proofs.YtelfddkfddnenaaGreat.Bt
