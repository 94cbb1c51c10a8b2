/- Closed functions that tell true, reckoned by the kernel. -/
import Derived.Test.YtlbbocbfblohkaaGreatDoorKcD
import Derived.KernelRfl
namespace Go.Proofs.YtlbbocbfblohkaaGreatDoor.Bt
open Go Ev Go.RowKit
set_option linter.unusedVariables false
set_option linter.unusedSimpArgs false
set_option maxRecDepth 10000000
theorem aw23 (ty : Nat) : runGX 0 ty [192, 96, 128, 128, 128] (ftL bs (.kn 79 (.b true) :: .kn 80 (.b true) :: rws)) 60 6 = .fin (.b true) (mk1 (.gv 0 ty [192, 96, 128, 128, 128])) (nat_lit 0) := by kernel_rfl
theorem kw23 (ty : Nat) : KnG Tryz.prog 0 ty [192, 96, 128, 128, 128] 6 := kng_ofX (X := arX) mixed bsOK (rws := .kn 79 (.b true) :: .kn 80 (.b true) :: rws) (fun r hr => by rcases List.mem_cons.1 hr with rfl | hr; exact kw5; rcases List.mem_cons.1 hr with rfl | hr; exact kw19; exact rws_ok r hr) (aw23 ty)
theorem aw24 : runK (ftL bs (.kn 227 (.b true) :: rws)) 60 142 = .fin (.b true) h0 (nat_lit 0) := by kernel_rfl
theorem kw24 : KnOK Tryz.prog 142 (.b true) := kn_ofK (X := arX) mixed bsOK (l := .kn 227 (.b true) :: rws) (fun r hr => by rcases List.mem_cons.1 hr with rfl | hr; exact kw18; exact rws_ok r hr) aw24
end Go.Proofs.YtlbbocbfblohkaaGreatDoor.Bt
