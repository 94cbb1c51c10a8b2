/- Closed functions that tell true, reckoned by the kernel. -/
import Derived.Test.YtlbbocbfblohkaaGreatDoorKcE
import Derived.KernelRfl
namespace Go.Proofs.YtlbbocbfblohkaaGreatDoor.Bt
open Go Ev Go.RowKit
set_option linter.unusedVariables false
set_option linter.unusedSimpArgs false
set_option maxRecDepth 10000000
theorem aw25 (ty : Nat) : runGX 0 ty [192, 96, 128, 128, 128] (ftL bs (.kn 140 (.b true) :: .kn 141 (.b true) :: .ar 6 (gvF2 0 [192, 96, 128, 128, 128]) :: .kn 142 (.b true) :: rws)) 60 21 = .fin (.b true) (mk1 (.gv 0 ty [192, 96, 128, 128, 128])) (nat_lit 0) := by kernel_rfl
theorem kw25 (ty : Nat) : KnG Tryz.prog 0 ty [192, 96, 128, 128, 128] 21 := kng_ofX (X := arX) mixed bsOK (rws := .kn 140 (.b true) :: .kn 141 (.b true) :: .ar 6 (gvF2 0 [192, 96, 128, 128, 128]) :: .kn 142 (.b true) :: rws) (fun r hr => by rcases List.mem_cons.1 hr with rfl | hr; exact kw17; rcases List.mem_cons.1 hr with rfl | hr; exact kw20; rcases List.mem_cons.1 hr with rfl | hr; exact gvF2_ok kw23; rcases List.mem_cons.1 hr with rfl | hr; exact kw24; exact rws_ok r hr) (aw25 ty)
end Go.Proofs.YtlbbocbfblohkaaGreatDoor.Bt
