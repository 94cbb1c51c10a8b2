/- A closed law, reckoned by the kernel. -/
import Derived.Test.YtbeldoiaecjkgaaGreatDoorKcZ
import Derived.KernelRfl
namespace Go.Proofs.YtbeldoiaecjkgaaGreatDoor.Bt
open Go Ev Go.RowKit
set_option linter.unusedVariables false
set_option linter.unusedSimpArgs false
set_option maxRecDepth 10000000
theorem aKeepNone (ty : Nat) : runGX 0 ty [192, 96, 128, 128, 128] (ftL bs (.ar 5 (gvF2 0 [192, 96, 128, 128, 128]) :: rws)) 60 3 = .fin (.b true) (mk1 (.gv 0 ty [192, 96, 128, 128, 128])) (nat_lit 0) := by kernel_rfl
theorem kKeepNone (ty : Nat) : KnG Tryz.prog 0 ty [192, 96, 128, 128, 128] 3 := kng_ofX (X := arX) mixed bsOK (rws := .ar 5 (gvF2 0 [192, 96, 128, 128, 128]) :: rws) (fun r hr => by rcases List.mem_cons.1 hr with rfl | hr; exact gvF2_ok kw26; exact rws_ok r hr) (aKeepNone ty)
end Go.Proofs.YtbeldoiaecjkgaaGreatDoor.Bt
