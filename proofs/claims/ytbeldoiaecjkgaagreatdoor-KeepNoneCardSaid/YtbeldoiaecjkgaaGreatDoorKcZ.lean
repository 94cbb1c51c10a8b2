/- What that says of their calls. -/
import Derived.Test.YtbeldoiaecjkgaaGreatDoorKcA
import Derived.Test.YtbeldoiaecjkgaaGreatDoorKcB
import Derived.Test.YtbeldoiaecjkgaaGreatDoorKcC
import Derived.Test.YtbeldoiaecjkgaaGreatDoorKcD
import Derived.Test.YtbeldoiaecjkgaaGreatDoorKcE
import Derived.Test.YtbeldoiaecjkgaaGreatDoorKcF
import Derived.Test.YtbeldoiaecjkgaaGreatDoorKcH
import Derived.KernelRfl
namespace Go.Proofs.YtbeldoiaecjkgaaGreatDoor.Bt
open Go Ev Go.RowKit
set_option linter.unusedVariables false
set_option linter.unusedSimpArgs false
set_option maxRecDepth 10000000
theorem kw3 : KnOK Tryz.prog 309 (.b true) := kn_ofK (X := arX) mixed bsOK (l := rws) (fun r hr => by exact rws_ok r hr) aw3
theorem kw4 : KnOK Tryz.prog 268 (.b true) := kn_ofK (X := arX) mixed bsOK (l := .kn 309 (.b true) :: rws) (fun r hr => by rcases List.mem_cons.1 hr with rfl | hr; exact kw3; exact rws_ok r hr) aw4
theorem kw5 : KnOK Tryz.prog 271 (.b true) := kn_ofK (X := arX) mixed bsOK (l := .kn 268 (.b true) :: rws) (fun r hr => by rcases List.mem_cons.1 hr with rfl | hr; exact kw4; exact rws_ok r hr) aw5
theorem kw6 : KnOK Tryz.prog 388 (.b true) := kn_ofK (X := arX) mixed bsOK (l := .kn 268 (.b true) :: rws) (fun r hr => by rcases List.mem_cons.1 hr with rfl | hr; exact kw4; exact rws_ok r hr) aw6
theorem kw7 : KnOK Tryz.prog 389 (.b true) := kn_ofK (X := arX) mixed bsOK (l := .kn 268 (.b true) :: rws) (fun r hr => by rcases List.mem_cons.1 hr with rfl | hr; exact kw4; exact rws_ok r hr) aw7
theorem kw8 : KnOK Tryz.prog 381 (.b true) := kn_ofK (X := arX) mixed bsOK (l := .kn 388 (.b true) :: .kn 389 (.b true) :: rws) (fun r hr => by rcases List.mem_cons.1 hr with rfl | hr; exact kw6; rcases List.mem_cons.1 hr with rfl | hr; exact kw7; exact rws_ok r hr) aw8
theorem kw9 : KnOK Tryz.prog 374 (.b true) := kn_ofK (X := arX) mixed bsOK (l := .kn 381 (.b true) :: plain) (fun r hr => by rcases List.mem_cons.1 hr with rfl | hr; exact kw8; exact plain_ok r hr) aw9
theorem kw10 : KnOK Tryz.prog 371 (.b true) := kn_ofK (X := arX) mixed bsOK (l := .kn 271 (.b true) :: rws) (fun r hr => by rcases List.mem_cons.1 hr with rfl | hr; exact kw5; exact rws_ok r hr) aw10
theorem kw11 : KnOK Tryz.prog 375 (.b true) := kn_ofK (X := arX) mixed bsOK (l := .kn 371 (.b true) :: rws) (fun r hr => by rcases List.mem_cons.1 hr with rfl | hr; exact kw10; exact rws_ok r hr) aw11
theorem kw12 : KnOK Tryz.prog 370 (.b true) := kn_ofK (X := arX) mixed bsOK (l := .kn 374 (.b true) :: .kn 375 (.b true) :: rws) (fun r hr => by rcases List.mem_cons.1 hr with rfl | hr; exact kw9; rcases List.mem_cons.1 hr with rfl | hr; exact kw11; exact rws_ok r hr) aw12
theorem kw13 : KnOK Tryz.prog 364 (.b true) := kn_ofK (X := arX) mixed bsOK (l := .kn 370 (.b true) :: rws) (fun r hr => by rcases List.mem_cons.1 hr with rfl | hr; exact kw12; exact rws_ok r hr) aw13
theorem kw14 : KnOK Tryz.prog 365 (.b true) := kn_ofK (X := arX) mixed bsOK (l := .kn 371 (.b true) :: rws) (fun r hr => by rcases List.mem_cons.1 hr with rfl | hr; exact kw10; exact rws_ok r hr) aw14
theorem kw15 : KnOK Tryz.prog 356 (.b true) := kn_ofK (X := arX) mixed bsOK (l := .kn 364 (.b true) :: .kn 365 (.b true) :: rws) (fun r hr => by rcases List.mem_cons.1 hr with rfl | hr; exact kw13; rcases List.mem_cons.1 hr with rfl | hr; exact kw14; exact rws_ok r hr) aw15
theorem kw16 : KnOK Tryz.prog 323 (.b true) := kn_ofK (X := arX) mixed bsOK (l := .kn 356 (.b true) :: rws) (fun r hr => by rcases List.mem_cons.1 hr with rfl | hr; exact kw15; exact rws_ok r hr) aw16
theorem kw17 : KnOK Tryz.prog 180 (.b true) := kn_ofK (X := arX) mixed bsOK (l := .kn 268 (.b true) :: rws) (fun r hr => by rcases List.mem_cons.1 hr with rfl | hr; exact kw4; exact rws_ok r hr) aw17
theorem kw18 : KnOK Tryz.prog 276 (.b true) := kn_ofK (X := arX) mixed bsOK (l := .kn 323 (.b true) :: rws) (fun r hr => by rcases List.mem_cons.1 hr with rfl | hr; exact kw16; exact rws_ok r hr) aw18
theorem kw19 : KnOK Tryz.prog 270 (.b true) := kn_ofK (X := arX) mixed bsOK (l := .kn 276 (.b true) :: rws) (fun r hr => by rcases List.mem_cons.1 hr with rfl | hr; exact kw18; exact rws_ok r hr) aw19
theorem kw20 : KnOK Tryz.prog 181 (.b true) := kn_ofK (X := arX) mixed bsOK (l := .kn 270 (.b true) :: rws) (fun r hr => by rcases List.mem_cons.1 hr with rfl | hr; exact kw19; exact rws_ok r hr) aw20
theorem kw23 (ty : Nat) : KnG Tryz.prog 0 ty [192, 96, 128, 128, 128] 182 := kng_ofX (X := arX) mixed bsOK (rws := .kn 271 (.b true) :: .kn 270 (.b true) :: rws) (fun r hr => by rcases List.mem_cons.1 hr with rfl | hr; exact kw5; rcases List.mem_cons.1 hr with rfl | hr; exact kw19; exact rws_ok r hr) (aw23 ty)
theorem kw24 : KnOK Tryz.prog 183 (.b true) := kn_ofK (X := arX) mixed bsOK (l := .kn 276 (.b true) :: rws) (fun r hr => by rcases List.mem_cons.1 hr with rfl | hr; exact kw18; exact rws_ok r hr) aw24
theorem kw25 (ty : Nat) : KnG Tryz.prog 0 ty [192, 96, 128, 128, 128] 42 := kng_ofX (X := arX) mixed bsOK (rws := .kn 180 (.b true) :: .kn 181 (.b true) :: .ar 182 (gvF2 0 [192, 96, 128, 128, 128]) :: .kn 183 (.b true) :: rws) (fun r hr => by rcases List.mem_cons.1 hr with rfl | hr; exact kw17; rcases List.mem_cons.1 hr with rfl | hr; exact kw20; rcases List.mem_cons.1 hr with rfl | hr; exact gvF2_ok kw23; rcases List.mem_cons.1 hr with rfl | hr; exact kw24; exact rws_ok r hr) (aw25 ty)
theorem kw26 (ty : Nat) : KnG Tryz.prog 0 ty [192, 96, 128, 128, 128] 5 := kng_ofX (X := arX) mixed bsOK (rws := .ar 42 (gvF2 0 [192, 96, 128, 128, 128]) :: rws) (fun r hr => by rcases List.mem_cons.1 hr with rfl | hr; exact gvF2_ok kw25; exact rws_ok r hr) (aw26 ty)
end Go.Proofs.YtbeldoiaecjkgaaGreatDoor.Bt
