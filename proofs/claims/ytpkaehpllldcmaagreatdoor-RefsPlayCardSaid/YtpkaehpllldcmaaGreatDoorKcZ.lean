import Derived.Test.YtpkaehpllldcmaaGreatDoorKcA
import Derived.Test.YtpkaehpllldcmaaGreatDoorKcB
import Derived.Test.YtpkaehpllldcmaaGreatDoorKcC
import Derived.Test.YtpkaehpllldcmaaGreatDoorKcE
import Derived.KernelRfl
namespace Go.Proofs.YtpkaehpllldcmaaGreatDoor.Bt
open Go Ev Go.RowKit
set_option linter.unusedVariables false
set_option linter.unusedSimpArgs false
set_option maxRecDepth 10000000
theorem kw3 : KnOK Tryz.prog 185 (.b true) := kn_ofK (X := arX) mixed bsOK (l := rws) (fun r hr => by exact rws_ok r hr) aw3
theorem kw4 : KnOK Tryz.prog 111 (.b true) := kn_ofK (X := arX) mixed bsOK (l := .kn 185 (.b true) :: rws) (fun r hr => by rcases List.mem_cons.1 hr with rfl | hr; exact kw3; exact rws_ok r hr) aw4
theorem kw5 : KnOK Tryz.prog 46 (.b true) := kn_ofK (X := arX) mixed bsOK (l := .kn 111 (.b true) :: rws) (fun r hr => by rcases List.mem_cons.1 hr with rfl | hr; exact kw4; exact rws_ok r hr) aw5
theorem kw6 : KnOK Tryz.prog 317 (.b true) := kn_ofK (X := arX) mixed bsOK (l := .kn 111 (.b true) :: rws) (fun r hr => by rcases List.mem_cons.1 hr with rfl | hr; exact kw4; exact rws_ok r hr) aw6
theorem kw7 : KnOK Tryz.prog 318 (.b true) := kn_ofK (X := arX) mixed bsOK (l := .kn 111 (.b true) :: rws) (fun r hr => by rcases List.mem_cons.1 hr with rfl | hr; exact kw4; exact rws_ok r hr) aw7
theorem kw8 : KnOK Tryz.prog 309 (.b true) := kn_ofK (X := arX) mixed bsOK (l := .kn 317 (.b true) :: .kn 318 (.b true) :: rws) (fun r hr => by rcases List.mem_cons.1 hr with rfl | hr; exact kw6; rcases List.mem_cons.1 hr with rfl | hr; exact kw7; exact rws_ok r hr) aw8
theorem kw9 : KnOK Tryz.prog 302 (.b true) := kn_ofK (X := arX) mixed bsOK (l := .kn 309 (.b true) :: plain) (fun r hr => by rcases List.mem_cons.1 hr with rfl | hr; exact kw8; exact plain_ok r hr) aw9
theorem kw10 : KnOK Tryz.prog 299 (.b true) := kn_ofK (X := arX) mixed bsOK (l := .kn 46 (.b true) :: rws) (fun r hr => by rcases List.mem_cons.1 hr with rfl | hr; exact kw5; exact rws_ok r hr) aw10
theorem kw11 : KnOK Tryz.prog 303 (.b true) := kn_ofK (X := arX) mixed bsOK (l := .kn 299 (.b true) :: rws) (fun r hr => by rcases List.mem_cons.1 hr with rfl | hr; exact kw10; exact rws_ok r hr) aw11
theorem kw12 : KnOK Tryz.prog 298 (.b true) := kn_ofK (X := arX) mixed bsOK (l := .kn 302 (.b true) :: .kn 303 (.b true) :: rws) (fun r hr => by rcases List.mem_cons.1 hr with rfl | hr; exact kw9; rcases List.mem_cons.1 hr with rfl | hr; exact kw11; exact rws_ok r hr) aw12
theorem kw13 : KnOK Tryz.prog 289 (.b true) := kn_ofK (X := arX) mixed bsOK (l := .kn 298 (.b true) :: rws) (fun r hr => by rcases List.mem_cons.1 hr with rfl | hr; exact kw12; exact rws_ok r hr) aw13
theorem kw14 : KnOK Tryz.prog 290 (.b true) := kn_ofK (X := arX) mixed bsOK (l := .kn 299 (.b true) :: rws) (fun r hr => by rcases List.mem_cons.1 hr with rfl | hr; exact kw10; exact rws_ok r hr) aw14
theorem kw15 : KnOK Tryz.prog 269 (.b true) := kn_ofK (X := arX) mixed bsOK (l := .kn 289 (.b true) :: .kn 290 (.b true) :: rws) (fun r hr => by rcases List.mem_cons.1 hr with rfl | hr; exact kw13; rcases List.mem_cons.1 hr with rfl | hr; exact kw14; exact rws_ok r hr) aw15
theorem kw16 : KnOK Tryz.prog 191 (.b true) := kn_ofK (X := arX) mixed bsOK (l := .kn 269 (.b true) :: rws) (fun r hr => by rcases List.mem_cons.1 hr with rfl | hr; exact kw15; exact rws_ok r hr) aw16
theorem kw18 : KnOK Tryz.prog 120 (.b true) := kn_ofK (X := arX) mixed bsOK (l := .kn 191 (.b true) :: rws) (fun r hr => by rcases List.mem_cons.1 hr with rfl | hr; exact kw16; exact rws_ok r hr) aw18
theorem kw19 : KnOK Tryz.prog 47 (.b true) := kn_ofK (X := arX) mixed bsOK (l := .kn 120 (.b true) :: rws) (fun r hr => by rcases List.mem_cons.1 hr with rfl | hr; exact kw18; exact rws_ok r hr) aw19
theorem kw23 (ty : Nat) : KnG Tryz.prog 0 ty [192, 96, 128, 128, 128] 4 := kng_ofX (X := arX) mixed bsOK (rws := .kn 46 (.b true) :: .kn 47 (.b true) :: rws) (fun r hr => by rcases List.mem_cons.1 hr with rfl | hr; exact kw5; rcases List.mem_cons.1 hr with rfl | hr; exact kw19; exact rws_ok r hr) (aw23 ty)
end Go.Proofs.YtpkaehpllldcmaaGreatDoor.Bt
