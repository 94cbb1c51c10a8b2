/- Closed functions that tell true, reckoned by the kernel. -/
import Derived.Test.YtlbbocbfblohkaaGreatDoorKcJ
import Derived.KernelRfl
namespace Go.Proofs.YtlbbocbfblohkaaGreatDoor.Bt
open Go Ev Go.RowKit
set_option linter.unusedVariables false
set_option linter.unusedSimpArgs false
set_option maxRecDepth 10000000
theorem aw3 : runK (ftL bs (rws)) 60 319 = .fin (.b true) h0 (nat_lit 0) := by kernel_rfl
theorem kw3 : KnOK Tryz.prog 319 (.b true) := kn_ofK (X := arX) mixed bsOK (l := rws) (fun r hr => by exact rws_ok r hr) aw3
theorem aw4 : runK (ftL bs (.kn 319 (.b true) :: rws)) 60 224 = .fin (.b true) h0 (nat_lit 0) := by kernel_rfl
theorem kw4 : KnOK Tryz.prog 224 (.b true) := kn_ofK (X := arX) mixed bsOK (l := .kn 319 (.b true) :: rws) (fun r hr => by rcases List.mem_cons.1 hr with rfl | hr; exact kw3; exact rws_ok r hr) aw4
theorem aw5 : runK (ftL bs (.kn 224 (.b true) :: rws)) 60 79 = .fin (.b true) h0 (nat_lit 0) := by kernel_rfl
theorem kw5 : KnOK Tryz.prog 79 (.b true) := kn_ofK (X := arX) mixed bsOK (l := .kn 224 (.b true) :: rws) (fun r hr => by rcases List.mem_cons.1 hr with rfl | hr; exact kw4; exact rws_ok r hr) aw5
theorem aw6 : runK (ftL bs (.kn 224 (.b true) :: rws)) 60 396 = .fin (.b true) h0 (nat_lit 0) := by kernel_rfl
theorem kw6 : KnOK Tryz.prog 396 (.b true) := kn_ofK (X := arX) mixed bsOK (l := .kn 224 (.b true) :: rws) (fun r hr => by rcases List.mem_cons.1 hr with rfl | hr; exact kw4; exact rws_ok r hr) aw6
theorem aw7 : runK (ftL bs (.kn 224 (.b true) :: rws)) 60 397 = .fin (.b true) h0 (nat_lit 0) := by kernel_rfl
theorem kw7 : KnOK Tryz.prog 397 (.b true) := kn_ofK (X := arX) mixed bsOK (l := .kn 224 (.b true) :: rws) (fun r hr => by rcases List.mem_cons.1 hr with rfl | hr; exact kw4; exact rws_ok r hr) aw7
theorem aw8 : runK (ftL bs (.kn 396 (.b true) :: .kn 397 (.b true) :: rws)) 60 389 = .fin (.b true) h0 (nat_lit 0) := by kernel_rfl
theorem kw8 : KnOK Tryz.prog 389 (.b true) := kn_ofK (X := arX) mixed bsOK (l := .kn 396 (.b true) :: .kn 397 (.b true) :: rws) (fun r hr => by rcases List.mem_cons.1 hr with rfl | hr; exact kw6; rcases List.mem_cons.1 hr with rfl | hr; exact kw7; exact rws_ok r hr) aw8
theorem aw9 : runK (ftL bs (.kn 389 (.b true) :: plain)) 60 382 = .fin (.b true) h0 (nat_lit 0) := by kernel_rfl
theorem kw9 : KnOK Tryz.prog 382 (.b true) := kn_ofK (X := arX) mixed bsOK (l := .kn 389 (.b true) :: plain) (fun r hr => by rcases List.mem_cons.1 hr with rfl | hr; exact kw8; exact plain_ok r hr) aw9
theorem aw10 : runK (ftL bs (.kn 79 (.b true) :: rws)) 60 379 = .fin (.b true) h0 (nat_lit 0) := by kernel_rfl
theorem kw10 : KnOK Tryz.prog 379 (.b true) := kn_ofK (X := arX) mixed bsOK (l := .kn 79 (.b true) :: rws) (fun r hr => by rcases List.mem_cons.1 hr with rfl | hr; exact kw5; exact rws_ok r hr) aw10
theorem aw11 : runK (ftL bs (.kn 379 (.b true) :: rws)) 60 383 = .fin (.b true) h0 (nat_lit 0) := by kernel_rfl
theorem kw11 : KnOK Tryz.prog 383 (.b true) := kn_ofK (X := arX) mixed bsOK (l := .kn 379 (.b true) :: rws) (fun r hr => by rcases List.mem_cons.1 hr with rfl | hr; exact kw10; exact rws_ok r hr) aw11
theorem aw14 : runK (ftL bs (.kn 379 (.b true) :: rws)) 60 373 = .fin (.b true) h0 (nat_lit 0) := by kernel_rfl
theorem kw14 : KnOK Tryz.prog 373 (.b true) := kn_ofK (X := arX) mixed bsOK (l := .kn 379 (.b true) :: rws) (fun r hr => by rcases List.mem_cons.1 hr with rfl | hr; exact kw10; exact rws_ok r hr) aw14
theorem aw17 : runK (ftL bs (.kn 224 (.b true) :: rws)) 60 140 = .fin (.b true) h0 (nat_lit 0) := by kernel_rfl
theorem kw17 : KnOK Tryz.prog 140 (.b true) := kn_ofK (X := arX) mixed bsOK (l := .kn 224 (.b true) :: rws) (fun r hr => by rcases List.mem_cons.1 hr with rfl | hr; exact kw4; exact rws_ok r hr) aw17
end Go.Proofs.YtlbbocbfblohkaaGreatDoor.Bt
