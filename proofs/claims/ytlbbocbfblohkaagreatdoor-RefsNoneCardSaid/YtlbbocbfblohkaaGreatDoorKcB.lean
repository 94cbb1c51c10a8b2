/- Closed functions that tell true, reckoned by the kernel. -/
import Derived.Test.YtlbbocbfblohkaaGreatDoorKcA
import Derived.KernelRfl
namespace Go.Proofs.YtlbbocbfblohkaaGreatDoor.Bt
open Go Ev Go.RowKit
set_option linter.unusedVariables false
set_option linter.unusedSimpArgs false
set_option maxRecDepth 10000000
theorem aw12 : runK (ftL bs (.kn 382 (.b true) :: .kn 383 (.b true) :: rws)) 60 378 = .fin (.b true) h0 (nat_lit 0) := by kernel_rfl
theorem kw12 : KnOK Tryz.prog 378 (.b true) := kn_ofK (X := arX) mixed bsOK (l := .kn 382 (.b true) :: .kn 383 (.b true) :: rws) (fun r hr => by rcases List.mem_cons.1 hr with rfl | hr; exact kw9; rcases List.mem_cons.1 hr with rfl | hr; exact kw11; exact rws_ok r hr) aw12
theorem aw13 : runK (ftL bs (.kn 378 (.b true) :: rws)) 60 372 = .fin (.b true) h0 (nat_lit 0) := by kernel_rfl
theorem kw13 : KnOK Tryz.prog 372 (.b true) := kn_ofK (X := arX) mixed bsOK (l := .kn 378 (.b true) :: rws) (fun r hr => by rcases List.mem_cons.1 hr with rfl | hr; exact kw12; exact rws_ok r hr) aw13
theorem aw15 : runK (ftL bs (.kn 372 (.b true) :: .kn 373 (.b true) :: rws)) 60 364 = .fin (.b true) h0 (nat_lit 0) := by kernel_rfl
theorem kw15 : KnOK Tryz.prog 364 (.b true) := kn_ofK (X := arX) mixed bsOK (l := .kn 372 (.b true) :: .kn 373 (.b true) :: rws) (fun r hr => by rcases List.mem_cons.1 hr with rfl | hr; exact kw13; rcases List.mem_cons.1 hr with rfl | hr; exact kw14; exact rws_ok r hr) aw15
theorem aw16 : runK (ftL bs (.kn 364 (.b true) :: rws)) 60 320 = .fin (.b true) h0 (nat_lit 0) := by kernel_rfl
theorem kw16 : KnOK Tryz.prog 320 (.b true) := kn_ofK (X := arX) mixed bsOK (l := .kn 364 (.b true) :: rws) (fun r hr => by rcases List.mem_cons.1 hr with rfl | hr; exact kw15; exact rws_ok r hr) aw16
theorem aw18 : runK (ftL bs (.kn 320 (.b true) :: rws)) 60 227 = .fin (.b true) h0 (nat_lit 0) := by kernel_rfl
theorem kw18 : KnOK Tryz.prog 227 (.b true) := kn_ofK (X := arX) mixed bsOK (l := .kn 320 (.b true) :: rws) (fun r hr => by rcases List.mem_cons.1 hr with rfl | hr; exact kw16; exact rws_ok r hr) aw18
end Go.Proofs.YtlbbocbfblohkaaGreatDoor.Bt
