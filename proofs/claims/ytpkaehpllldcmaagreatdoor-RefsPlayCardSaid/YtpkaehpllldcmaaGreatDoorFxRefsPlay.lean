import Derived.Test.YtpkaehpllldcmaaGreatDoorCards
import Derived.JoinedOf
import Derived.KernelRfl
namespace Go.Proofs.YtpkaehpllldcmaaGreatDoor.refsPlay
open Go
theorem f1 : (Rows.refsPlayRow.inPlace == Tryz.pinned.checked.prog.inPlace 3) = true := by kernel_rfl
theorem f2 : (Rows.refsPlayRow.unfollowed == Tryz.pinned.checked.prog.unfollowed 3) = true := by kernel_rfl
theorem f3 : (Rows.refsPlayRow.recurses == Tryz.pinned.checked.prog.recurses 3) = true := by kernel_rfl
theorem f4 : (Rows.refsPlayRow.named == Tryz.pinned.checked.prog.varsNamed 3) = true := by kernel_rfl
theorem closed : joinedFacts Tryz.pinned.checked.prog 3 Tryz.f3 Rows.refsPlaySpec Rows.refsPlayRow = true := by
  unfold joinedFacts; rw [f1, f2, f3, f4]; kernel_rfl
theorem c1 : Rows.refsPlayRow.wfByText (OpenSpec.ofChange Rows.refsPlaySpec) = true := by kernel_rfl
theorem c2 : Tryz.pinned.checked.prog.mainIs = some (true, "3b7829153c938768779e3a89321626d12f0c29883c93c727fa38937ebe74deed".toList) := by kernel_rfl
theorem c3 : false = Tryz.pinned.checked.prog.looks [] := by kernel_rfl
theorem c4 : false = Rows.refsPlayRow.goesBy Tryz.pinned.checked.prog := by kernel_rfl
theorem c7 : Tryz.pinned.checked.prog.funcNamed Rows.refsPlayRow.func = some 3 := by kernel_rfl
end Go.Proofs.YtpkaehpllldcmaaGreatDoor.refsPlay
