/- Closed facts of a row. -/
import Derived.Test.YtbeldoiaecjkgaaGreatDoorCards
import Derived.JoinedOf
import Derived.KernelRfl
namespace Go.Proofs.YtbeldoiaecjkgaaGreatDoor.keepNone
open Go
theorem f1 : (Rows.keepNoneRow.inPlace == Tryz.pinned.checked.prog.inPlace 3) = true := by kernel_rfl
theorem f2 : (Rows.keepNoneRow.unfollowed == Tryz.pinned.checked.prog.unfollowed 3) = true := by kernel_rfl
theorem f3 : (Rows.keepNoneRow.recurses == Tryz.pinned.checked.prog.recurses 3) = true := by kernel_rfl
theorem f4 : (Rows.keepNoneRow.named == Tryz.pinned.checked.prog.varsNamed 3) = true := by kernel_rfl
theorem closed : joinedFacts Tryz.pinned.checked.prog 3 Tryz.f3 Rows.keepNoneSpec Rows.keepNoneRow = true := by
  unfold joinedFacts; rw [f1, f2, f3, f4]; kernel_rfl
theorem c1 : Rows.keepNoneRow.wfByText (OpenSpec.ofChange Rows.keepNoneSpec) = true := by kernel_rfl
theorem c2 : Tryz.pinned.checked.prog.mainIs = some (true, "dca0552b6694b283bf77bdc063504dbf1d4425a181567e335b3d57f5a66a339a".toList) := by kernel_rfl
theorem c3 : false = Tryz.pinned.checked.prog.looks [] := by kernel_rfl
theorem c4 : false = Rows.keepNoneRow.goesBy Tryz.pinned.checked.prog := by kernel_rfl
theorem c7 : Tryz.pinned.checked.prog.funcNamed Rows.keepNoneRow.func = some 3 := by kernel_rfl
end Go.Proofs.YtbeldoiaecjkgaaGreatDoor.keepNone
