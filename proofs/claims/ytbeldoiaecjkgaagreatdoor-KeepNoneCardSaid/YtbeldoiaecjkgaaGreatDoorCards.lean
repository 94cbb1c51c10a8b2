/-
  DERIVED. GIVEN WITH THE SEED: THE CARDS: each row of YtbeldoiaecjkgaaGreatDoorRows.lean that lists a variable, with what it lists TIED to the program's text (the seventh form; the later family's looks); each row that meets fmt, with fmt's text TOLD by the authors' own Lean function (tested against real Go, not proved from fmt's source: count such statements apart). THE CARD IS WHAT COUNTS. Prove the row's statement (the work); the ties are given (YtbeldoiaecjkgaaGreatDoorTie.lean); close each card by the builder's one call (the guide's Derived/Test/ToyasCard.lean, 'card_holds'). Laid BY PROGRAM, IN A SANDBOX (cutbox-door.mjs). By AI agents, Wed Nov 11 2026. No macro, syntax, notation, axiom, sorry.
-/
import Derived.Test.YtbeldoiaecjkgaaGreatDoorRows
import GoSem.ClaimSeven
namespace Go.Proofs.YtbeldoiaecjkgaaGreatDoor
namespace Rows

/-- THE TIED CARD OF 'millpondlaw26.KeepNone'. -/
def keepNoneCard : Claim7 := { stood := { row := keepNoneRow, standIns := [], harness := (true, "dca0552b6694b283bf77bdc063504dbf1d4425a181567e335b3d57f5a66a339a"), looks := false }, kinds := [], alts := [], laidByText := true, laidKinds := [.data], laidTests := true, laidLooks := .later }
def KeepNoneCardSaid : Prop := Claim7.holds Tryz.pinned (.plain (OpenSpec.ofChange keepNoneSpec)) keepNoneCard

/-- THE SECOND FORM's CARD OF 'millpondlaw26.KeepNone'. -/
def keepNoneUptoCard : Claim7 := { stood := { row := keepNoneUptoRow, standIns := [], harness := (true, "dca0552b6694b283bf77bdc063504dbf1d4425a181567e335b3d57f5a66a339a"), looks := false }, kinds := [], alts := [], laidByText := true, laidKinds := [.data], laidTests := true, laidLooks := .later }
def KeepNoneUptoCardSaid : Prop := Claim7.holds Tryz.pinned (.plain (OpenSpec.upto keepNoneSpec)) keepNoneUptoCard
end Rows
end Go.Proofs.YtbeldoiaecjkgaaGreatDoor
