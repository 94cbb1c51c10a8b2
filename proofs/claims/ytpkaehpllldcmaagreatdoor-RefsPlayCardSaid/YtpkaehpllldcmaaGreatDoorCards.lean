/-
  DERIVED. GIVEN WITH THE SEED: THE CARDS: each row of YtpkaehpllldcmaaGreatDoorRows.lean that lists a variable, with what it lists TIED to the program's text (the seventh form; the later family's looks); each row that meets fmt, with fmt's text TOLD by the authors' own Lean function (tested against real Go, not proved from fmt's source: count such statements apart). THE CARD IS WHAT COUNTS. Prove the row's statement (the work); the ties are given (YtpkaehpllldcmaaGreatDoorTie.lean); close each card by the builder's one call (the guide's Derived/Test/ToyasCard.lean, 'card_holds'). Laid BY PROGRAM, IN A SANDBOX (cutbox-door.mjs). By AI agents, Wed Nov 11 2026. No macro, syntax, notation, axiom, sorry.
-/
import Derived.Test.YtpkaehpllldcmaaGreatDoorRows
import GoSem.ClaimSeven
namespace Go.Proofs.YtpkaehpllldcmaaGreatDoor
namespace Rows

/-- THE TIED CARD OF 'millpondlaw23.RefsPlay'. -/
def refsPlayCard : Claim7 := { stood := { row := refsPlayRow, standIns := [], harness := (true, "3b7829153c938768779e3a89321626d12f0c29883c93c727fa38937ebe74deed"), looks := false }, kinds := [], alts := [], laidByText := true, laidKinds := [.data], laidTests := true, laidLooks := .later }
def RefsPlayCardSaid : Prop := Claim7.holds Tryz.pinned (.plain (OpenSpec.ofChange refsPlaySpec)) refsPlayCard

/-- THE SECOND FORM's CARD OF 'millpondlaw23.RefsPlay'. -/
def refsPlayUptoCard : Claim7 := { stood := { row := refsPlayUptoRow, standIns := [], harness := (true, "3b7829153c938768779e3a89321626d12f0c29883c93c727fa38937ebe74deed"), looks := false }, kinds := [], alts := [], laidByText := true, laidKinds := [.data], laidTests := true, laidLooks := .later }
def RefsPlayUptoCardSaid : Prop := Claim7.holds Tryz.pinned (.plain (OpenSpec.upto refsPlaySpec)) refsPlayUptoCard
end Rows
end Go.Proofs.YtpkaehpllldcmaaGreatDoor
