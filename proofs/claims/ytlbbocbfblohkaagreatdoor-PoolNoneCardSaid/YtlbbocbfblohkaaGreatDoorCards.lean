/-
  DERIVED. GIVEN WITH THE SEED: THE CARDS: each row of YtlbbocbfblohkaaGreatDoorRows.lean that lists a variable, with what it lists TIED to the program's text (the seventh form; the later family's looks); each row that meets fmt, with fmt's text TOLD by the authors' own Lean function (tested against real Go, not proved from fmt's source: count such statements apart). THE CARD IS WHAT COUNTS. Prove the row's statement (the work); the ties are given (YtlbbocbfblohkaaGreatDoorTie.lean); close each card by the builder's one call (the guide's Derived/Test/ToyasCard.lean, 'card_holds'). Laid BY PROGRAM, IN A SANDBOX (cutbox-door.mjs). By AI agents, Wed Nov 11 2026. No macro, syntax, notation, axiom, sorry.
-/
import Derived.Test.YtlbbocbfblohkaaGreatDoorRows
import GoSem.ClaimSeven
namespace Go.Proofs.YtlbbocbfblohkaaGreatDoor
namespace Rows

/-- THE TIED CARD OF 'millpondlaw23.RefsNone'. -/
def refsNoneCard : Claim7 := { stood := { row := refsNoneRow, standIns := [], harness := (true, "21218b810d483ff5063bff8269c94b5701fc2a9cd8e9ee0d0c795d6074d752e8"), looks := false }, kinds := [], alts := [], laidByText := true, laidKinds := [.data], laidTests := true, laidLooks := .later }
def RefsNoneCardSaid : Prop := Claim7.holds Tryz.pinned (.plain (OpenSpec.ofChange refsNoneSpec)) refsNoneCard

/-- THE TIED CARD OF 'millpondlaw25.PoolNone'. -/
def poolNoneCard : Claim7 := { stood := { row := poolNoneRow, standIns := [], harness := (true, "21218b810d483ff5063bff8269c94b5701fc2a9cd8e9ee0d0c795d6074d752e8"), looks := false }, kinds := [], alts := [], laidByText := true, laidKinds := [.data], laidTests := true, laidLooks := .later }
def PoolNoneCardSaid : Prop := Claim7.holds Tryz.pinned (.plain (OpenSpec.ofChange poolNoneSpec)) poolNoneCard

/-- THE SECOND FORM's CARD OF 'millpondlaw23.RefsNone'. -/
def refsNoneUptoCard : Claim7 := { stood := { row := refsNoneUptoRow, standIns := [], harness := (true, "21218b810d483ff5063bff8269c94b5701fc2a9cd8e9ee0d0c795d6074d752e8"), looks := false }, kinds := [], alts := [], laidByText := true, laidKinds := [.data], laidTests := true, laidLooks := .later }
def RefsNoneUptoCardSaid : Prop := Claim7.holds Tryz.pinned (.plain (OpenSpec.upto refsNoneSpec)) refsNoneUptoCard

/-- THE SECOND FORM's CARD OF 'millpondlaw25.PoolNone'. -/
def poolNoneUptoCard : Claim7 := { stood := { row := poolNoneUptoRow, standIns := [], harness := (true, "21218b810d483ff5063bff8269c94b5701fc2a9cd8e9ee0d0c795d6074d752e8"), looks := false }, kinds := [], alts := [], laidByText := true, laidKinds := [.data], laidTests := true, laidLooks := .later }
def PoolNoneUptoCardSaid : Prop := Claim7.holds Tryz.pinned (.plain (OpenSpec.upto poolNoneSpec)) poolNoneUptoCard
end Rows
end Go.Proofs.YtlbbocbfblohkaaGreatDoor
