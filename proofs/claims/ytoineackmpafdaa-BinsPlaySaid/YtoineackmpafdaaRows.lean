/-
  No cell of these rows narrows 'for every input' (looked for: loops, veiled, ifaces, maps, wideKeys, modest, calm, conditions, laid).
  DERIVED. THE GIVEN ROWS OF THIS SEAT. 10 by the template 'for every input the law returns true; each argument reads behind the call as it read before'; 0 by the template 'total and deterministic' (their statements: YtoineackmpafdaaTotals.lean).
  GIVEN WITH THE SEED: the statements are not yours to turn. If you find one false, say at which input.
  Laid BY PROGRAM, IN A SANDBOX (cutbox-rows.mjs): the forced cells as the released guide's own fill.sh prints them over the translation bc4ac7f355f2300b… (all of the seat's roots in one cut). By AI agents, Wed Nov 11 2026. No macro, syntax, notation, axiom, sorry.
-/
import Derived.Test.YtoineackmpafdaaChecked
import GoSem.Claim
import GoSem.ClaimJoined
import GoSem.ClaimMapViews
import Derived.JoinedTies
import Derived.KernelRfl
namespace Go.Proofs.Ytoineackmpafdaa
/- THE CELL 'sum', in the pinned program and in every row, IS THE sha256 OF THE DUMP (.gsa) THAT YtoineackmpafdaaProg.lean LOADS. Nothing in Lean hashes anything: it is a label: what it is worth is what the hold of that sum in a sandbox is worth. -/
noncomputable def Try.pinned : Pinned := { name := "ytoineackmpafdaa", sum := "bc4ac7f355f2300bd96b18f8709e368c4825318362ecf4cb2df8bc47c80e3fe5", checked := Try.checked }
namespace Rows
def none {H : Type} : Left H := { results := [], args := [] }

/-- 'millpondlaw11.BinsNone': WHATEVER THE INPUT: true; the input reads as it did. -/
def binsNoneSpec : ChangeSpec := { name := "binsNone", fn := fun _ => fun
  | [] => { results := [.lit (.bool true)], args := [] }
  | _ => none }
def binsNoneRow : OpenClaim := { program := "ytoineackmpafdaa", sum := "bc4ac7f355f2300bd96b18f8709e368c4825318362ecf4cb2df8bc47c80e3fe5", func := "millpond/millpondlaw11.BinsNone", spec := "binsNone", unfollowed := true, recurses := true, apart := false }
def BinsNoneSaid : Prop := binsNoneRow.holds Try.pinned (OpenSpec.ofChange binsNoneSpec)

/-- ITS FALSE NEIGHBOUR: 'it returns false'. Refute it at one input. -/
def binsNoneWrong : ChangeSpec := { name := "binsNone", fn := fun _ => fun
  | [] => { results := [.lit (.bool false)], args := [] }
  | _ => none }
def BinsNoneWrongFalsely : Prop := binsNoneRow.holds Try.pinned (OpenSpec.ofChange binsNoneWrong)

/-- 'millpondlaw11.BinsTurn': WHATEVER THE INPUT: true; the input reads as it did. -/
def binsTurnSpec : ChangeSpec := { name := "binsTurn", fn := fun _ => fun
  | [d] => { results := [.lit (.bool true)], args := [d] }
  | _ => none }
def binsTurnRow : OpenClaim := { program := "ytoineackmpafdaa", sum := "bc4ac7f355f2300bd96b18f8709e368c4825318362ecf4cb2df8bc47c80e3fe5", func := "millpond/millpondlaw11.BinsTurn", spec := "binsTurn", unfollowed := true, recurses := true, apart := false }
def BinsTurnSaid : Prop := binsTurnRow.holds Try.pinned (OpenSpec.ofChange binsTurnSpec)

/-- ITS FALSE NEIGHBOUR: 'it returns false'. Refute it at one input. -/
def binsTurnWrong : ChangeSpec := { name := "binsTurn", fn := fun _ => fun
  | [d] => { results := [.lit (.bool false)], args := [d] }
  | _ => none }
def BinsTurnWrongFalsely : Prop := binsTurnRow.holds Try.pinned (OpenSpec.ofChange binsTurnWrong)

/-- 'millpondlaw11.BinsPlay': WHATEVER THE INPUT: true; the input reads as it did. -/
def binsPlaySpec : ChangeSpec := { name := "binsPlay", fn := fun _ => fun
  | [d] => { results := [.lit (.bool true)], args := [d] }
  | _ => none }
def binsPlayRow : OpenClaim := { program := "ytoineackmpafdaa", sum := "bc4ac7f355f2300bd96b18f8709e368c4825318362ecf4cb2df8bc47c80e3fe5", func := "millpond/millpondlaw11.BinsPlay", spec := "binsPlay", unfollowed := true, recurses := true, apart := false }
def BinsPlaySaid : Prop := binsPlayRow.holds Try.pinned (OpenSpec.ofChange binsPlaySpec)

/-- ITS FALSE NEIGHBOUR: 'it returns false'. Refute it at one input. -/
def binsPlayWrong : ChangeSpec := { name := "binsPlay", fn := fun _ => fun
  | [d] => { results := [.lit (.bool false)], args := [d] }
  | _ => none }
def BinsPlayWrongFalsely : Prop := binsPlayRow.holds Try.pinned (OpenSpec.ofChange binsPlayWrong)

/-- 'millpondlaw07.ListOrder': WHATEVER THE INPUT: true; the input reads as it did. -/
def listOrderSpec : ChangeSpec := { name := "listOrder", fn := fun _ => fun
  | [d] => { results := [.lit (.bool true)], args := [d] }
  | _ => none }
def listOrderRow : OpenClaim := { program := "ytoineackmpafdaa", sum := "bc4ac7f355f2300bd96b18f8709e368c4825318362ecf4cb2df8bc47c80e3fe5", func := "millpond/millpondlaw07.ListOrder", spec := "listOrder", unfollowed := true, recurses := true, apart := false }
def ListOrderSaid : Prop := listOrderRow.holds Try.pinned (OpenSpec.ofChange listOrderSpec)

/-- ITS FALSE NEIGHBOUR: 'it returns false'. Refute it at one input. -/
def listOrderWrong : ChangeSpec := { name := "listOrder", fn := fun _ => fun
  | [d] => { results := [.lit (.bool false)], args := [d] }
  | _ => none }
def ListOrderWrongFalsely : Prop := listOrderRow.holds Try.pinned (OpenSpec.ofChange listOrderWrong)

/-- 'millpondlaw06.TagsNone': WHATEVER THE INPUT: true; the input reads as it did. -/
def tagsNoneSpec : ChangeSpec := { name := "tagsNone", fn := fun _ => fun
  | [] => { results := [.lit (.bool true)], args := [] }
  | _ => none }
def tagsNoneRow : OpenClaim := { program := "ytoineackmpafdaa", sum := "bc4ac7f355f2300bd96b18f8709e368c4825318362ecf4cb2df8bc47c80e3fe5", func := "millpond/millpondlaw06.TagsNone", spec := "tagsNone", unfollowed := true, recurses := true, apart := false }
def TagsNoneSaid : Prop := tagsNoneRow.holds Try.pinned (OpenSpec.ofChange tagsNoneSpec)

/-- ITS FALSE NEIGHBOUR: 'it returns false'. Refute it at one input. -/
def tagsNoneWrong : ChangeSpec := { name := "tagsNone", fn := fun _ => fun
  | [] => { results := [.lit (.bool false)], args := [] }
  | _ => none }
def TagsNoneWrongFalsely : Prop := tagsNoneRow.holds Try.pinned (OpenSpec.ofChange tagsNoneWrong)

/-- 'millpondlaw04.ViewApart': WHATEVER THE INPUT: true; the input reads as it did. -/
def viewApartSpec : ChangeSpec := { name := "viewApart", fn := fun _ => fun
  | [d1, d2, d3, d4] => { results := [.lit (.bool true)], args := [d1, d2, d3, d4] }
  | _ => none }
def viewApartRow : OpenClaim := { program := "ytoineackmpafdaa", sum := "bc4ac7f355f2300bd96b18f8709e368c4825318362ecf4cb2df8bc47c80e3fe5", func := "millpond/millpondlaw04.ViewApart", spec := "viewApart", inPlace := ["internal/abi.NoEscape", "internal/bytealg.MakeNoZero"], unfollowed := true, recurses := true, apart := false }
def ViewApartSaid : Prop := viewApartRow.holds Try.pinned (OpenSpec.ofChange viewApartSpec)

/-- ITS FALSE NEIGHBOUR: 'it returns false'. Refute it at one input. -/
def viewApartWrong : ChangeSpec := { name := "viewApart", fn := fun _ => fun
  | [d1, d2, d3, d4] => { results := [.lit (.bool false)], args := [d1, d2, d3, d4] }
  | _ => none }
def ViewApartWrongFalsely : Prop := viewApartRow.holds Try.pinned (OpenSpec.ofChange viewApartWrong)

/-- 'millpondlaw04.ViewNone': WHATEVER THE INPUT: true; the input reads as it did. -/
def viewNoneSpec : ChangeSpec := { name := "viewNone", fn := fun _ => fun
  | [] => { results := [.lit (.bool true)], args := [] }
  | _ => none }
def viewNoneRow : OpenClaim := { program := "ytoineackmpafdaa", sum := "bc4ac7f355f2300bd96b18f8709e368c4825318362ecf4cb2df8bc47c80e3fe5", func := "millpond/millpondlaw04.ViewNone", spec := "viewNone", inPlace := ["internal/abi.NoEscape", "internal/bytealg.MakeNoZero"], unfollowed := true, recurses := true, apart := false }
def ViewNoneSaid : Prop := viewNoneRow.holds Try.pinned (OpenSpec.ofChange viewNoneSpec)

/-- ITS FALSE NEIGHBOUR: 'it returns false'. Refute it at one input. -/
def viewNoneWrong : ChangeSpec := { name := "viewNone", fn := fun _ => fun
  | [] => { results := [.lit (.bool false)], args := [] }
  | _ => none }
def ViewNoneWrongFalsely : Prop := viewNoneRow.holds Try.pinned (OpenSpec.ofChange viewNoneWrong)

/-- 'millpondlaw02.BitsPlay': WHATEVER THE INPUT: true; the input reads as it did. -/
def bitsPlaySpec : ChangeSpec := { name := "bitsPlay", fn := fun _ => fun
  | [d1, d2] => { results := [.lit (.bool true)], args := [d1, d2] }
  | _ => none }
def bitsPlayRow : OpenClaim := { program := "ytoineackmpafdaa", sum := "bc4ac7f355f2300bd96b18f8709e368c4825318362ecf4cb2df8bc47c80e3fe5", func := "millpond/millpondlaw02.BitsPlay", spec := "bitsPlay", unfollowed := true, recurses := true, apart := false }
def BitsPlaySaid : Prop := bitsPlayRow.holds Try.pinned (OpenSpec.ofChange bitsPlaySpec)

/-- ITS FALSE NEIGHBOUR: 'it returns false'. Refute it at one input. -/
def bitsPlayWrong : ChangeSpec := { name := "bitsPlay", fn := fun _ => fun
  | [d1, d2] => { results := [.lit (.bool false)], args := [d1, d2] }
  | _ => none }
def BitsPlayWrongFalsely : Prop := bitsPlayRow.holds Try.pinned (OpenSpec.ofChange bitsPlayWrong)

/-- 'millpondlaw03.ArenaPlays': WHATEVER THE INPUT: true; the input reads as it did. -/
def arenaPlaysSpec : ChangeSpec := { name := "arenaPlays", fn := fun _ => fun
  | [d1, d2] => { results := [.lit (.bool true)], args := [d1, d2] }
  | _ => none }
def arenaPlaysRow : OpenClaim := { program := "ytoineackmpafdaa", sum := "bc4ac7f355f2300bd96b18f8709e368c4825318362ecf4cb2df8bc47c80e3fe5", func := "millpond/millpondlaw03.ArenaPlays", spec := "arenaPlays", unfollowed := true, recurses := true, apart := false }
def ArenaPlaysSaid : Prop := arenaPlaysRow.holds Try.pinned (OpenSpec.ofChange arenaPlaysSpec)

/-- ITS FALSE NEIGHBOUR: 'it returns false'. Refute it at one input. -/
def arenaPlaysWrong : ChangeSpec := { name := "arenaPlays", fn := fun _ => fun
  | [d1, d2] => { results := [.lit (.bool false)], args := [d1, d2] }
  | _ => none }
def ArenaPlaysWrongFalsely : Prop := arenaPlaysRow.holds Try.pinned (OpenSpec.ofChange arenaPlaysWrong)

/-- 'millpondlaw04.ViewPlays': WHATEVER THE INPUT: true; the input reads as it did. -/
def viewPlaysSpec : ChangeSpec := { name := "viewPlays", fn := fun _ => fun
  | [d1, d2, d3] => { results := [.lit (.bool true)], args := [d1, d2, d3] }
  | _ => none }
def viewPlaysRow : OpenClaim := { program := "ytoineackmpafdaa", sum := "bc4ac7f355f2300bd96b18f8709e368c4825318362ecf4cb2df8bc47c80e3fe5", func := "millpond/millpondlaw04.ViewPlays", spec := "viewPlays", inPlace := ["internal/abi.NoEscape", "internal/bytealg.MakeNoZero"], unfollowed := true, recurses := true, apart := false }
def ViewPlaysSaid : Prop := viewPlaysRow.holds Try.pinned (OpenSpec.ofChange viewPlaysSpec)

/-- ITS FALSE NEIGHBOUR: 'it returns false'. Refute it at one input. -/
def viewPlaysWrong : ChangeSpec := { name := "viewPlays", fn := fun _ => fun
  | [d1, d2, d3] => { results := [.lit (.bool false)], args := [d1, d2, d3] }
  | _ => none }
def ViewPlaysWrongFalsely : Prop := viewPlaysRow.holds Try.pinned (OpenSpec.ofChange viewPlaysWrong)

/- THE SECOND FORM. 'bulk': how many values and letters a reading holds, each counted each time it is reached (what is shared counts as often as it is met; a slice's spare places count too). A statement '..UptoSaid' is the law's where the arguments, and the package variables that the reading takes, are together of bulk at most 1048576: NARROWER than '..Said'. Prove '..Said' where nothing that the law and all that it calls make is longer than what came in: it says more and counts as full. Else prove '..UptoSaid'. A law counts once. -/
mutual
def uptoBulk {H : Type} : DataW H → Nat
  | .lit (.string bytes) => bytes.length + 1
  | .lit _ => 1
  | .nil => 1
  | .ptr d => uptoBulk d + 1
  | .slice elems spare => uptoBulkAll elems + uptoBulkAll spare + 1
  | .agg parts => uptoBulkAll parts + 1
  | .iface _ d => uptoBulk d + 1
  | .map entries => uptoBulkEntries entries + 1
  | .held _ => 1
def uptoBulkAll {H : Type} : List (DataW H) → Nat
  | [] => 0
  | d :: r => uptoBulk d + uptoBulkAll r
def uptoBulkEntries {H : Type} : List (Lit × DataW H) → Nat
  | [] => 0
  | x :: r => uptoBulkEntry x + uptoBulkEntries r
def uptoBulkEntry {H : Type} : Lit × DataW H → Nat
  | (.string bytes, d) => bytes.length + uptoBulk d + 1
  | (_, d) => uptoBulk d + 1
 end
def uptoSmall : (H : Type) → List (DataW H) → Bool := fun _ ds => decide (uptoBulkAll ds ≤ 1048576)
def OpenSpec.upto (s : _root_.Go.ChangeSpec) : _root_.Go.OpenSpec := { _root_.Go.OpenSpec.ofChange s with cond := some uptoSmall }

/-- 'millpondlaw11.BinsNone', WHERE WHAT IT READS IS OF BULK AT MOST 1048576: true; the input reads as it did. -/
def binsNoneUptoRow : OpenClaim := { program := "ytoineackmpafdaa", sum := "bc4ac7f355f2300bd96b18f8709e368c4825318362ecf4cb2df8bc47c80e3fe5", func := "millpond/millpondlaw11.BinsNone", spec := "binsNone", unfollowed := true, recurses := true, apart := false, narrowed := true }
def BinsNoneUptoSaid : Prop := binsNoneUptoRow.holds Try.pinned (OpenSpec.upto binsNoneSpec)

/-- 'millpondlaw11.BinsTurn', WHERE WHAT IT READS IS OF BULK AT MOST 1048576: true; the input reads as it did. -/
def binsTurnUptoRow : OpenClaim := { program := "ytoineackmpafdaa", sum := "bc4ac7f355f2300bd96b18f8709e368c4825318362ecf4cb2df8bc47c80e3fe5", func := "millpond/millpondlaw11.BinsTurn", spec := "binsTurn", unfollowed := true, recurses := true, apart := false, narrowed := true }
def BinsTurnUptoSaid : Prop := binsTurnUptoRow.holds Try.pinned (OpenSpec.upto binsTurnSpec)

/-- 'millpondlaw11.BinsPlay', WHERE WHAT IT READS IS OF BULK AT MOST 1048576: true; the input reads as it did. -/
def binsPlayUptoRow : OpenClaim := { program := "ytoineackmpafdaa", sum := "bc4ac7f355f2300bd96b18f8709e368c4825318362ecf4cb2df8bc47c80e3fe5", func := "millpond/millpondlaw11.BinsPlay", spec := "binsPlay", unfollowed := true, recurses := true, apart := false, narrowed := true }
def BinsPlayUptoSaid : Prop := binsPlayUptoRow.holds Try.pinned (OpenSpec.upto binsPlaySpec)

/-- 'millpondlaw07.ListOrder', WHERE WHAT IT READS IS OF BULK AT MOST 1048576: true; the input reads as it did. -/
def listOrderUptoRow : OpenClaim := { program := "ytoineackmpafdaa", sum := "bc4ac7f355f2300bd96b18f8709e368c4825318362ecf4cb2df8bc47c80e3fe5", func := "millpond/millpondlaw07.ListOrder", spec := "listOrder", unfollowed := true, recurses := true, apart := false, narrowed := true }
def ListOrderUptoSaid : Prop := listOrderUptoRow.holds Try.pinned (OpenSpec.upto listOrderSpec)

/-- 'millpondlaw06.TagsNone', WHERE WHAT IT READS IS OF BULK AT MOST 1048576: true; the input reads as it did. -/
def tagsNoneUptoRow : OpenClaim := { program := "ytoineackmpafdaa", sum := "bc4ac7f355f2300bd96b18f8709e368c4825318362ecf4cb2df8bc47c80e3fe5", func := "millpond/millpondlaw06.TagsNone", spec := "tagsNone", unfollowed := true, recurses := true, apart := false, narrowed := true }
def TagsNoneUptoSaid : Prop := tagsNoneUptoRow.holds Try.pinned (OpenSpec.upto tagsNoneSpec)

/-- 'millpondlaw04.ViewApart', WHERE WHAT IT READS IS OF BULK AT MOST 1048576: true; the input reads as it did. -/
def viewApartUptoRow : OpenClaim := { program := "ytoineackmpafdaa", sum := "bc4ac7f355f2300bd96b18f8709e368c4825318362ecf4cb2df8bc47c80e3fe5", func := "millpond/millpondlaw04.ViewApart", spec := "viewApart", inPlace := ["internal/abi.NoEscape", "internal/bytealg.MakeNoZero"], unfollowed := true, recurses := true, apart := false, narrowed := true }
def ViewApartUptoSaid : Prop := viewApartUptoRow.holds Try.pinned (OpenSpec.upto viewApartSpec)

/-- 'millpondlaw04.ViewNone', WHERE WHAT IT READS IS OF BULK AT MOST 1048576: true; the input reads as it did. -/
def viewNoneUptoRow : OpenClaim := { program := "ytoineackmpafdaa", sum := "bc4ac7f355f2300bd96b18f8709e368c4825318362ecf4cb2df8bc47c80e3fe5", func := "millpond/millpondlaw04.ViewNone", spec := "viewNone", inPlace := ["internal/abi.NoEscape", "internal/bytealg.MakeNoZero"], unfollowed := true, recurses := true, apart := false, narrowed := true }
def ViewNoneUptoSaid : Prop := viewNoneUptoRow.holds Try.pinned (OpenSpec.upto viewNoneSpec)

/-- 'millpondlaw02.BitsPlay', WHERE WHAT IT READS IS OF BULK AT MOST 1048576: true; the input reads as it did. -/
def bitsPlayUptoRow : OpenClaim := { program := "ytoineackmpafdaa", sum := "bc4ac7f355f2300bd96b18f8709e368c4825318362ecf4cb2df8bc47c80e3fe5", func := "millpond/millpondlaw02.BitsPlay", spec := "bitsPlay", unfollowed := true, recurses := true, apart := false, narrowed := true }
def BitsPlayUptoSaid : Prop := bitsPlayUptoRow.holds Try.pinned (OpenSpec.upto bitsPlaySpec)

/-- 'millpondlaw03.ArenaPlays', WHERE WHAT IT READS IS OF BULK AT MOST 1048576: true; the input reads as it did. -/
def arenaPlaysUptoRow : OpenClaim := { program := "ytoineackmpafdaa", sum := "bc4ac7f355f2300bd96b18f8709e368c4825318362ecf4cb2df8bc47c80e3fe5", func := "millpond/millpondlaw03.ArenaPlays", spec := "arenaPlays", unfollowed := true, recurses := true, apart := false, narrowed := true }
def ArenaPlaysUptoSaid : Prop := arenaPlaysUptoRow.holds Try.pinned (OpenSpec.upto arenaPlaysSpec)

/-- 'millpondlaw04.ViewPlays', WHERE WHAT IT READS IS OF BULK AT MOST 1048576: true; the input reads as it did. -/
def viewPlaysUptoRow : OpenClaim := { program := "ytoineackmpafdaa", sum := "bc4ac7f355f2300bd96b18f8709e368c4825318362ecf4cb2df8bc47c80e3fe5", func := "millpond/millpondlaw04.ViewPlays", spec := "viewPlays", inPlace := ["internal/abi.NoEscape", "internal/bytealg.MakeNoZero"], unfollowed := true, recurses := true, apart := false, narrowed := true }
def ViewPlaysUptoSaid : Prop := viewPlaysUptoRow.holds Try.pinned (OpenSpec.upto viewPlaysSpec)

end Rows
end Go.Proofs.Ytoineackmpafdaa
