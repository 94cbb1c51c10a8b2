/-
  No cell of these rows narrows 'for every input' (looked for: loops, veiled, ifaces, maps, wideKeys, modest, calm, conditions, laid).
  DERIVED. THE GIVEN ROWS OF THIS SEAT. 16 by the template 'for every input the law returns true; each argument reads behind the call as it read before'; 0 by the template 'total and deterministic' (their statements: YtfappdiipflpfaaTotals.lean).
  GIVEN WITH THE SEED: the statements are not yours to turn. If you find one false, say at which input.
  Laid BY PROGRAM, IN A SANDBOX (cutbox-rows.mjs): the forced cells as the released guide's own fill.sh prints them over the translation 29decbbe60473eb1… (all of the seat's roots in one cut). By AI agents, Wed Nov 11 2026. No macro, syntax, notation, axiom, sorry.
-/
import Derived.Test.YtfappdiipflpfaaChecked
import GoSem.Claim
import GoSem.ClaimJoined
import GoSem.ClaimMapViews
import Derived.JoinedTies
import Derived.KernelRfl
namespace Go.Proofs.Ytfappdiipflpfaa
/- THE CELL 'sum', in the pinned program and in every row, IS THE sha256 OF THE DUMP (.gsa) THAT YtfappdiipflpfaaProg.lean LOADS. Nothing in Lean hashes anything: it is a label: what it is worth is what the hold of that sum in a sandbox is worth. -/
noncomputable def Try.pinned : Pinned := { name := "ytfappdiipflpfaa", sum := "29decbbe60473eb1e21bd37c8bcd9aae37c5afa90c45609cc5764f151a696b0b", checked := Try.checked }
namespace Rows
def none {H : Type} : Left H := { results := [], args := [] }

/-- 'millpondlaw03.ArenaGreat': WHATEVER THE INPUT: true; the input reads as it did. -/
def arenaGreatSpec : ChangeSpec := { name := "arenaGreat", fn := fun _ => fun
  | [d1, d2, d3, d4, d5] => { results := [.lit (.bool true)], args := [d1, d2, d3, d4, d5] }
  | _ => none }
def arenaGreatRow : OpenClaim := { program := "ytfappdiipflpfaa", sum := "29decbbe60473eb1e21bd37c8bcd9aae37c5afa90c45609cc5764f151a696b0b", func := "millpond/millpondlaw03.ArenaGreat", spec := "arenaGreat", unfollowed := true, recurses := true, apart := false }
def ArenaGreatSaid : Prop := arenaGreatRow.holds Try.pinned (OpenSpec.ofChange arenaGreatSpec)

/-- ITS FALSE NEIGHBOUR: 'it returns false'. Refute it at one input. -/
def arenaGreatWrong : ChangeSpec := { name := "arenaGreat", fn := fun _ => fun
  | [d1, d2, d3, d4, d5] => { results := [.lit (.bool false)], args := [d1, d2, d3, d4, d5] }
  | _ => none }
def ArenaGreatWrongFalsely : Prop := arenaGreatRow.holds Try.pinned (OpenSpec.ofChange arenaGreatWrong)

/-- 'millpondlaw03.ArenaKeeps': WHATEVER THE INPUT: true; the input reads as it did. -/
def arenaKeepsSpec : ChangeSpec := { name := "arenaKeeps", fn := fun _ => fun
  | [d1, d2, d3, d4] => { results := [.lit (.bool true)], args := [d1, d2, d3, d4] }
  | _ => none }
def arenaKeepsRow : OpenClaim := { program := "ytfappdiipflpfaa", sum := "29decbbe60473eb1e21bd37c8bcd9aae37c5afa90c45609cc5764f151a696b0b", func := "millpond/millpondlaw03.ArenaKeeps", spec := "arenaKeeps", unfollowed := true, recurses := true, apart := false }
def ArenaKeepsSaid : Prop := arenaKeepsRow.holds Try.pinned (OpenSpec.ofChange arenaKeepsSpec)

/-- ITS FALSE NEIGHBOUR: 'it returns false'. Refute it at one input. -/
def arenaKeepsWrong : ChangeSpec := { name := "arenaKeeps", fn := fun _ => fun
  | [d1, d2, d3, d4] => { results := [.lit (.bool false)], args := [d1, d2, d3, d4] }
  | _ => none }
def ArenaKeepsWrongFalsely : Prop := arenaKeepsRow.holds Try.pinned (OpenSpec.ofChange arenaKeepsWrong)

/-- 'millpondlaw03.ArenaCopies': WHATEVER THE INPUT: true; the input reads as it did. -/
def arenaCopiesSpec : ChangeSpec := { name := "arenaCopies", fn := fun _ => fun
  | [d1, d2, d3, d4] => { results := [.lit (.bool true)], args := [d1, d2, d3, d4] }
  | _ => none }
def arenaCopiesRow : OpenClaim := { program := "ytfappdiipflpfaa", sum := "29decbbe60473eb1e21bd37c8bcd9aae37c5afa90c45609cc5764f151a696b0b", func := "millpond/millpondlaw03.ArenaCopies", spec := "arenaCopies", unfollowed := true, recurses := true, apart := false }
def ArenaCopiesSaid : Prop := arenaCopiesRow.holds Try.pinned (OpenSpec.ofChange arenaCopiesSpec)

/-- ITS FALSE NEIGHBOUR: 'it returns false'. Refute it at one input. -/
def arenaCopiesWrong : ChangeSpec := { name := "arenaCopies", fn := fun _ => fun
  | [d1, d2, d3, d4] => { results := [.lit (.bool false)], args := [d1, d2, d3, d4] }
  | _ => none }
def ArenaCopiesWrongFalsely : Prop := arenaCopiesRow.holds Try.pinned (OpenSpec.ofChange arenaCopiesWrong)

/-- 'millpondlaw03.ArenaNil': WHATEVER THE INPUT: true; the input reads as it did. -/
def arenaNilSpec : ChangeSpec := { name := "arenaNil", fn := fun _ => fun
  | [] => { results := [.lit (.bool true)], args := [] }
  | _ => none }
def arenaNilRow : OpenClaim := { program := "ytfappdiipflpfaa", sum := "29decbbe60473eb1e21bd37c8bcd9aae37c5afa90c45609cc5764f151a696b0b", func := "millpond/millpondlaw03.ArenaNil", spec := "arenaNil", unfollowed := true, recurses := true, apart := false }
def ArenaNilSaid : Prop := arenaNilRow.holds Try.pinned (OpenSpec.ofChange arenaNilSpec)

/-- ITS FALSE NEIGHBOUR: 'it returns false'. Refute it at one input. -/
def arenaNilWrong : ChangeSpec := { name := "arenaNil", fn := fun _ => fun
  | [] => { results := [.lit (.bool false)], args := [] }
  | _ => none }
def ArenaNilWrongFalsely : Prop := arenaNilRow.holds Try.pinned (OpenSpec.ofChange arenaNilWrong)

/-- 'millpondlaw04.ViewApart': WHATEVER THE INPUT: true; the input reads as it did. -/
def viewApartSpec : ChangeSpec := { name := "viewApart", fn := fun _ => fun
  | [d1, d2, d3, d4] => { results := [.lit (.bool true)], args := [d1, d2, d3, d4] }
  | _ => none }
def viewApartRow : OpenClaim := { program := "ytfappdiipflpfaa", sum := "29decbbe60473eb1e21bd37c8bcd9aae37c5afa90c45609cc5764f151a696b0b", func := "millpond/millpondlaw04.ViewApart", spec := "viewApart", inPlace := ["internal/abi.NoEscape", "internal/bytealg.MakeNoZero"], unfollowed := true, recurses := true, apart := false }
def ViewApartSaid : Prop := viewApartRow.holds Try.pinned (OpenSpec.ofChange viewApartSpec)

/-- ITS FALSE NEIGHBOUR: 'it returns false'. Refute it at one input. -/
def viewApartWrong : ChangeSpec := { name := "viewApart", fn := fun _ => fun
  | [d1, d2, d3, d4] => { results := [.lit (.bool false)], args := [d1, d2, d3, d4] }
  | _ => none }
def ViewApartWrongFalsely : Prop := viewApartRow.holds Try.pinned (OpenSpec.ofChange viewApartWrong)

/-- 'millpondlaw04.ViewTexts': WHATEVER THE INPUT: true; the input reads as it did. -/
def viewTextsSpec : ChangeSpec := { name := "viewTexts", fn := fun _ => fun
  | [d1, d2] => { results := [.lit (.bool true)], args := [d1, d2] }
  | _ => none }
def viewTextsRow : OpenClaim := { program := "ytfappdiipflpfaa", sum := "29decbbe60473eb1e21bd37c8bcd9aae37c5afa90c45609cc5764f151a696b0b", func := "millpond/millpondlaw04.ViewTexts", spec := "viewTexts", inPlace := ["internal/abi.NoEscape", "internal/bytealg.MakeNoZero"], unfollowed := true, recurses := true, apart := false }
def ViewTextsSaid : Prop := viewTextsRow.holds Try.pinned (OpenSpec.ofChange viewTextsSpec)

/-- ITS FALSE NEIGHBOUR: 'it returns false'. Refute it at one input. -/
def viewTextsWrong : ChangeSpec := { name := "viewTexts", fn := fun _ => fun
  | [d1, d2] => { results := [.lit (.bool false)], args := [d1, d2] }
  | _ => none }
def ViewTextsWrongFalsely : Prop := viewTextsRow.holds Try.pinned (OpenSpec.ofChange viewTextsWrong)

/-- 'millpondlaw04.ViewNone': WHATEVER THE INPUT: true; the input reads as it did. -/
def viewNoneSpec : ChangeSpec := { name := "viewNone", fn := fun _ => fun
  | [] => { results := [.lit (.bool true)], args := [] }
  | _ => none }
def viewNoneRow : OpenClaim := { program := "ytfappdiipflpfaa", sum := "29decbbe60473eb1e21bd37c8bcd9aae37c5afa90c45609cc5764f151a696b0b", func := "millpond/millpondlaw04.ViewNone", spec := "viewNone", inPlace := ["internal/abi.NoEscape", "internal/bytealg.MakeNoZero"], unfollowed := true, recurses := true, apart := false }
def ViewNoneSaid : Prop := viewNoneRow.holds Try.pinned (OpenSpec.ofChange viewNoneSpec)

/-- ITS FALSE NEIGHBOUR: 'it returns false'. Refute it at one input. -/
def viewNoneWrong : ChangeSpec := { name := "viewNone", fn := fun _ => fun
  | [] => { results := [.lit (.bool false)], args := [] }
  | _ => none }
def ViewNoneWrongFalsely : Prop := viewNoneRow.holds Try.pinned (OpenSpec.ofChange viewNoneWrong)

/-- 'millpondlaw04.ViewParts': WHATEVER THE INPUT: true; the input reads as it did. -/
def viewPartsSpec : ChangeSpec := { name := "viewParts", fn := fun _ => fun
  | [d1, d2, d3, d4, d5, d6, d7] => { results := [.lit (.bool true)], args := [d1, d2, d3, d4, d5, d6, d7] }
  | _ => none }
def viewPartsRow : OpenClaim := { program := "ytfappdiipflpfaa", sum := "29decbbe60473eb1e21bd37c8bcd9aae37c5afa90c45609cc5764f151a696b0b", func := "millpond/millpondlaw04.ViewParts", spec := "viewParts", inPlace := ["internal/abi.NoEscape", "internal/bytealg.MakeNoZero"], unfollowed := true, recurses := true, apart := false }
def ViewPartsSaid : Prop := viewPartsRow.holds Try.pinned (OpenSpec.ofChange viewPartsSpec)

/-- ITS FALSE NEIGHBOUR: 'it returns false'. Refute it at one input. -/
def viewPartsWrong : ChangeSpec := { name := "viewParts", fn := fun _ => fun
  | [d1, d2, d3, d4, d5, d6, d7] => { results := [.lit (.bool false)], args := [d1, d2, d3, d4, d5, d6, d7] }
  | _ => none }
def ViewPartsWrongFalsely : Prop := viewPartsRow.holds Try.pinned (OpenSpec.ofChange viewPartsWrong)

/-- 'millpondlaw05.FieldBack': WHATEVER THE INPUT: true; the input reads as it did. -/
def fieldBackSpec : ChangeSpec := { name := "fieldBack", fn := fun _ => fun
  | [d1, d2, d3, d4] => { results := [.lit (.bool true)], args := [d1, d2, d3, d4] }
  | _ => none }
def fieldBackRow : OpenClaim := { program := "ytfappdiipflpfaa", sum := "29decbbe60473eb1e21bd37c8bcd9aae37c5afa90c45609cc5764f151a696b0b", func := "millpond/millpondlaw05.FieldBack", spec := "fieldBack", unfollowed := true, recurses := true, apart := false }
def FieldBackSaid : Prop := fieldBackRow.holds Try.pinned (OpenSpec.ofChange fieldBackSpec)

/-- ITS FALSE NEIGHBOUR: 'it returns false'. Refute it at one input. -/
def fieldBackWrong : ChangeSpec := { name := "fieldBack", fn := fun _ => fun
  | [d1, d2, d3, d4] => { results := [.lit (.bool false)], args := [d1, d2, d3, d4] }
  | _ => none }
def FieldBackWrongFalsely : Prop := fieldBackRow.holds Try.pinned (OpenSpec.ofChange fieldBackWrong)

/-- 'millpondlaw05.FieldTexts': WHATEVER THE INPUT: true; the input reads as it did. -/
def fieldTextsSpec : ChangeSpec := { name := "fieldTexts", fn := fun _ => fun
  | [d1, d2, d3, d4] => { results := [.lit (.bool true)], args := [d1, d2, d3, d4] }
  | _ => none }
def fieldTextsRow : OpenClaim := { program := "ytfappdiipflpfaa", sum := "29decbbe60473eb1e21bd37c8bcd9aae37c5afa90c45609cc5764f151a696b0b", func := "millpond/millpondlaw05.FieldTexts", spec := "fieldTexts", inPlace := ["internal/abi.NoEscape", "internal/bytealg.MakeNoZero"], unfollowed := true, recurses := true, apart := false }
def FieldTextsSaid : Prop := fieldTextsRow.holds Try.pinned (OpenSpec.ofChange fieldTextsSpec)

/-- ITS FALSE NEIGHBOUR: 'it returns false'. Refute it at one input. -/
def fieldTextsWrong : ChangeSpec := { name := "fieldTexts", fn := fun _ => fun
  | [d1, d2, d3, d4] => { results := [.lit (.bool false)], args := [d1, d2, d3, d4] }
  | _ => none }
def FieldTextsWrongFalsely : Prop := fieldTextsRow.holds Try.pinned (OpenSpec.ofChange fieldTextsWrong)

/-- 'millpondlaw06.TagsPlay': WHATEVER THE INPUT: true; the input reads as it did. -/
def tagsPlaySpec : ChangeSpec := { name := "tagsPlay", fn := fun _ => fun
  | [d1, d2] => { results := [.lit (.bool true)], args := [d1, d2] }
  | _ => none }
def tagsPlayRow : OpenClaim := { program := "ytfappdiipflpfaa", sum := "29decbbe60473eb1e21bd37c8bcd9aae37c5afa90c45609cc5764f151a696b0b", func := "millpond/millpondlaw06.TagsPlay", spec := "tagsPlay", unfollowed := true, recurses := true, apart := false }
def TagsPlaySaid : Prop := tagsPlayRow.holds Try.pinned (OpenSpec.ofChange tagsPlaySpec)

/-- ITS FALSE NEIGHBOUR: 'it returns false'. Refute it at one input. -/
def tagsPlayWrong : ChangeSpec := { name := "tagsPlay", fn := fun _ => fun
  | [d1, d2] => { results := [.lit (.bool false)], args := [d1, d2] }
  | _ => none }
def TagsPlayWrongFalsely : Prop := tagsPlayRow.holds Try.pinned (OpenSpec.ofChange tagsPlayWrong)

/-- 'millpondlaw06.TagsLaid': WHATEVER THE INPUT: true; the input reads as it did. -/
def tagsLaidSpec : ChangeSpec := { name := "tagsLaid", fn := fun _ => fun
  | [d1, d2, d3] => { results := [.lit (.bool true)], args := [d1, d2, d3] }
  | _ => none }
def tagsLaidRow : OpenClaim := { program := "ytfappdiipflpfaa", sum := "29decbbe60473eb1e21bd37c8bcd9aae37c5afa90c45609cc5764f151a696b0b", func := "millpond/millpondlaw06.TagsLaid", spec := "tagsLaid", unfollowed := true, recurses := true, apart := false }
def TagsLaidSaid : Prop := tagsLaidRow.holds Try.pinned (OpenSpec.ofChange tagsLaidSpec)

/-- ITS FALSE NEIGHBOUR: 'it returns false'. Refute it at one input. -/
def tagsLaidWrong : ChangeSpec := { name := "tagsLaid", fn := fun _ => fun
  | [d1, d2, d3] => { results := [.lit (.bool false)], args := [d1, d2, d3] }
  | _ => none }
def TagsLaidWrongFalsely : Prop := tagsLaidRow.holds Try.pinned (OpenSpec.ofChange tagsLaidWrong)

/-- 'millpondlaw06.TagsNone': WHATEVER THE INPUT: true; the input reads as it did. -/
def tagsNoneSpec : ChangeSpec := { name := "tagsNone", fn := fun _ => fun
  | [] => { results := [.lit (.bool true)], args := [] }
  | _ => none }
def tagsNoneRow : OpenClaim := { program := "ytfappdiipflpfaa", sum := "29decbbe60473eb1e21bd37c8bcd9aae37c5afa90c45609cc5764f151a696b0b", func := "millpond/millpondlaw06.TagsNone", spec := "tagsNone", unfollowed := true, recurses := true, apart := false }
def TagsNoneSaid : Prop := tagsNoneRow.holds Try.pinned (OpenSpec.ofChange tagsNoneSpec)

/-- ITS FALSE NEIGHBOUR: 'it returns false'. Refute it at one input. -/
def tagsNoneWrong : ChangeSpec := { name := "tagsNone", fn := fun _ => fun
  | [] => { results := [.lit (.bool false)], args := [] }
  | _ => none }
def TagsNoneWrongFalsely : Prop := tagsNoneRow.holds Try.pinned (OpenSpec.ofChange tagsNoneWrong)

/-- 'millpondlaw07.ListPlays': WHATEVER THE INPUT: true; the input reads as it did. -/
def listPlaysSpec : ChangeSpec := { name := "listPlays", fn := fun _ => fun
  | [d1, d2] => { results := [.lit (.bool true)], args := [d1, d2] }
  | _ => none }
def listPlaysRow : OpenClaim := { program := "ytfappdiipflpfaa", sum := "29decbbe60473eb1e21bd37c8bcd9aae37c5afa90c45609cc5764f151a696b0b", func := "millpond/millpondlaw07.ListPlays", spec := "listPlays", unfollowed := true, recurses := true, apart := false }
def ListPlaysSaid : Prop := listPlaysRow.holds Try.pinned (OpenSpec.ofChange listPlaysSpec)

/-- ITS FALSE NEIGHBOUR: 'it returns false'. Refute it at one input. -/
def listPlaysWrong : ChangeSpec := { name := "listPlays", fn := fun _ => fun
  | [d1, d2] => { results := [.lit (.bool false)], args := [d1, d2] }
  | _ => none }
def ListPlaysWrongFalsely : Prop := listPlaysRow.holds Try.pinned (OpenSpec.ofChange listPlaysWrong)

/-- 'millpondlaw07.ListWrong': WHATEVER THE INPUT: true; the input reads as it did. -/
def listWrongSpec : ChangeSpec := { name := "listWrong", fn := fun _ => fun
  | [d1, d2] => { results := [.lit (.bool true)], args := [d1, d2] }
  | _ => none }
def listWrongRow : OpenClaim := { program := "ytfappdiipflpfaa", sum := "29decbbe60473eb1e21bd37c8bcd9aae37c5afa90c45609cc5764f151a696b0b", func := "millpond/millpondlaw07.ListWrong", spec := "listWrong", unfollowed := true, recurses := true, apart := false }
def ListWrongSaid : Prop := listWrongRow.holds Try.pinned (OpenSpec.ofChange listWrongSpec)

/-- ITS FALSE NEIGHBOUR: 'it returns false'. Refute it at one input. -/
def listWrongWrong : ChangeSpec := { name := "listWrong", fn := fun _ => fun
  | [d1, d2] => { results := [.lit (.bool false)], args := [d1, d2] }
  | _ => none }
def ListWrongWrongFalsely : Prop := listWrongRow.holds Try.pinned (OpenSpec.ofChange listWrongWrong)

/-- 'millpondlaw07.ListOrder': WHATEVER THE INPUT: true; the input reads as it did. -/
def listOrderSpec : ChangeSpec := { name := "listOrder", fn := fun _ => fun
  | [d] => { results := [.lit (.bool true)], args := [d] }
  | _ => none }
def listOrderRow : OpenClaim := { program := "ytfappdiipflpfaa", sum := "29decbbe60473eb1e21bd37c8bcd9aae37c5afa90c45609cc5764f151a696b0b", func := "millpond/millpondlaw07.ListOrder", spec := "listOrder", unfollowed := true, recurses := true, apart := false }
def ListOrderSaid : Prop := listOrderRow.holds Try.pinned (OpenSpec.ofChange listOrderSpec)

/-- ITS FALSE NEIGHBOUR: 'it returns false'. Refute it at one input. -/
def listOrderWrong : ChangeSpec := { name := "listOrder", fn := fun _ => fun
  | [d] => { results := [.lit (.bool false)], args := [d] }
  | _ => none }
def ListOrderWrongFalsely : Prop := listOrderRow.holds Try.pinned (OpenSpec.ofChange listOrderWrong)

/- THE SECOND FORM. 'bulk': how many values and letters a reading holds, each counted each time it is reached (what is shared counts as often as it is met; a slice's spare places count too). A statement '..UptoSaid' is the law's where the arguments, and the package variables that the reading takes, are together of bulk at most 1048576: NARROWER than '..Said'. Prove '..Said' where nothing that the law and all that it calls make is longer than what came in: it says more and counts as full. Else prove '..UptoSaid'. A law counts once. -/
mutual
def uptoBulk {H : Type} : DataW H → Nat
  | .lit (.string bytes) => bytes.length + 1
  | .lit _ => 1
  | .nil => 1
  | .ptr d => uptoBulk d + 1
  | .slice elems spare => uptoBulkAll elems + uptoBulkAll spare + 1
  | .agg parts => uptoBulkAll parts + 1
  | .iface _ d => uptoBulk d + 1
  | .map entries => uptoBulkEntries entries + 1
  | .held _ => 1
def uptoBulkAll {H : Type} : List (DataW H) → Nat
  | [] => 0
  | d :: r => uptoBulk d + uptoBulkAll r
def uptoBulkEntries {H : Type} : List (Lit × DataW H) → Nat
  | [] => 0
  | x :: r => uptoBulkEntry x + uptoBulkEntries r
def uptoBulkEntry {H : Type} : Lit × DataW H → Nat
  | (.string bytes, d) => bytes.length + uptoBulk d + 1
  | (_, d) => uptoBulk d + 1
 end
def uptoSmall : (H : Type) → List (DataW H) → Bool := fun _ ds => decide (uptoBulkAll ds ≤ 1048576)
def OpenSpec.upto (s : _root_.Go.ChangeSpec) : _root_.Go.OpenSpec := { _root_.Go.OpenSpec.ofChange s with cond := some uptoSmall }

/-- 'millpondlaw03.ArenaGreat', WHERE WHAT IT READS IS OF BULK AT MOST 1048576: true; the input reads as it did. -/
def arenaGreatUptoRow : OpenClaim := { program := "ytfappdiipflpfaa", sum := "29decbbe60473eb1e21bd37c8bcd9aae37c5afa90c45609cc5764f151a696b0b", func := "millpond/millpondlaw03.ArenaGreat", spec := "arenaGreat", unfollowed := true, recurses := true, apart := false, narrowed := true }
def ArenaGreatUptoSaid : Prop := arenaGreatUptoRow.holds Try.pinned (OpenSpec.upto arenaGreatSpec)

/-- 'millpondlaw03.ArenaKeeps', WHERE WHAT IT READS IS OF BULK AT MOST 1048576: true; the input reads as it did. -/
def arenaKeepsUptoRow : OpenClaim := { program := "ytfappdiipflpfaa", sum := "29decbbe60473eb1e21bd37c8bcd9aae37c5afa90c45609cc5764f151a696b0b", func := "millpond/millpondlaw03.ArenaKeeps", spec := "arenaKeeps", unfollowed := true, recurses := true, apart := false, narrowed := true }
def ArenaKeepsUptoSaid : Prop := arenaKeepsUptoRow.holds Try.pinned (OpenSpec.upto arenaKeepsSpec)

/-- 'millpondlaw03.ArenaCopies', WHERE WHAT IT READS IS OF BULK AT MOST 1048576: true; the input reads as it did. -/
def arenaCopiesUptoRow : OpenClaim := { program := "ytfappdiipflpfaa", sum := "29decbbe60473eb1e21bd37c8bcd9aae37c5afa90c45609cc5764f151a696b0b", func := "millpond/millpondlaw03.ArenaCopies", spec := "arenaCopies", unfollowed := true, recurses := true, apart := false, narrowed := true }
def ArenaCopiesUptoSaid : Prop := arenaCopiesUptoRow.holds Try.pinned (OpenSpec.upto arenaCopiesSpec)

/-- 'millpondlaw03.ArenaNil', WHERE WHAT IT READS IS OF BULK AT MOST 1048576: true; the input reads as it did. -/
def arenaNilUptoRow : OpenClaim := { program := "ytfappdiipflpfaa", sum := "29decbbe60473eb1e21bd37c8bcd9aae37c5afa90c45609cc5764f151a696b0b", func := "millpond/millpondlaw03.ArenaNil", spec := "arenaNil", unfollowed := true, recurses := true, apart := false, narrowed := true }
def ArenaNilUptoSaid : Prop := arenaNilUptoRow.holds Try.pinned (OpenSpec.upto arenaNilSpec)

/-- 'millpondlaw04.ViewApart', WHERE WHAT IT READS IS OF BULK AT MOST 1048576: true; the input reads as it did. -/
def viewApartUptoRow : OpenClaim := { program := "ytfappdiipflpfaa", sum := "29decbbe60473eb1e21bd37c8bcd9aae37c5afa90c45609cc5764f151a696b0b", func := "millpond/millpondlaw04.ViewApart", spec := "viewApart", inPlace := ["internal/abi.NoEscape", "internal/bytealg.MakeNoZero"], unfollowed := true, recurses := true, apart := false, narrowed := true }
def ViewApartUptoSaid : Prop := viewApartUptoRow.holds Try.pinned (OpenSpec.upto viewApartSpec)

/-- 'millpondlaw04.ViewTexts', WHERE WHAT IT READS IS OF BULK AT MOST 1048576: true; the input reads as it did. -/
def viewTextsUptoRow : OpenClaim := { program := "ytfappdiipflpfaa", sum := "29decbbe60473eb1e21bd37c8bcd9aae37c5afa90c45609cc5764f151a696b0b", func := "millpond/millpondlaw04.ViewTexts", spec := "viewTexts", inPlace := ["internal/abi.NoEscape", "internal/bytealg.MakeNoZero"], unfollowed := true, recurses := true, apart := false, narrowed := true }
def ViewTextsUptoSaid : Prop := viewTextsUptoRow.holds Try.pinned (OpenSpec.upto viewTextsSpec)

/-- 'millpondlaw04.ViewNone', WHERE WHAT IT READS IS OF BULK AT MOST 1048576: true; the input reads as it did. -/
def viewNoneUptoRow : OpenClaim := { program := "ytfappdiipflpfaa", sum := "29decbbe60473eb1e21bd37c8bcd9aae37c5afa90c45609cc5764f151a696b0b", func := "millpond/millpondlaw04.ViewNone", spec := "viewNone", inPlace := ["internal/abi.NoEscape", "internal/bytealg.MakeNoZero"], unfollowed := true, recurses := true, apart := false, narrowed := true }
def ViewNoneUptoSaid : Prop := viewNoneUptoRow.holds Try.pinned (OpenSpec.upto viewNoneSpec)

/-- 'millpondlaw04.ViewParts', WHERE WHAT IT READS IS OF BULK AT MOST 1048576: true; the input reads as it did. -/
def viewPartsUptoRow : OpenClaim := { program := "ytfappdiipflpfaa", sum := "29decbbe60473eb1e21bd37c8bcd9aae37c5afa90c45609cc5764f151a696b0b", func := "millpond/millpondlaw04.ViewParts", spec := "viewParts", inPlace := ["internal/abi.NoEscape", "internal/bytealg.MakeNoZero"], unfollowed := true, recurses := true, apart := false, narrowed := true }
def ViewPartsUptoSaid : Prop := viewPartsUptoRow.holds Try.pinned (OpenSpec.upto viewPartsSpec)

/-- 'millpondlaw05.FieldBack', WHERE WHAT IT READS IS OF BULK AT MOST 1048576: true; the input reads as it did. -/
def fieldBackUptoRow : OpenClaim := { program := "ytfappdiipflpfaa", sum := "29decbbe60473eb1e21bd37c8bcd9aae37c5afa90c45609cc5764f151a696b0b", func := "millpond/millpondlaw05.FieldBack", spec := "fieldBack", unfollowed := true, recurses := true, apart := false, narrowed := true }
def FieldBackUptoSaid : Prop := fieldBackUptoRow.holds Try.pinned (OpenSpec.upto fieldBackSpec)

/-- 'millpondlaw05.FieldTexts', WHERE WHAT IT READS IS OF BULK AT MOST 1048576: true; the input reads as it did. -/
def fieldTextsUptoRow : OpenClaim := { program := "ytfappdiipflpfaa", sum := "29decbbe60473eb1e21bd37c8bcd9aae37c5afa90c45609cc5764f151a696b0b", func := "millpond/millpondlaw05.FieldTexts", spec := "fieldTexts", inPlace := ["internal/abi.NoEscape", "internal/bytealg.MakeNoZero"], unfollowed := true, recurses := true, apart := false, narrowed := true }
def FieldTextsUptoSaid : Prop := fieldTextsUptoRow.holds Try.pinned (OpenSpec.upto fieldTextsSpec)

/-- 'millpondlaw06.TagsPlay', WHERE WHAT IT READS IS OF BULK AT MOST 1048576: true; the input reads as it did. -/
def tagsPlayUptoRow : OpenClaim := { program := "ytfappdiipflpfaa", sum := "29decbbe60473eb1e21bd37c8bcd9aae37c5afa90c45609cc5764f151a696b0b", func := "millpond/millpondlaw06.TagsPlay", spec := "tagsPlay", unfollowed := true, recurses := true, apart := false, narrowed := true }
def TagsPlayUptoSaid : Prop := tagsPlayUptoRow.holds Try.pinned (OpenSpec.upto tagsPlaySpec)

/-- 'millpondlaw06.TagsLaid', WHERE WHAT IT READS IS OF BULK AT MOST 1048576: true; the input reads as it did. -/
def tagsLaidUptoRow : OpenClaim := { program := "ytfappdiipflpfaa", sum := "29decbbe60473eb1e21bd37c8bcd9aae37c5afa90c45609cc5764f151a696b0b", func := "millpond/millpondlaw06.TagsLaid", spec := "tagsLaid", unfollowed := true, recurses := true, apart := false, narrowed := true }
def TagsLaidUptoSaid : Prop := tagsLaidUptoRow.holds Try.pinned (OpenSpec.upto tagsLaidSpec)

/-- 'millpondlaw06.TagsNone', WHERE WHAT IT READS IS OF BULK AT MOST 1048576: true; the input reads as it did. -/
def tagsNoneUptoRow : OpenClaim := { program := "ytfappdiipflpfaa", sum := "29decbbe60473eb1e21bd37c8bcd9aae37c5afa90c45609cc5764f151a696b0b", func := "millpond/millpondlaw06.TagsNone", spec := "tagsNone", unfollowed := true, recurses := true, apart := false, narrowed := true }
def TagsNoneUptoSaid : Prop := tagsNoneUptoRow.holds Try.pinned (OpenSpec.upto tagsNoneSpec)

/-- 'millpondlaw07.ListPlays', WHERE WHAT IT READS IS OF BULK AT MOST 1048576: true; the input reads as it did. -/
def listPlaysUptoRow : OpenClaim := { program := "ytfappdiipflpfaa", sum := "29decbbe60473eb1e21bd37c8bcd9aae37c5afa90c45609cc5764f151a696b0b", func := "millpond/millpondlaw07.ListPlays", spec := "listPlays", unfollowed := true, recurses := true, apart := false, narrowed := true }
def ListPlaysUptoSaid : Prop := listPlaysUptoRow.holds Try.pinned (OpenSpec.upto listPlaysSpec)

/-- 'millpondlaw07.ListWrong', WHERE WHAT IT READS IS OF BULK AT MOST 1048576: true; the input reads as it did. -/
def listWrongUptoRow : OpenClaim := { program := "ytfappdiipflpfaa", sum := "29decbbe60473eb1e21bd37c8bcd9aae37c5afa90c45609cc5764f151a696b0b", func := "millpond/millpondlaw07.ListWrong", spec := "listWrong", unfollowed := true, recurses := true, apart := false, narrowed := true }
def ListWrongUptoSaid : Prop := listWrongUptoRow.holds Try.pinned (OpenSpec.upto listWrongSpec)

/-- 'millpondlaw07.ListOrder', WHERE WHAT IT READS IS OF BULK AT MOST 1048576: true; the input reads as it did. -/
def listOrderUptoRow : OpenClaim := { program := "ytfappdiipflpfaa", sum := "29decbbe60473eb1e21bd37c8bcd9aae37c5afa90c45609cc5764f151a696b0b", func := "millpond/millpondlaw07.ListOrder", spec := "listOrder", unfollowed := true, recurses := true, apart := false, narrowed := true }
def ListOrderUptoSaid : Prop := listOrderUptoRow.holds Try.pinned (OpenSpec.upto listOrderSpec)

end Rows
end Go.Proofs.Ytfappdiipflpfaa
