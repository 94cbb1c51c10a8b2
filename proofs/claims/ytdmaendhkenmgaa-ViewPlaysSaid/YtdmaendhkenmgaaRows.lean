/-
  No cell of these rows narrows 'for every input' (looked for: loops, veiled, ifaces, maps, wideKeys, modest, calm, conditions, laid).
  DERIVED. THE GIVEN ROWS OF THIS SEAT. 5 by the template 'for every input the law returns true; each argument reads behind the call as it read before'; 0 by the template 'total and deterministic' (their statements: YtdmaendhkenmgaaTotals.lean).
  GIVEN WITH THE SEED: the statements are not yours to turn. If you find one false, say at which input.
  Laid BY PROGRAM, IN A SANDBOX (cutbox-rows.mjs): the forced cells as the released guide's own fill.sh prints them over the translation c455d158b5434994… (all of the seat's roots in one cut). By AI agents, Wed Nov 11 2026. No macro, syntax, notation, axiom, sorry.
-/
import Derived.Test.YtdmaendhkenmgaaChecked
import GoSem.Claim
import GoSem.ClaimJoined
import GoSem.ClaimMapViews
import Derived.JoinedTies
import Derived.KernelRfl
namespace Go.Proofs.Ytdmaendhkenmgaa
/- THE CELL 'sum', in the pinned program and in every row, IS THE sha256 OF THE DUMP (.gsa) THAT YtdmaendhkenmgaaProg.lean LOADS. Nothing in Lean hashes anything: it is a label: what it is worth is what the hold of that sum in a sandbox is worth. -/
noncomputable def Try.pinned : Pinned := { name := "ytdmaendhkenmgaa", sum := "c455d158b54349944fc1ff47d45dd6c3b542067e7778c6dcecff91d8b676f054", checked := Try.checked }
namespace Rows
def none {H : Type} : Left H := { results := [], args := [] }

/-- 'millpondlaw03.ArenaPlays': WHATEVER THE INPUT: true; the input reads as it did. -/
def arenaPlaysSpec : ChangeSpec := { name := "arenaPlays", fn := fun _ => fun
  | [d1, d2] => { results := [.lit (.bool true)], args := [d1, d2] }
  | _ => none }
def arenaPlaysRow : OpenClaim := { program := "ytdmaendhkenmgaa", sum := "c455d158b54349944fc1ff47d45dd6c3b542067e7778c6dcecff91d8b676f054", func := "millpond/millpondlaw03.ArenaPlays", spec := "arenaPlays", unfollowed := true, recurses := true, apart := false }
def ArenaPlaysSaid : Prop := arenaPlaysRow.holds Try.pinned (OpenSpec.ofChange arenaPlaysSpec)

/-- ITS FALSE NEIGHBOUR: 'it returns false'. Refute it at one input. -/
def arenaPlaysWrong : ChangeSpec := { name := "arenaPlays", fn := fun _ => fun
  | [d1, d2] => { results := [.lit (.bool false)], args := [d1, d2] }
  | _ => none }
def ArenaPlaysWrongFalsely : Prop := arenaPlaysRow.holds Try.pinned (OpenSpec.ofChange arenaPlaysWrong)

/-- 'millpondlaw04.ViewPlays': WHATEVER THE INPUT: true; the input reads as it did. -/
def viewPlaysSpec : ChangeSpec := { name := "viewPlays", fn := fun _ => fun
  | [d1, d2, d3] => { results := [.lit (.bool true)], args := [d1, d2, d3] }
  | _ => none }
def viewPlaysRow : OpenClaim := { program := "ytdmaendhkenmgaa", sum := "c455d158b54349944fc1ff47d45dd6c3b542067e7778c6dcecff91d8b676f054", func := "millpond/millpondlaw04.ViewPlays", spec := "viewPlays", inPlace := ["internal/abi.NoEscape", "internal/bytealg.MakeNoZero"], unfollowed := true, recurses := true, apart := false }
def ViewPlaysSaid : Prop := viewPlaysRow.holds Try.pinned (OpenSpec.ofChange viewPlaysSpec)

/-- ITS FALSE NEIGHBOUR: 'it returns false'. Refute it at one input. -/
def viewPlaysWrong : ChangeSpec := { name := "viewPlays", fn := fun _ => fun
  | [d1, d2, d3] => { results := [.lit (.bool false)], args := [d1, d2, d3] }
  | _ => none }
def ViewPlaysWrongFalsely : Prop := viewPlaysRow.holds Try.pinned (OpenSpec.ofChange viewPlaysWrong)

/-- 'millpondlaw14.ObjectWrites': WHATEVER THE INPUT: true; the input reads as it did. -/
def objectWritesSpec : ChangeSpec := { name := "objectWrites", fn := fun _ => fun
  | [d1, d2] => { results := [.lit (.bool true)], args := [d1, d2] }
  | _ => none }
def objectWritesRow : OpenClaim := { program := "ytdmaendhkenmgaa", sum := "c455d158b54349944fc1ff47d45dd6c3b542067e7778c6dcecff91d8b676f054", func := "millpond/millpondlaw14.ObjectWrites", spec := "objectWrites", unfollowed := true, recurses := true, apart := false }
def ObjectWritesSaid : Prop := objectWritesRow.holds Try.pinned (OpenSpec.ofChange objectWritesSpec)

/-- ITS FALSE NEIGHBOUR: 'it returns false'. Refute it at one input. -/
def objectWritesWrong : ChangeSpec := { name := "objectWrites", fn := fun _ => fun
  | [d1, d2] => { results := [.lit (.bool false)], args := [d1, d2] }
  | _ => none }
def ObjectWritesWrongFalsely : Prop := objectWritesRow.holds Try.pinned (OpenSpec.ofChange objectWritesWrong)

/-- 'millpondlaw14.ObjectFits': WHATEVER THE INPUT: true; the input reads as it did. -/
def objectFitsSpec : ChangeSpec := { name := "objectFits", fn := fun _ => fun
  | [d1, d2, d3, d4] => { results := [.lit (.bool true)], args := [d1, d2, d3, d4] }
  | _ => none }
def objectFitsRow : OpenClaim := { program := "ytdmaendhkenmgaa", sum := "c455d158b54349944fc1ff47d45dd6c3b542067e7778c6dcecff91d8b676f054", func := "millpond/millpondlaw14.ObjectFits", spec := "objectFits", unfollowed := true, recurses := true, apart := false }
def ObjectFitsSaid : Prop := objectFitsRow.holds Try.pinned (OpenSpec.ofChange objectFitsSpec)

/-- ITS FALSE NEIGHBOUR: 'it returns false'. Refute it at one input. -/
def objectFitsWrong : ChangeSpec := { name := "objectFits", fn := fun _ => fun
  | [d1, d2, d3, d4] => { results := [.lit (.bool false)], args := [d1, d2, d3, d4] }
  | _ => none }
def ObjectFitsWrongFalsely : Prop := objectFitsRow.holds Try.pinned (OpenSpec.ofChange objectFitsWrong)

/-- 'millpondlaw14.ObjectNeeds': WHATEVER THE INPUT: true; the input reads as it did. -/
def objectNeedsSpec : ChangeSpec := { name := "objectNeeds", fn := fun _ => fun
  | [d1, d2, d3, d4] => { results := [.lit (.bool true)], args := [d1, d2, d3, d4] }
  | _ => none }
def objectNeedsRow : OpenClaim := { program := "ytdmaendhkenmgaa", sum := "c455d158b54349944fc1ff47d45dd6c3b542067e7778c6dcecff91d8b676f054", func := "millpond/millpondlaw14.ObjectNeeds", spec := "objectNeeds", unfollowed := true, recurses := true, apart := false }
def ObjectNeedsSaid : Prop := objectNeedsRow.holds Try.pinned (OpenSpec.ofChange objectNeedsSpec)

/-- ITS FALSE NEIGHBOUR: 'it returns false'. Refute it at one input. -/
def objectNeedsWrong : ChangeSpec := { name := "objectNeeds", fn := fun _ => fun
  | [d1, d2, d3, d4] => { results := [.lit (.bool false)], args := [d1, d2, d3, d4] }
  | _ => none }
def ObjectNeedsWrongFalsely : Prop := objectNeedsRow.holds Try.pinned (OpenSpec.ofChange objectNeedsWrong)

/- THE SECOND FORM. 'bulk': how many values and letters a reading holds, each counted each time it is reached (what is shared counts as often as it is met; a slice's spare places count too). A statement '..UptoSaid' is the law's where the arguments, and the package variables that the reading takes, are together of bulk at most 1048576: NARROWER than '..Said'. Prove '..Said' where nothing that the law and all that it calls make is longer than what came in: it says more and counts as full. Else prove '..UptoSaid'. A law counts once. -/
mutual
def uptoBulk {H : Type} : DataW H → Nat
  | .lit (.string bytes) => bytes.length + 1
  | .lit _ => 1
  | .nil => 1
  | .ptr d => uptoBulk d + 1
  | .slice elems spare => uptoBulkAll elems + uptoBulkAll spare + 1
  | .agg parts => uptoBulkAll parts + 1
  | .iface _ d => uptoBulk d + 1
  | .map entries => uptoBulkEntries entries + 1
  | .held _ => 1
def uptoBulkAll {H : Type} : List (DataW H) → Nat
  | [] => 0
  | d :: r => uptoBulk d + uptoBulkAll r
def uptoBulkEntries {H : Type} : List (Lit × DataW H) → Nat
  | [] => 0
  | x :: r => uptoBulkEntry x + uptoBulkEntries r
def uptoBulkEntry {H : Type} : Lit × DataW H → Nat
  | (.string bytes, d) => bytes.length + uptoBulk d + 1
  | (_, d) => uptoBulk d + 1
 end
def uptoSmall : (H : Type) → List (DataW H) → Bool := fun _ ds => decide (uptoBulkAll ds ≤ 1048576)
def OpenSpec.upto (s : _root_.Go.ChangeSpec) : _root_.Go.OpenSpec := { _root_.Go.OpenSpec.ofChange s with cond := some uptoSmall }

/-- 'millpondlaw03.ArenaPlays', WHERE WHAT IT READS IS OF BULK AT MOST 1048576: true; the input reads as it did. -/
def arenaPlaysUptoRow : OpenClaim := { program := "ytdmaendhkenmgaa", sum := "c455d158b54349944fc1ff47d45dd6c3b542067e7778c6dcecff91d8b676f054", func := "millpond/millpondlaw03.ArenaPlays", spec := "arenaPlays", unfollowed := true, recurses := true, apart := false, narrowed := true }
def ArenaPlaysUptoSaid : Prop := arenaPlaysUptoRow.holds Try.pinned (OpenSpec.upto arenaPlaysSpec)

/-- 'millpondlaw04.ViewPlays', WHERE WHAT IT READS IS OF BULK AT MOST 1048576: true; the input reads as it did. -/
def viewPlaysUptoRow : OpenClaim := { program := "ytdmaendhkenmgaa", sum := "c455d158b54349944fc1ff47d45dd6c3b542067e7778c6dcecff91d8b676f054", func := "millpond/millpondlaw04.ViewPlays", spec := "viewPlays", inPlace := ["internal/abi.NoEscape", "internal/bytealg.MakeNoZero"], unfollowed := true, recurses := true, apart := false, narrowed := true }
def ViewPlaysUptoSaid : Prop := viewPlaysUptoRow.holds Try.pinned (OpenSpec.upto viewPlaysSpec)

/-- 'millpondlaw14.ObjectWrites', WHERE WHAT IT READS IS OF BULK AT MOST 1048576: true; the input reads as it did. -/
def objectWritesUptoRow : OpenClaim := { program := "ytdmaendhkenmgaa", sum := "c455d158b54349944fc1ff47d45dd6c3b542067e7778c6dcecff91d8b676f054", func := "millpond/millpondlaw14.ObjectWrites", spec := "objectWrites", unfollowed := true, recurses := true, apart := false, narrowed := true }
def ObjectWritesUptoSaid : Prop := objectWritesUptoRow.holds Try.pinned (OpenSpec.upto objectWritesSpec)

/-- 'millpondlaw14.ObjectFits', WHERE WHAT IT READS IS OF BULK AT MOST 1048576: true; the input reads as it did. -/
def objectFitsUptoRow : OpenClaim := { program := "ytdmaendhkenmgaa", sum := "c455d158b54349944fc1ff47d45dd6c3b542067e7778c6dcecff91d8b676f054", func := "millpond/millpondlaw14.ObjectFits", spec := "objectFits", unfollowed := true, recurses := true, apart := false, narrowed := true }
def ObjectFitsUptoSaid : Prop := objectFitsUptoRow.holds Try.pinned (OpenSpec.upto objectFitsSpec)

/-- 'millpondlaw14.ObjectNeeds', WHERE WHAT IT READS IS OF BULK AT MOST 1048576: true; the input reads as it did. -/
def objectNeedsUptoRow : OpenClaim := { program := "ytdmaendhkenmgaa", sum := "c455d158b54349944fc1ff47d45dd6c3b542067e7778c6dcecff91d8b676f054", func := "millpond/millpondlaw14.ObjectNeeds", spec := "objectNeeds", unfollowed := true, recurses := true, apart := false, narrowed := true }
def ObjectNeedsUptoSaid : Prop := objectNeedsUptoRow.holds Try.pinned (OpenSpec.upto objectNeedsSpec)

end Rows
end Go.Proofs.Ytdmaendhkenmgaa
