/-
  No cell of these rows narrows 'for every input' (looked for: loops, veiled, ifaces, maps, wideKeys, modest, calm, conditions, laid).
  DERIVED. THE GIVEN ROWS OF THIS SEAT. 4 by the template 'for every input the law returns true; each argument reads behind the call as it read before'; 0 by the template 'total and deterministic' (their statements: YtcbbhefgdonabaaTotals.lean).
  GIVEN WITH THE SEED: the statements are not yours to turn. If you find one false, say at which input.
  Laid BY PROGRAM, IN A SANDBOX (cutbox-rows.mjs): the forced cells as the released guide's own fill.sh prints them over the translation ddfa0e2014639e57… (all of the seat's roots in one cut). By AI agents, Wed Nov 11 2026. No macro, syntax, notation, axiom, sorry.
-/
import Derived.Test.YtcbbhefgdonabaaChecked
import GoSem.Claim
import GoSem.ClaimJoined
import GoSem.ClaimMapViews
import Derived.JoinedTies
import Derived.KernelRfl
namespace Go.Proofs.Ytcbbhefgdonabaa
/- THE CELL 'sum', in the pinned program and in every row, IS THE sha256 OF THE DUMP (.gsa) THAT YtcbbhefgdonabaaProg.lean LOADS. Nothing in Lean hashes anything: it is a label: what it is worth is what the hold of that sum in a sandbox is worth. -/
noncomputable def Try.pinned : Pinned := { name := "ytcbbhefgdonabaa", sum := "ddfa0e2014639e57ab7e1421e63f4723b1609eee148b78a45cd3458987efc15f", checked := Try.checked }
namespace Rows
def none {H : Type} : Left H := { results := [], args := [] }

/-- 'millpondlaw21.CleanPlays': WHATEVER THE INPUT: true; the input reads as it did. -/
def cleanPlaysSpec : ChangeSpec := { name := "cleanPlays", fn := fun _ => fun
  | [d1, d2] => { results := [.lit (.bool true)], args := [d1, d2] }
  | _ => none }
def cleanPlaysRow : OpenClaim := { program := "ytcbbhefgdonabaa", sum := "ddfa0e2014639e57ab7e1421e63f4723b1609eee148b78a45cd3458987efc15f", func := "millpond/millpondlaw21.CleanPlays", spec := "cleanPlays", unfollowed := true, recurses := true, apart := false }
def CleanPlaysSaid : Prop := cleanPlaysRow.holds Try.pinned (OpenSpec.ofChange cleanPlaysSpec)

/-- ITS FALSE NEIGHBOUR: 'it returns false'. Refute it at one input. -/
def cleanPlaysWrong : ChangeSpec := { name := "cleanPlays", fn := fun _ => fun
  | [d1, d2] => { results := [.lit (.bool false)], args := [d1, d2] }
  | _ => none }
def CleanPlaysWrongFalsely : Prop := cleanPlaysRow.holds Try.pinned (OpenSpec.ofChange cleanPlaysWrong)

/-- 'millpondlaw21.CleanTurns': WHATEVER THE INPUT: true; the input reads as it did. -/
def cleanTurnsSpec : ChangeSpec := { name := "cleanTurns", fn := fun _ => fun
  | [d1, d2] => { results := [.lit (.bool true)], args := [d1, d2] }
  | _ => none }
def cleanTurnsRow : OpenClaim := { program := "ytcbbhefgdonabaa", sum := "ddfa0e2014639e57ab7e1421e63f4723b1609eee148b78a45cd3458987efc15f", func := "millpond/millpondlaw21.CleanTurns", spec := "cleanTurns", unfollowed := true, recurses := true, apart := false }
def CleanTurnsSaid : Prop := cleanTurnsRow.holds Try.pinned (OpenSpec.ofChange cleanTurnsSpec)

/-- ITS FALSE NEIGHBOUR: 'it returns false'. Refute it at one input. -/
def cleanTurnsWrong : ChangeSpec := { name := "cleanTurns", fn := fun _ => fun
  | [d1, d2] => { results := [.lit (.bool false)], args := [d1, d2] }
  | _ => none }
def CleanTurnsWrongFalsely : Prop := cleanTurnsRow.holds Try.pinned (OpenSpec.ofChange cleanTurnsWrong)

/-- 'millpondlaw21.CleanNone': WHATEVER THE INPUT: true; the input reads as it did. -/
def cleanNoneSpec : ChangeSpec := { name := "cleanNone", fn := fun _ => fun
  | [] => { results := [.lit (.bool true)], args := [] }
  | _ => none }
def cleanNoneRow : OpenClaim := { program := "ytcbbhefgdonabaa", sum := "ddfa0e2014639e57ab7e1421e63f4723b1609eee148b78a45cd3458987efc15f", func := "millpond/millpondlaw21.CleanNone", spec := "cleanNone", unfollowed := true, recurses := true, apart := false }
def CleanNoneSaid : Prop := cleanNoneRow.holds Try.pinned (OpenSpec.ofChange cleanNoneSpec)

/-- ITS FALSE NEIGHBOUR: 'it returns false'. Refute it at one input. -/
def cleanNoneWrong : ChangeSpec := { name := "cleanNone", fn := fun _ => fun
  | [] => { results := [.lit (.bool false)], args := [] }
  | _ => none }
def CleanNoneWrongFalsely : Prop := cleanNoneRow.holds Try.pinned (OpenSpec.ofChange cleanNoneWrong)

/-- 'millpondlaw22.DataTells': WHATEVER THE INPUT: true; the input reads as it did. -/
def dataTellsSpec : ChangeSpec := { name := "dataTells", fn := fun _ => fun
  | [d] => { results := [.lit (.bool true)], args := [d] }
  | _ => none }
def dataTellsRow : OpenClaim := { program := "ytcbbhefgdonabaa", sum := "ddfa0e2014639e57ab7e1421e63f4723b1609eee148b78a45cd3458987efc15f", func := "millpond/millpondlaw22.DataTells", spec := "dataTells", inPlace := ["internal/abi.NoEscape", "internal/bytealg.MakeNoZero"], unfollowed := true, recurses := true, apart := false }
def DataTellsSaid : Prop := dataTellsRow.holds Try.pinned (OpenSpec.ofChange dataTellsSpec)

/-- ITS FALSE NEIGHBOUR: 'it returns false'. Refute it at one input. -/
def dataTellsWrong : ChangeSpec := { name := "dataTells", fn := fun _ => fun
  | [d] => { results := [.lit (.bool false)], args := [d] }
  | _ => none }
def DataTellsWrongFalsely : Prop := dataTellsRow.holds Try.pinned (OpenSpec.ofChange dataTellsWrong)

/- THE SECOND FORM. 'bulk': how many values and letters a reading holds, each counted each time it is reached (what is shared counts as often as it is met; a slice's spare places count too). A statement '..UptoSaid' is the law's where the arguments, and the package variables that the reading takes, are together of bulk at most 1048576: NARROWER than '..Said'. Prove '..Said' where nothing that the law and all that it calls make is longer than what came in: it says more and counts as full. Else prove '..UptoSaid'. A law counts once. -/
mutual
def uptoBulk {H : Type} : DataW H → Nat
  | .lit (.string bytes) => bytes.length + 1
  | .lit _ => 1
  | .nil => 1
  | .ptr d => uptoBulk d + 1
  | .slice elems spare => uptoBulkAll elems + uptoBulkAll spare + 1
  | .agg parts => uptoBulkAll parts + 1
  | .iface _ d => uptoBulk d + 1
  | .map entries => uptoBulkEntries entries + 1
  | .held _ => 1
def uptoBulkAll {H : Type} : List (DataW H) → Nat
  | [] => 0
  | d :: r => uptoBulk d + uptoBulkAll r
def uptoBulkEntries {H : Type} : List (Lit × DataW H) → Nat
  | [] => 0
  | x :: r => uptoBulkEntry x + uptoBulkEntries r
def uptoBulkEntry {H : Type} : Lit × DataW H → Nat
  | (.string bytes, d) => bytes.length + uptoBulk d + 1
  | (_, d) => uptoBulk d + 1
 end
def uptoSmall : (H : Type) → List (DataW H) → Bool := fun _ ds => decide (uptoBulkAll ds ≤ 1048576)
def OpenSpec.upto (s : _root_.Go.ChangeSpec) : _root_.Go.OpenSpec := { _root_.Go.OpenSpec.ofChange s with cond := some uptoSmall }

/-- 'millpondlaw21.CleanPlays', WHERE WHAT IT READS IS OF BULK AT MOST 1048576: true; the input reads as it did. -/
def cleanPlaysUptoRow : OpenClaim := { program := "ytcbbhefgdonabaa", sum := "ddfa0e2014639e57ab7e1421e63f4723b1609eee148b78a45cd3458987efc15f", func := "millpond/millpondlaw21.CleanPlays", spec := "cleanPlays", unfollowed := true, recurses := true, apart := false, narrowed := true }
def CleanPlaysUptoSaid : Prop := cleanPlaysUptoRow.holds Try.pinned (OpenSpec.upto cleanPlaysSpec)

/-- 'millpondlaw21.CleanTurns', WHERE WHAT IT READS IS OF BULK AT MOST 1048576: true; the input reads as it did. -/
def cleanTurnsUptoRow : OpenClaim := { program := "ytcbbhefgdonabaa", sum := "ddfa0e2014639e57ab7e1421e63f4723b1609eee148b78a45cd3458987efc15f", func := "millpond/millpondlaw21.CleanTurns", spec := "cleanTurns", unfollowed := true, recurses := true, apart := false, narrowed := true }
def CleanTurnsUptoSaid : Prop := cleanTurnsUptoRow.holds Try.pinned (OpenSpec.upto cleanTurnsSpec)

/-- 'millpondlaw21.CleanNone', WHERE WHAT IT READS IS OF BULK AT MOST 1048576: true; the input reads as it did. -/
def cleanNoneUptoRow : OpenClaim := { program := "ytcbbhefgdonabaa", sum := "ddfa0e2014639e57ab7e1421e63f4723b1609eee148b78a45cd3458987efc15f", func := "millpond/millpondlaw21.CleanNone", spec := "cleanNone", unfollowed := true, recurses := true, apart := false, narrowed := true }
def CleanNoneUptoSaid : Prop := cleanNoneUptoRow.holds Try.pinned (OpenSpec.upto cleanNoneSpec)

/-- 'millpondlaw22.DataTells', WHERE WHAT IT READS IS OF BULK AT MOST 1048576: true; the input reads as it did. -/
def dataTellsUptoRow : OpenClaim := { program := "ytcbbhefgdonabaa", sum := "ddfa0e2014639e57ab7e1421e63f4723b1609eee148b78a45cd3458987efc15f", func := "millpond/millpondlaw22.DataTells", spec := "dataTells", inPlace := ["internal/abi.NoEscape", "internal/bytealg.MakeNoZero"], unfollowed := true, recurses := true, apart := false, narrowed := true }
def DataTellsUptoSaid : Prop := dataTellsUptoRow.holds Try.pinned (OpenSpec.upto dataTellsSpec)

end Rows
end Go.Proofs.Ytcbbhefgdonabaa
