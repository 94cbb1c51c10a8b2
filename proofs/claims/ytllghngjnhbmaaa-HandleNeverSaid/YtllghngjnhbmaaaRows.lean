/-
  No cell of these rows narrows 'for every input' (looked for: loops, veiled, ifaces, maps, wideKeys, modest, calm, conditions, laid).
  DERIVED. THE GIVEN ROWS OF THIS SEAT. 4 by the template 'for every input the law returns true; each argument reads behind the call as it read before'; 0 by the template 'total and deterministic' (their statements: YtllghngjnhbmaaaTotals.lean).
  GIVEN WITH THE SEED: the statements are not yours to turn. If you find one false, say at which input.
  Laid BY PROGRAM, IN A SANDBOX (cutbox-rows.mjs): the forced cells as the released guide's own fill.sh prints them over the translation b0addbbc1a948e6d… (all of the seat's roots in one cut). By AI agents, Wed Nov 11 2026. No macro, syntax, notation, axiom, sorry.
-/
import Derived.Test.YtllghngjnhbmaaaChecked
import GoSem.Claim
import GoSem.ClaimJoined
import GoSem.ClaimMapViews
import Derived.JoinedTies
import Derived.KernelRfl
namespace Go.Proofs.Ytllghngjnhbmaaa
/- THE CELL 'sum', in the pinned program and in every row, IS THE sha256 OF THE DUMP (.gsa) THAT YtllghngjnhbmaaaProg.lean LOADS. Nothing in Lean hashes anything: it is a label: what it is worth is what the hold of that sum in a sandbox is worth. -/
noncomputable def Try.pinned : Pinned := { name := "ytllghngjnhbmaaa", sum := "b0addbbc1a948e6d1572ce04cbab5100ce633caa654eb158a59ba2385ed6b9b2", checked := Try.checked }
namespace Rows
def none {H : Type} : Left H := { results := [], args := [] }

/-- 'millpondlaw17.HandlePlays': WHATEVER THE INPUT: true; the input reads as it did. -/
def handlePlaysSpec : ChangeSpec := { name := "handlePlays", fn := fun _ => fun
  | [d1, d2] => { results := [.lit (.bool true)], args := [d1, d2] }
  | _ => none }
def handlePlaysRow : OpenClaim := { program := "ytllghngjnhbmaaa", sum := "b0addbbc1a948e6d1572ce04cbab5100ce633caa654eb158a59ba2385ed6b9b2", func := "millpond/millpondlaw17.HandlePlays", spec := "handlePlays", unfollowed := true, recurses := true, apart := false }
def HandlePlaysSaid : Prop := handlePlaysRow.holds Try.pinned (OpenSpec.ofChange handlePlaysSpec)

/-- ITS FALSE NEIGHBOUR: 'it returns false'. Refute it at one input. -/
def handlePlaysWrong : ChangeSpec := { name := "handlePlays", fn := fun _ => fun
  | [d1, d2] => { results := [.lit (.bool false)], args := [d1, d2] }
  | _ => none }
def HandlePlaysWrongFalsely : Prop := handlePlaysRow.holds Try.pinned (OpenSpec.ofChange handlePlaysWrong)

/-- 'millpondlaw17.HandleNever': WHATEVER THE INPUT: true; the input reads as it did. -/
def handleNeverSpec : ChangeSpec := { name := "handleNever", fn := fun _ => fun
  | [d] => { results := [.lit (.bool true)], args := [d] }
  | _ => none }
def handleNeverRow : OpenClaim := { program := "ytllghngjnhbmaaa", sum := "b0addbbc1a948e6d1572ce04cbab5100ce633caa654eb158a59ba2385ed6b9b2", func := "millpond/millpondlaw17.HandleNever", spec := "handleNever", unfollowed := true, recurses := true, apart := false }
def HandleNeverSaid : Prop := handleNeverRow.holds Try.pinned (OpenSpec.ofChange handleNeverSpec)

/-- ITS FALSE NEIGHBOUR: 'it returns false'. Refute it at one input. -/
def handleNeverWrong : ChangeSpec := { name := "handleNever", fn := fun _ => fun
  | [d] => { results := [.lit (.bool false)], args := [d] }
  | _ => none }
def HandleNeverWrongFalsely : Prop := handleNeverRow.holds Try.pinned (OpenSpec.ofChange handleNeverWrong)

/-- 'millpondlaw17.HandleNone': WHATEVER THE INPUT: true; the input reads as it did. -/
def handleNoneSpec : ChangeSpec := { name := "handleNone", fn := fun _ => fun
  | [] => { results := [.lit (.bool true)], args := [] }
  | _ => none }
def handleNoneRow : OpenClaim := { program := "ytllghngjnhbmaaa", sum := "b0addbbc1a948e6d1572ce04cbab5100ce633caa654eb158a59ba2385ed6b9b2", func := "millpond/millpondlaw17.HandleNone", spec := "handleNone", unfollowed := true, recurses := true, apart := false }
def HandleNoneSaid : Prop := handleNoneRow.holds Try.pinned (OpenSpec.ofChange handleNoneSpec)

/-- ITS FALSE NEIGHBOUR: 'it returns false'. Refute it at one input. -/
def handleNoneWrong : ChangeSpec := { name := "handleNone", fn := fun _ => fun
  | [] => { results := [.lit (.bool false)], args := [] }
  | _ => none }
def HandleNoneWrongFalsely : Prop := handleNoneRow.holds Try.pinned (OpenSpec.ofChange handleNoneWrong)

/-- 'millpondlaw17.HandleMoves': WHATEVER THE INPUT: true; the input reads as it did. -/
def handleMovesSpec : ChangeSpec := { name := "handleMoves", fn := fun _ => fun
  | [d1, d2, d3] => { results := [.lit (.bool true)], args := [d1, d2, d3] }
  | _ => none }
def handleMovesRow : OpenClaim := { program := "ytllghngjnhbmaaa", sum := "b0addbbc1a948e6d1572ce04cbab5100ce633caa654eb158a59ba2385ed6b9b2", func := "millpond/millpondlaw17.HandleMoves", spec := "handleMoves", unfollowed := true, recurses := true, apart := false }
def HandleMovesSaid : Prop := handleMovesRow.holds Try.pinned (OpenSpec.ofChange handleMovesSpec)

/-- ITS FALSE NEIGHBOUR: 'it returns false'. Refute it at one input. -/
def handleMovesWrong : ChangeSpec := { name := "handleMoves", fn := fun _ => fun
  | [d1, d2, d3] => { results := [.lit (.bool false)], args := [d1, d2, d3] }
  | _ => none }
def HandleMovesWrongFalsely : Prop := handleMovesRow.holds Try.pinned (OpenSpec.ofChange handleMovesWrong)

/- THE SECOND FORM. 'bulk': how many values and letters a reading holds, each counted each time it is reached (what is shared counts as often as it is met; a slice's spare places count too). A statement '..UptoSaid' is the law's where the arguments, and the package variables that the reading takes, are together of bulk at most 1048576: NARROWER than '..Said'. Prove '..Said' where nothing that the law and all that it calls make is longer than what came in: it says more and counts as full. Else prove '..UptoSaid'. A law counts once. -/
mutual
def uptoBulk {H : Type} : DataW H → Nat
  | .lit (.string bytes) => bytes.length + 1
  | .lit _ => 1
  | .nil => 1
  | .ptr d => uptoBulk d + 1
  | .slice elems spare => uptoBulkAll elems + uptoBulkAll spare + 1
  | .agg parts => uptoBulkAll parts + 1
  | .iface _ d => uptoBulk d + 1
  | .map entries => uptoBulkEntries entries + 1
  | .held _ => 1
def uptoBulkAll {H : Type} : List (DataW H) → Nat
  | [] => 0
  | d :: r => uptoBulk d + uptoBulkAll r
def uptoBulkEntries {H : Type} : List (Lit × DataW H) → Nat
  | [] => 0
  | x :: r => uptoBulkEntry x + uptoBulkEntries r
def uptoBulkEntry {H : Type} : Lit × DataW H → Nat
  | (.string bytes, d) => bytes.length + uptoBulk d + 1
  | (_, d) => uptoBulk d + 1
 end
def uptoSmall : (H : Type) → List (DataW H) → Bool := fun _ ds => decide (uptoBulkAll ds ≤ 1048576)
def OpenSpec.upto (s : _root_.Go.ChangeSpec) : _root_.Go.OpenSpec := { _root_.Go.OpenSpec.ofChange s with cond := some uptoSmall }

/-- 'millpondlaw17.HandlePlays', WHERE WHAT IT READS IS OF BULK AT MOST 1048576: true; the input reads as it did. -/
def handlePlaysUptoRow : OpenClaim := { program := "ytllghngjnhbmaaa", sum := "b0addbbc1a948e6d1572ce04cbab5100ce633caa654eb158a59ba2385ed6b9b2", func := "millpond/millpondlaw17.HandlePlays", spec := "handlePlays", unfollowed := true, recurses := true, apart := false, narrowed := true }
def HandlePlaysUptoSaid : Prop := handlePlaysUptoRow.holds Try.pinned (OpenSpec.upto handlePlaysSpec)

/-- 'millpondlaw17.HandleNever', WHERE WHAT IT READS IS OF BULK AT MOST 1048576: true; the input reads as it did. -/
def handleNeverUptoRow : OpenClaim := { program := "ytllghngjnhbmaaa", sum := "b0addbbc1a948e6d1572ce04cbab5100ce633caa654eb158a59ba2385ed6b9b2", func := "millpond/millpondlaw17.HandleNever", spec := "handleNever", unfollowed := true, recurses := true, apart := false, narrowed := true }
def HandleNeverUptoSaid : Prop := handleNeverUptoRow.holds Try.pinned (OpenSpec.upto handleNeverSpec)

/-- 'millpondlaw17.HandleNone', WHERE WHAT IT READS IS OF BULK AT MOST 1048576: true; the input reads as it did. -/
def handleNoneUptoRow : OpenClaim := { program := "ytllghngjnhbmaaa", sum := "b0addbbc1a948e6d1572ce04cbab5100ce633caa654eb158a59ba2385ed6b9b2", func := "millpond/millpondlaw17.HandleNone", spec := "handleNone", unfollowed := true, recurses := true, apart := false, narrowed := true }
def HandleNoneUptoSaid : Prop := handleNoneUptoRow.holds Try.pinned (OpenSpec.upto handleNoneSpec)

/-- 'millpondlaw17.HandleMoves', WHERE WHAT IT READS IS OF BULK AT MOST 1048576: true; the input reads as it did. -/
def handleMovesUptoRow : OpenClaim := { program := "ytllghngjnhbmaaa", sum := "b0addbbc1a948e6d1572ce04cbab5100ce633caa654eb158a59ba2385ed6b9b2", func := "millpond/millpondlaw17.HandleMoves", spec := "handleMoves", unfollowed := true, recurses := true, apart := false, narrowed := true }
def HandleMovesUptoSaid : Prop := handleMovesUptoRow.holds Try.pinned (OpenSpec.upto handleMovesSpec)

end Rows
end Go.Proofs.Ytllghngjnhbmaaa
