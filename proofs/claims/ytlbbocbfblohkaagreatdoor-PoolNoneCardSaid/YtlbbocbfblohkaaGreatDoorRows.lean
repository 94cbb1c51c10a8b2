/-
  NARROWER THAN 'FOR EVERY INPUT', by the rows' own cells (each row's printed sentence says how): RefsNone: laid · PoolNone: laid.
  DERIVED. THE GIVEN ROWS OF THIS SEAT. 2 by the template 'for every input the law returns true; each argument reads behind the call as it read before'; 0 by the template 'total and deterministic' (their statements: YtlbbocbfblohkaaGreatDoorTotals.lean).
  GIVEN WITH THE SEED: the statements are not yours to turn. If you find one false, say at which input.
  Laid BY PROGRAM, IN A SANDBOX (cutbox-rows.mjs): the forced cells as the released guide's own fill.sh prints them over the translation 3df533d9b950b407… (all of the seat's roots in one cut). By AI agents, Wed Nov 11 2026. No macro, syntax, notation, axiom, sorry.
-/
import Derived.Test.YtlbbocbfblohkaaGreatDoorChecked
import GoSem.Claim
import GoSem.ClaimJoined
import GoSem.ClaimMapViews
import Derived.JoinedTies
import Derived.KernelRfl
namespace Go.Proofs.YtlbbocbfblohkaaGreatDoor
/- THE CELL 'sum', in the pinned program and in every row, IS THE sha256 OF THE DUMP (.gsa) THAT YtlbbocbfblohkaaGreatDoorProg.lean LOADS. Nothing in Lean hashes anything: it is a label: what it is worth is what the hold of that sum in a sandbox is worth. -/
noncomputable def Tryz.pinned : Pinned := { name := "ytlbbocbfblohkaagreatdoor", sum := "3df533d9b950b4078018b64ac2c2f4e8bbd3a2221f9e9acd2c3e6161ccc3980c", checked := Tryz.checked }
namespace Rows
def none {H : Type} : Left H := { results := [], args := [] }

/- WHAT THE LISTED PACKAGE-LEVEL VARIABLES READ AS WHEN THE CALL BEGINS. Each datum BY PROGRAM (the guide's laid-datum.mjs) off the statement by which the dump's own 'gosem.cut.vars' lays the variable. In a bare row this is a premise. The card (YtlbbocbfblohkaaGreatDoorCards.lean) ties it to the program's text. -/
def laid_millpond_node_partBytes {H : Type} : DataW H := .agg [.lit (.int .i64 192), .lit (.int .i64 96), .lit (.int .i64 128), .lit (.int .i64 128), .lit (.int .i64 128)]

/-- 'millpondlaw23.RefsNone': WHATEVER THE INPUT: true; the input reads as it did. -/
def refsNoneSpec : ChangeSpec := { name := "refsNone", fn := fun _ => fun
  | [] => { results := [.lit (.bool true)], args := [] }
  | _ => none }
def refsNoneRow : OpenClaim := { program := "ytlbbocbfblohkaagreatdoor", sum := "3df533d9b950b4078018b64ac2c2f4e8bbd3a2221f9e9acd2c3e6161ccc3980c", func := "millpond/millpondlaw23.RefsNone", spec := "refsNone", inPlace := ["internal/abi.NoEscape", "internal/bytealg.MakeNoZero"], unfollowed := true, recurses := true, named := ["millpond/node.partBytes"], apart := false, laid := [("millpond/node.partBytes", laid_millpond_node_partBytes)] }
def RefsNoneSaid : Prop := refsNoneRow.holds Tryz.pinned (OpenSpec.ofChange refsNoneSpec)

/-- ITS FALSE NEIGHBOUR: 'it returns false'. Refute it at one input. -/
def refsNoneWrong : ChangeSpec := { name := "refsNone", fn := fun _ => fun
  | [] => { results := [.lit (.bool false)], args := [] }
  | _ => none }
def RefsNoneWrongFalsely : Prop := refsNoneRow.holds Tryz.pinned (OpenSpec.ofChange refsNoneWrong)

/-- 'millpondlaw25.PoolNone': WHATEVER THE INPUT: true; the input reads as it did. -/
def poolNoneSpec : ChangeSpec := { name := "poolNone", fn := fun _ => fun
  | [] => { results := [.lit (.bool true)], args := [] }
  | _ => none }
def poolNoneRow : OpenClaim := { program := "ytlbbocbfblohkaagreatdoor", sum := "3df533d9b950b4078018b64ac2c2f4e8bbd3a2221f9e9acd2c3e6161ccc3980c", func := "millpond/millpondlaw25.PoolNone", spec := "poolNone", inPlace := ["internal/abi.NoEscape", "internal/bytealg.MakeNoZero"], unfollowed := true, recurses := true, named := ["millpond/node.partBytes"], apart := false, laid := [("millpond/node.partBytes", laid_millpond_node_partBytes)] }
def PoolNoneSaid : Prop := poolNoneRow.holds Tryz.pinned (OpenSpec.ofChange poolNoneSpec)

/-- ITS FALSE NEIGHBOUR: 'it returns false'. Refute it at one input. -/
def poolNoneWrong : ChangeSpec := { name := "poolNone", fn := fun _ => fun
  | [] => { results := [.lit (.bool false)], args := [] }
  | _ => none }
def PoolNoneWrongFalsely : Prop := poolNoneRow.holds Tryz.pinned (OpenSpec.ofChange poolNoneWrong)

/- THE SECOND FORM. 'bulk': how many values and letters a reading holds, each counted each time it is reached (what is shared counts as often as it is met; a slice's spare places count too). A statement '..UptoSaid' is the law's where the arguments, and the package variables that the reading takes, are together of bulk at most 1048576: NARROWER than '..Said'. Prove '..Said' where nothing that the law and all that it calls make is longer than what came in: it says more and counts as full. Else prove '..UptoSaid'. A law counts once. -/
mutual
def uptoBulk {H : Type} : DataW H → Nat
  | .lit (.string bytes) => bytes.length + 1
  | .lit _ => 1
  | .nil => 1
  | .ptr d => uptoBulk d + 1
  | .slice elems spare => uptoBulkAll elems + uptoBulkAll spare + 1
  | .agg parts => uptoBulkAll parts + 1
  | .iface _ d => uptoBulk d + 1
  | .map entries => uptoBulkEntries entries + 1
  | .held _ => 1
def uptoBulkAll {H : Type} : List (DataW H) → Nat
  | [] => 0
  | d :: r => uptoBulk d + uptoBulkAll r
def uptoBulkEntries {H : Type} : List (Lit × DataW H) → Nat
  | [] => 0
  | x :: r => uptoBulkEntry x + uptoBulkEntries r
def uptoBulkEntry {H : Type} : Lit × DataW H → Nat
  | (.string bytes, d) => bytes.length + uptoBulk d + 1
  | (_, d) => uptoBulk d + 1
 end
def uptoSmall : (H : Type) → List (DataW H) → Bool := fun _ ds => decide (uptoBulkAll ds ≤ 1048576)
def OpenSpec.upto (s : _root_.Go.ChangeSpec) : _root_.Go.OpenSpec := { _root_.Go.OpenSpec.ofChange s with cond := some uptoSmall }

/-- 'millpondlaw23.RefsNone', WHERE WHAT IT READS IS OF BULK AT MOST 1048576: true; the input reads as it did. -/
def refsNoneUptoRow : OpenClaim := { program := "ytlbbocbfblohkaagreatdoor", sum := "3df533d9b950b4078018b64ac2c2f4e8bbd3a2221f9e9acd2c3e6161ccc3980c", func := "millpond/millpondlaw23.RefsNone", spec := "refsNone", inPlace := ["internal/abi.NoEscape", "internal/bytealg.MakeNoZero"], unfollowed := true, recurses := true, named := ["millpond/node.partBytes"], apart := false, laid := [("millpond/node.partBytes", laid_millpond_node_partBytes)], narrowed := true }
def RefsNoneUptoSaid : Prop := refsNoneUptoRow.holds Tryz.pinned (OpenSpec.upto refsNoneSpec)

/-- 'millpondlaw25.PoolNone', WHERE WHAT IT READS IS OF BULK AT MOST 1048576: true; the input reads as it did. -/
def poolNoneUptoRow : OpenClaim := { program := "ytlbbocbfblohkaagreatdoor", sum := "3df533d9b950b4078018b64ac2c2f4e8bbd3a2221f9e9acd2c3e6161ccc3980c", func := "millpond/millpondlaw25.PoolNone", spec := "poolNone", inPlace := ["internal/abi.NoEscape", "internal/bytealg.MakeNoZero"], unfollowed := true, recurses := true, named := ["millpond/node.partBytes"], apart := false, laid := [("millpond/node.partBytes", laid_millpond_node_partBytes)], narrowed := true }
def PoolNoneUptoSaid : Prop := poolNoneUptoRow.holds Tryz.pinned (OpenSpec.upto poolNoneSpec)

end Rows
end Go.Proofs.YtlbbocbfblohkaaGreatDoor
