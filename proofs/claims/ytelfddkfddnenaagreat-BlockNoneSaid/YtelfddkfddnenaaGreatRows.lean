/-
  No cell of these rows narrows 'for every input' (looked for: loops, veiled, ifaces, maps, wideKeys, modest, calm, conditions, laid).
  DERIVED. THE GIVEN ROWS OF THIS SEAT. 4 by the template 'for every input the law returns true; each argument reads behind the call as it read before'; 0 by the template 'total and deterministic' (their statements: YtelfddkfddnenaaGreatTotals.lean).
  GIVEN WITH THE SEED: the statements are not yours to turn. If you find one false, say at which input.
  Laid BY PROGRAM, IN A SANDBOX (cutbox-rows.mjs): the forced cells as the released guide's own fill.sh prints them over the translation 8691e5cd716a7a44… (all of the seat's roots in one cut). By AI agents, Wed Nov 11 2026. No macro, syntax, notation, axiom, sorry.
-/
import Derived.Test.YtelfddkfddnenaaGreatChecked
import GoSem.Claim
import GoSem.ClaimJoined
import GoSem.ClaimMapViews
import Derived.JoinedTies
import Derived.KernelRfl
namespace Go.Proofs.YtelfddkfddnenaaGreat
/- THE CELL 'sum', in the pinned program and in every row, IS THE sha256 OF THE DUMP (.gsa) THAT YtelfddkfddnenaaGreatProg.lean LOADS. Nothing in Lean hashes anything: it is a label: what it is worth is what the hold of that sum in a sandbox is worth. -/
noncomputable def Tryz.pinned : Pinned := { name := "ytelfddkfddnenaagreat", sum := "8691e5cd716a7a442e77fcb1ead0652fa18482cc6fec5f8a2812e4e25c9ec5d4", checked := Tryz.checked }
namespace Rows
def none {H : Type} : Left H := { results := [], args := [] }

/-- 'millpondlaw15.RegionNone': WHATEVER THE INPUT: true; the input reads as it did. -/
def regionNoneSpec : ChangeSpec := { name := "regionNone", fn := fun _ => fun
  | [] => { results := [.lit (.bool true)], args := [] }
  | _ => none }
def regionNoneRow : OpenClaim := { program := "ytelfddkfddnenaagreat", sum := "8691e5cd716a7a442e77fcb1ead0652fa18482cc6fec5f8a2812e4e25c9ec5d4", func := "millpond/millpondlaw15.RegionNone", spec := "regionNone", unfollowed := true, recurses := true, apart := false }
def RegionNoneSaid : Prop := regionNoneRow.holds Tryz.pinned (OpenSpec.ofChange regionNoneSpec)

/-- ITS FALSE NEIGHBOUR: 'it returns false'. Refute it at one input. -/
def regionNoneWrong : ChangeSpec := { name := "regionNone", fn := fun _ => fun
  | [] => { results := [.lit (.bool false)], args := [] }
  | _ => none }
def RegionNoneWrongFalsely : Prop := regionNoneRow.holds Tryz.pinned (OpenSpec.ofChange regionNoneWrong)

/-- 'millpondlaw16.GrowNone': WHATEVER THE INPUT: true; the input reads as it did. -/
def growNoneSpec : ChangeSpec := { name := "growNone", fn := fun _ => fun
  | [] => { results := [.lit (.bool true)], args := [] }
  | _ => none }
def growNoneRow : OpenClaim := { program := "ytelfddkfddnenaagreat", sum := "8691e5cd716a7a442e77fcb1ead0652fa18482cc6fec5f8a2812e4e25c9ec5d4", func := "millpond/millpondlaw16.GrowNone", spec := "growNone", inPlace := ["internal/abi.NoEscape", "internal/bytealg.MakeNoZero"], unfollowed := true, recurses := true, apart := false }
def GrowNoneSaid : Prop := growNoneRow.holds Tryz.pinned (OpenSpec.ofChange growNoneSpec)

/-- ITS FALSE NEIGHBOUR: 'it returns false'. Refute it at one input. -/
def growNoneWrong : ChangeSpec := { name := "growNone", fn := fun _ => fun
  | [] => { results := [.lit (.bool false)], args := [] }
  | _ => none }
def GrowNoneWrongFalsely : Prop := growNoneRow.holds Tryz.pinned (OpenSpec.ofChange growNoneWrong)

/-- 'millpondlaw22.DataPlays': WHATEVER THE INPUT: true; the input reads as it did. -/
def dataPlaysSpec : ChangeSpec := { name := "dataPlays", fn := fun _ => fun
  | [d1, d2] => { results := [.lit (.bool true)], args := [d1, d2] }
  | _ => none }
def dataPlaysRow : OpenClaim := { program := "ytelfddkfddnenaagreat", sum := "8691e5cd716a7a442e77fcb1ead0652fa18482cc6fec5f8a2812e4e25c9ec5d4", func := "millpond/millpondlaw22.DataPlays", spec := "dataPlays", inPlace := ["internal/abi.NoEscape", "internal/bytealg.MakeNoZero"], unfollowed := true, recurses := true, apart := false }
def DataPlaysSaid : Prop := dataPlaysRow.holds Tryz.pinned (OpenSpec.ofChange dataPlaysSpec)

/-- ITS FALSE NEIGHBOUR: 'it returns false'. Refute it at one input. -/
def dataPlaysWrong : ChangeSpec := { name := "dataPlays", fn := fun _ => fun
  | [d1, d2] => { results := [.lit (.bool false)], args := [d1, d2] }
  | _ => none }
def DataPlaysWrongFalsely : Prop := dataPlaysRow.holds Tryz.pinned (OpenSpec.ofChange dataPlaysWrong)

/-- 'millpondlaw24.BlockNone': WHATEVER THE INPUT: true; the input reads as it did. -/
def blockNoneSpec : ChangeSpec := { name := "blockNone", fn := fun _ => fun
  | [] => { results := [.lit (.bool true)], args := [] }
  | _ => none }
def blockNoneRow : OpenClaim := { program := "ytelfddkfddnenaagreat", sum := "8691e5cd716a7a442e77fcb1ead0652fa18482cc6fec5f8a2812e4e25c9ec5d4", func := "millpond/millpondlaw24.BlockNone", spec := "blockNone", inPlace := ["internal/abi.NoEscape", "internal/bytealg.MakeNoZero"], unfollowed := true, recurses := true, apart := false }
def BlockNoneSaid : Prop := blockNoneRow.holds Tryz.pinned (OpenSpec.ofChange blockNoneSpec)

/-- ITS FALSE NEIGHBOUR: 'it returns false'. Refute it at one input. -/
def blockNoneWrong : ChangeSpec := { name := "blockNone", fn := fun _ => fun
  | [] => { results := [.lit (.bool false)], args := [] }
  | _ => none }
def BlockNoneWrongFalsely : Prop := blockNoneRow.holds Tryz.pinned (OpenSpec.ofChange blockNoneWrong)

/- THE SECOND FORM. 'bulk': how many values and letters a reading holds, each counted each time it is reached (what is shared counts as often as it is met; a slice's spare places count too). A statement '..UptoSaid' is the law's where the arguments, and the package variables that the reading takes, are together of bulk at most 1048576: NARROWER than '..Said'. Prove '..Said' where nothing that the law and all that it calls make is longer than what came in: it says more and counts as full. Else prove '..UptoSaid'. A law counts once. -/
mutual
def uptoBulk {H : Type} : DataW H → Nat
  | .lit (.string bytes) => bytes.length + 1
  | .lit _ => 1
  | .nil => 1
  | .ptr d => uptoBulk d + 1
  | .slice elems spare => uptoBulkAll elems + uptoBulkAll spare + 1
  | .agg parts => uptoBulkAll parts + 1
  | .iface _ d => uptoBulk d + 1
  | .map entries => uptoBulkEntries entries + 1
  | .held _ => 1
def uptoBulkAll {H : Type} : List (DataW H) → Nat
  | [] => 0
  | d :: r => uptoBulk d + uptoBulkAll r
def uptoBulkEntries {H : Type} : List (Lit × DataW H) → Nat
  | [] => 0
  | x :: r => uptoBulkEntry x + uptoBulkEntries r
def uptoBulkEntry {H : Type} : Lit × DataW H → Nat
  | (.string bytes, d) => bytes.length + uptoBulk d + 1
  | (_, d) => uptoBulk d + 1
 end
def uptoSmall : (H : Type) → List (DataW H) → Bool := fun _ ds => decide (uptoBulkAll ds ≤ 1048576)
def OpenSpec.upto (s : _root_.Go.ChangeSpec) : _root_.Go.OpenSpec := { _root_.Go.OpenSpec.ofChange s with cond := some uptoSmall }

/-- 'millpondlaw15.RegionNone', WHERE WHAT IT READS IS OF BULK AT MOST 1048576: true; the input reads as it did. -/
def regionNoneUptoRow : OpenClaim := { program := "ytelfddkfddnenaagreat", sum := "8691e5cd716a7a442e77fcb1ead0652fa18482cc6fec5f8a2812e4e25c9ec5d4", func := "millpond/millpondlaw15.RegionNone", spec := "regionNone", unfollowed := true, recurses := true, apart := false, narrowed := true }
def RegionNoneUptoSaid : Prop := regionNoneUptoRow.holds Tryz.pinned (OpenSpec.upto regionNoneSpec)

/-- 'millpondlaw16.GrowNone', WHERE WHAT IT READS IS OF BULK AT MOST 1048576: true; the input reads as it did. -/
def growNoneUptoRow : OpenClaim := { program := "ytelfddkfddnenaagreat", sum := "8691e5cd716a7a442e77fcb1ead0652fa18482cc6fec5f8a2812e4e25c9ec5d4", func := "millpond/millpondlaw16.GrowNone", spec := "growNone", inPlace := ["internal/abi.NoEscape", "internal/bytealg.MakeNoZero"], unfollowed := true, recurses := true, apart := false, narrowed := true }
def GrowNoneUptoSaid : Prop := growNoneUptoRow.holds Tryz.pinned (OpenSpec.upto growNoneSpec)

/-- 'millpondlaw22.DataPlays', WHERE WHAT IT READS IS OF BULK AT MOST 1048576: true; the input reads as it did. -/
def dataPlaysUptoRow : OpenClaim := { program := "ytelfddkfddnenaagreat", sum := "8691e5cd716a7a442e77fcb1ead0652fa18482cc6fec5f8a2812e4e25c9ec5d4", func := "millpond/millpondlaw22.DataPlays", spec := "dataPlays", inPlace := ["internal/abi.NoEscape", "internal/bytealg.MakeNoZero"], unfollowed := true, recurses := true, apart := false, narrowed := true }
def DataPlaysUptoSaid : Prop := dataPlaysUptoRow.holds Tryz.pinned (OpenSpec.upto dataPlaysSpec)

/-- 'millpondlaw24.BlockNone', WHERE WHAT IT READS IS OF BULK AT MOST 1048576: true; the input reads as it did. -/
def blockNoneUptoRow : OpenClaim := { program := "ytelfddkfddnenaagreat", sum := "8691e5cd716a7a442e77fcb1ead0652fa18482cc6fec5f8a2812e4e25c9ec5d4", func := "millpond/millpondlaw24.BlockNone", spec := "blockNone", inPlace := ["internal/abi.NoEscape", "internal/bytealg.MakeNoZero"], unfollowed := true, recurses := true, apart := false, narrowed := true }
def BlockNoneUptoSaid : Prop := blockNoneUptoRow.holds Tryz.pinned (OpenSpec.upto blockNoneSpec)

end Rows
end Go.Proofs.YtelfddkfddnenaaGreat
