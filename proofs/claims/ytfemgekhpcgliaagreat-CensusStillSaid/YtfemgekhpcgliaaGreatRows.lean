/-
  No cell of these rows narrows 'for every input' (looked for: loops, veiled, ifaces, maps, wideKeys, modest, calm, conditions, laid).
  DERIVED. THE GIVEN ROWS OF THIS SEAT. 5 by the template 'for every input the law returns true; each argument reads behind the call as it read before'; 0 by the template 'total and deterministic' (their statements: YtfemgekhpcgliaaGreatTotals.lean).
  GIVEN WITH THE SEED: the statements are not yours to turn. If you find one false, say at which input.
  Laid BY PROGRAM, IN A SANDBOX (cutbox-rows.mjs): the forced cells as the released guide's own fill.sh prints them over the translation 078b90a290a24399… (all of the seat's roots in one cut). By AI agents, Wed Nov 11 2026. No macro, syntax, notation, axiom, sorry.
-/
import Derived.Test.YtfemgekhpcgliaaGreatChecked
import GoSem.Claim
import GoSem.ClaimJoined
import GoSem.ClaimMapViews
import Derived.JoinedTies
import Derived.KernelRfl
namespace Go.Proofs.YtfemgekhpcgliaaGreat
/- THE CELL 'sum', in the pinned program and in every row, IS THE sha256 OF THE DUMP (.gsa) THAT YtfemgekhpcgliaaGreatProg.lean LOADS. Nothing in Lean hashes anything: it is a label: what it is worth is what the hold of that sum in a sandbox is worth. -/
noncomputable def Tryz.pinned : Pinned := { name := "ytfemgekhpcgliaagreat", sum := "078b90a290a2439902a35790c306f35cabb8fa391336df0a775f831cc3ef0cdf", checked := Tryz.checked }
namespace Rows
def none {H : Type} : Left H := { results := [], args := [] }

/-- 'millpondlaw08.BuddyPlays': WHATEVER THE INPUT: true; the input reads as it did. -/
def buddyPlaysSpec : ChangeSpec := { name := "buddyPlays", fn := fun _ => fun
  | [d1, d2, d3, d4] => { results := [.lit (.bool true)], args := [d1, d2, d3, d4] }
  | _ => none }
def buddyPlaysRow : OpenClaim := { program := "ytfemgekhpcgliaagreat", sum := "078b90a290a2439902a35790c306f35cabb8fa391336df0a775f831cc3ef0cdf", func := "millpond/millpondlaw08.BuddyPlays", spec := "buddyPlays", unfollowed := true, recurses := true, apart := false }
def BuddyPlaysSaid : Prop := buddyPlaysRow.holds Tryz.pinned (OpenSpec.ofChange buddyPlaysSpec)

/-- ITS FALSE NEIGHBOUR: 'it returns false'. Refute it at one input. -/
def buddyPlaysWrong : ChangeSpec := { name := "buddyPlays", fn := fun _ => fun
  | [d1, d2, d3, d4] => { results := [.lit (.bool false)], args := [d1, d2, d3, d4] }
  | _ => none }
def BuddyPlaysWrongFalsely : Prop := buddyPlaysRow.holds Tryz.pinned (OpenSpec.ofChange buddyPlaysWrong)

/-- 'millpondlaw09.CensusTells': WHATEVER THE INPUT: true; the input reads as it did. -/
def censusTellsSpec : ChangeSpec := { name := "censusTells", fn := fun _ => fun
  | [d1, d2, d3, d4] => { results := [.lit (.bool true)], args := [d1, d2, d3, d4] }
  | _ => none }
def censusTellsRow : OpenClaim := { program := "ytfemgekhpcgliaagreat", sum := "078b90a290a2439902a35790c306f35cabb8fa391336df0a775f831cc3ef0cdf", func := "millpond/millpondlaw09.CensusTells", spec := "censusTells", unfollowed := true, recurses := true, apart := false }
def CensusTellsSaid : Prop := censusTellsRow.holds Tryz.pinned (OpenSpec.ofChange censusTellsSpec)

/-- ITS FALSE NEIGHBOUR: 'it returns false'. Refute it at one input. -/
def censusTellsWrong : ChangeSpec := { name := "censusTells", fn := fun _ => fun
  | [d1, d2, d3, d4] => { results := [.lit (.bool false)], args := [d1, d2, d3, d4] }
  | _ => none }
def CensusTellsWrongFalsely : Prop := censusTellsRow.holds Tryz.pinned (OpenSpec.ofChange censusTellsWrong)

/-- 'millpondlaw09.CensusGives': WHATEVER THE INPUT: true; the input reads as it did. -/
def censusGivesSpec : ChangeSpec := { name := "censusGives", fn := fun _ => fun
  | [d1, d2, d3] => { results := [.lit (.bool true)], args := [d1, d2, d3] }
  | _ => none }
def censusGivesRow : OpenClaim := { program := "ytfemgekhpcgliaagreat", sum := "078b90a290a2439902a35790c306f35cabb8fa391336df0a775f831cc3ef0cdf", func := "millpond/millpondlaw09.CensusGives", spec := "censusGives", unfollowed := true, recurses := true, apart := false }
def CensusGivesSaid : Prop := censusGivesRow.holds Tryz.pinned (OpenSpec.ofChange censusGivesSpec)

/-- ITS FALSE NEIGHBOUR: 'it returns false'. Refute it at one input. -/
def censusGivesWrong : ChangeSpec := { name := "censusGives", fn := fun _ => fun
  | [d1, d2, d3] => { results := [.lit (.bool false)], args := [d1, d2, d3] }
  | _ => none }
def CensusGivesWrongFalsely : Prop := censusGivesRow.holds Tryz.pinned (OpenSpec.ofChange censusGivesWrong)

/-- 'millpondlaw09.CensusCounts': WHATEVER THE INPUT: true; the input reads as it did. -/
def censusCountsSpec : ChangeSpec := { name := "censusCounts", fn := fun _ => fun
  | [d1, d2] => { results := [.lit (.bool true)], args := [d1, d2] }
  | _ => none }
def censusCountsRow : OpenClaim := { program := "ytfemgekhpcgliaagreat", sum := "078b90a290a2439902a35790c306f35cabb8fa391336df0a775f831cc3ef0cdf", func := "millpond/millpondlaw09.CensusCounts", spec := "censusCounts", unfollowed := true, recurses := true, apart := false }
def CensusCountsSaid : Prop := censusCountsRow.holds Tryz.pinned (OpenSpec.ofChange censusCountsSpec)

/-- ITS FALSE NEIGHBOUR: 'it returns false'. Refute it at one input. -/
def censusCountsWrong : ChangeSpec := { name := "censusCounts", fn := fun _ => fun
  | [d1, d2] => { results := [.lit (.bool false)], args := [d1, d2] }
  | _ => none }
def CensusCountsWrongFalsely : Prop := censusCountsRow.holds Tryz.pinned (OpenSpec.ofChange censusCountsWrong)

/-- 'millpondlaw09.CensusStill': WHATEVER THE INPUT: true; the input reads as it did. -/
def censusStillSpec : ChangeSpec := { name := "censusStill", fn := fun _ => fun
  | [d1, d2, d3, d4] => { results := [.lit (.bool true)], args := [d1, d2, d3, d4] }
  | _ => none }
def censusStillRow : OpenClaim := { program := "ytfemgekhpcgliaagreat", sum := "078b90a290a2439902a35790c306f35cabb8fa391336df0a775f831cc3ef0cdf", func := "millpond/millpondlaw09.CensusStill", spec := "censusStill", unfollowed := true, recurses := true, apart := false }
def CensusStillSaid : Prop := censusStillRow.holds Tryz.pinned (OpenSpec.ofChange censusStillSpec)

/-- ITS FALSE NEIGHBOUR: 'it returns false'. Refute it at one input. -/
def censusStillWrong : ChangeSpec := { name := "censusStill", fn := fun _ => fun
  | [d1, d2, d3, d4] => { results := [.lit (.bool false)], args := [d1, d2, d3, d4] }
  | _ => none }
def CensusStillWrongFalsely : Prop := censusStillRow.holds Tryz.pinned (OpenSpec.ofChange censusStillWrong)

/- THE SECOND FORM. 'bulk': how many values and letters a reading holds, each counted each time it is reached (what is shared counts as often as it is met; a slice's spare places count too). A statement '..UptoSaid' is the law's where the arguments, and the package variables that the reading takes, are together of bulk at most 1048576: NARROWER than '..Said'. Prove '..Said' where nothing that the law and all that it calls make is longer than what came in: it says more and counts as full. Else prove '..UptoSaid'. A law counts once. -/
mutual
def uptoBulk {H : Type} : DataW H → Nat
  | .lit (.string bytes) => bytes.length + 1
  | .lit _ => 1
  | .nil => 1
  | .ptr d => uptoBulk d + 1
  | .slice elems spare => uptoBulkAll elems + uptoBulkAll spare + 1
  | .agg parts => uptoBulkAll parts + 1
  | .iface _ d => uptoBulk d + 1
  | .map entries => uptoBulkEntries entries + 1
  | .held _ => 1
def uptoBulkAll {H : Type} : List (DataW H) → Nat
  | [] => 0
  | d :: r => uptoBulk d + uptoBulkAll r
def uptoBulkEntries {H : Type} : List (Lit × DataW H) → Nat
  | [] => 0
  | x :: r => uptoBulkEntry x + uptoBulkEntries r
def uptoBulkEntry {H : Type} : Lit × DataW H → Nat
  | (.string bytes, d) => bytes.length + uptoBulk d + 1
  | (_, d) => uptoBulk d + 1
 end
def uptoSmall : (H : Type) → List (DataW H) → Bool := fun _ ds => decide (uptoBulkAll ds ≤ 1048576)
def OpenSpec.upto (s : _root_.Go.ChangeSpec) : _root_.Go.OpenSpec := { _root_.Go.OpenSpec.ofChange s with cond := some uptoSmall }

/-- 'millpondlaw08.BuddyPlays', WHERE WHAT IT READS IS OF BULK AT MOST 1048576: true; the input reads as it did. -/
def buddyPlaysUptoRow : OpenClaim := { program := "ytfemgekhpcgliaagreat", sum := "078b90a290a2439902a35790c306f35cabb8fa391336df0a775f831cc3ef0cdf", func := "millpond/millpondlaw08.BuddyPlays", spec := "buddyPlays", unfollowed := true, recurses := true, apart := false, narrowed := true }
def BuddyPlaysUptoSaid : Prop := buddyPlaysUptoRow.holds Tryz.pinned (OpenSpec.upto buddyPlaysSpec)

/-- 'millpondlaw09.CensusTells', WHERE WHAT IT READS IS OF BULK AT MOST 1048576: true; the input reads as it did. -/
def censusTellsUptoRow : OpenClaim := { program := "ytfemgekhpcgliaagreat", sum := "078b90a290a2439902a35790c306f35cabb8fa391336df0a775f831cc3ef0cdf", func := "millpond/millpondlaw09.CensusTells", spec := "censusTells", unfollowed := true, recurses := true, apart := false, narrowed := true }
def CensusTellsUptoSaid : Prop := censusTellsUptoRow.holds Tryz.pinned (OpenSpec.upto censusTellsSpec)

/-- 'millpondlaw09.CensusGives', WHERE WHAT IT READS IS OF BULK AT MOST 1048576: true; the input reads as it did. -/
def censusGivesUptoRow : OpenClaim := { program := "ytfemgekhpcgliaagreat", sum := "078b90a290a2439902a35790c306f35cabb8fa391336df0a775f831cc3ef0cdf", func := "millpond/millpondlaw09.CensusGives", spec := "censusGives", unfollowed := true, recurses := true, apart := false, narrowed := true }
def CensusGivesUptoSaid : Prop := censusGivesUptoRow.holds Tryz.pinned (OpenSpec.upto censusGivesSpec)

/-- 'millpondlaw09.CensusCounts', WHERE WHAT IT READS IS OF BULK AT MOST 1048576: true; the input reads as it did. -/
def censusCountsUptoRow : OpenClaim := { program := "ytfemgekhpcgliaagreat", sum := "078b90a290a2439902a35790c306f35cabb8fa391336df0a775f831cc3ef0cdf", func := "millpond/millpondlaw09.CensusCounts", spec := "censusCounts", unfollowed := true, recurses := true, apart := false, narrowed := true }
def CensusCountsUptoSaid : Prop := censusCountsUptoRow.holds Tryz.pinned (OpenSpec.upto censusCountsSpec)

/-- 'millpondlaw09.CensusStill', WHERE WHAT IT READS IS OF BULK AT MOST 1048576: true; the input reads as it did. -/
def censusStillUptoRow : OpenClaim := { program := "ytfemgekhpcgliaagreat", sum := "078b90a290a2439902a35790c306f35cabb8fa391336df0a775f831cc3ef0cdf", func := "millpond/millpondlaw09.CensusStill", spec := "censusStill", unfollowed := true, recurses := true, apart := false, narrowed := true }
def CensusStillUptoSaid : Prop := censusStillUptoRow.holds Tryz.pinned (OpenSpec.upto censusStillSpec)

end Rows
end Go.Proofs.YtfemgekhpcgliaaGreat
