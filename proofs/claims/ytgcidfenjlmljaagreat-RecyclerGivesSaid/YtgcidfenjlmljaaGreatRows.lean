/-
  No cell of these rows narrows 'for every input' (looked for: loops, veiled, ifaces, maps, wideKeys, modest, calm, conditions, laid).
  DERIVED. THE GIVEN ROWS OF THIS SEAT. 9 by the template 'for every input the law returns true; each argument reads behind the call as it read before'; 0 by the template 'total and deterministic' (their statements: YtgcidfenjlmljaaGreatTotals.lean).
  GIVEN WITH THE SEED: the statements are not yours to turn. If you find one false, say at which input.
  Laid BY PROGRAM, IN A SANDBOX (cutbox-rows.mjs): the forced cells as the released guide's own fill.sh prints them over the translation e614669c7ca84ae0… (all of the seat's roots in one cut). By AI agents, Wed Nov 11 2026. No macro, syntax, notation, axiom, sorry.
-/
import Derived.Test.YtgcidfenjlmljaaGreatChecked
import GoSem.Claim
import GoSem.ClaimJoined
import GoSem.ClaimMapViews
import Derived.JoinedTies
import Derived.KernelRfl
namespace Go.Proofs.YtgcidfenjlmljaaGreat
/- THE CELL 'sum', in the pinned program and in every row, IS THE sha256 OF THE DUMP (.gsa) THAT YtgcidfenjlmljaaGreatProg.lean LOADS. Nothing in Lean hashes anything: it is a label: what it is worth is what the hold of that sum in a sandbox is worth. -/
noncomputable def Tryz.pinned : Pinned := { name := "ytgcidfenjlmljaagreat", sum := "e614669c7ca84ae0c98a4ea221e1a521c70a7dd014567dd2401811e745ac75ee", checked := Tryz.checked }
namespace Rows
def none {H : Type} : Left H := { results := [], args := [] }

/-- 'millpondlaw12.RecyclerPlays': WHATEVER THE INPUT: true; the input reads as it did. -/
def recyclerPlaysSpec : ChangeSpec := { name := "recyclerPlays", fn := fun _ => fun
  | [d1, d2, d3] => { results := [.lit (.bool true)], args := [d1, d2, d3] }
  | _ => none }
def recyclerPlaysRow : OpenClaim := { program := "ytgcidfenjlmljaagreat", sum := "e614669c7ca84ae0c98a4ea221e1a521c70a7dd014567dd2401811e745ac75ee", func := "millpond/millpondlaw12.RecyclerPlays", spec := "recyclerPlays", unfollowed := true, recurses := true, apart := false }
def RecyclerPlaysSaid : Prop := recyclerPlaysRow.holds Tryz.pinned (OpenSpec.ofChange recyclerPlaysSpec)

/-- ITS FALSE NEIGHBOUR: 'it returns false'. Refute it at one input. -/
def recyclerPlaysWrong : ChangeSpec := { name := "recyclerPlays", fn := fun _ => fun
  | [d1, d2, d3] => { results := [.lit (.bool false)], args := [d1, d2, d3] }
  | _ => none }
def RecyclerPlaysWrongFalsely : Prop := recyclerPlaysRow.holds Tryz.pinned (OpenSpec.ofChange recyclerPlaysWrong)

/-- 'millpondlaw12.RecyclerOwns': WHATEVER THE INPUT: true; the input reads as it did. -/
def recyclerOwnsSpec : ChangeSpec := { name := "recyclerOwns", fn := fun _ => fun
  | [d1, d2] => { results := [.lit (.bool true)], args := [d1, d2] }
  | _ => none }
def recyclerOwnsRow : OpenClaim := { program := "ytgcidfenjlmljaagreat", sum := "e614669c7ca84ae0c98a4ea221e1a521c70a7dd014567dd2401811e745ac75ee", func := "millpond/millpondlaw12.RecyclerOwns", spec := "recyclerOwns", unfollowed := true, recurses := true, apart := false }
def RecyclerOwnsSaid : Prop := recyclerOwnsRow.holds Tryz.pinned (OpenSpec.ofChange recyclerOwnsSpec)

/-- ITS FALSE NEIGHBOUR: 'it returns false'. Refute it at one input. -/
def recyclerOwnsWrong : ChangeSpec := { name := "recyclerOwns", fn := fun _ => fun
  | [d1, d2] => { results := [.lit (.bool false)], args := [d1, d2] }
  | _ => none }
def RecyclerOwnsWrongFalsely : Prop := recyclerOwnsRow.holds Tryz.pinned (OpenSpec.ofChange recyclerOwnsWrong)

/-- 'millpondlaw12.RecyclerGives': WHATEVER THE INPUT: true; the input reads as it did. -/
def recyclerGivesSpec : ChangeSpec := { name := "recyclerGives", fn := fun _ => fun
  | [d1, d2, d3] => { results := [.lit (.bool true)], args := [d1, d2, d3] }
  | _ => none }
def recyclerGivesRow : OpenClaim := { program := "ytgcidfenjlmljaagreat", sum := "e614669c7ca84ae0c98a4ea221e1a521c70a7dd014567dd2401811e745ac75ee", func := "millpond/millpondlaw12.RecyclerGives", spec := "recyclerGives", unfollowed := true, recurses := true, apart := false }
def RecyclerGivesSaid : Prop := recyclerGivesRow.holds Tryz.pinned (OpenSpec.ofChange recyclerGivesSpec)

/-- ITS FALSE NEIGHBOUR: 'it returns false'. Refute it at one input. -/
def recyclerGivesWrong : ChangeSpec := { name := "recyclerGives", fn := fun _ => fun
  | [d1, d2, d3] => { results := [.lit (.bool false)], args := [d1, d2, d3] }
  | _ => none }
def RecyclerGivesWrongFalsely : Prop := recyclerGivesRow.holds Tryz.pinned (OpenSpec.ofChange recyclerGivesWrong)

/-- 'millpondlaw12.RecyclerBack': WHATEVER THE INPUT: true; the input reads as it did. -/
def recyclerBackSpec : ChangeSpec := { name := "recyclerBack", fn := fun _ => fun
  | [d1, d2] => { results := [.lit (.bool true)], args := [d1, d2] }
  | _ => none }
def recyclerBackRow : OpenClaim := { program := "ytgcidfenjlmljaagreat", sum := "e614669c7ca84ae0c98a4ea221e1a521c70a7dd014567dd2401811e745ac75ee", func := "millpond/millpondlaw12.RecyclerBack", spec := "recyclerBack", unfollowed := true, recurses := true, apart := false }
def RecyclerBackSaid : Prop := recyclerBackRow.holds Tryz.pinned (OpenSpec.ofChange recyclerBackSpec)

/-- ITS FALSE NEIGHBOUR: 'it returns false'. Refute it at one input. -/
def recyclerBackWrong : ChangeSpec := { name := "recyclerBack", fn := fun _ => fun
  | [d1, d2] => { results := [.lit (.bool false)], args := [d1, d2] }
  | _ => none }
def RecyclerBackWrongFalsely : Prop := recyclerBackRow.holds Tryz.pinned (OpenSpec.ofChange recyclerBackWrong)

/-- 'millpondlaw12.RecyclerKeeps': WHATEVER THE INPUT: true; the input reads as it did. -/
def recyclerKeepsSpec : ChangeSpec := { name := "recyclerKeeps", fn := fun _ => fun
  | [d1, d2, d3] => { results := [.lit (.bool true)], args := [d1, d2, d3] }
  | _ => none }
def recyclerKeepsRow : OpenClaim := { program := "ytgcidfenjlmljaagreat", sum := "e614669c7ca84ae0c98a4ea221e1a521c70a7dd014567dd2401811e745ac75ee", func := "millpond/millpondlaw12.RecyclerKeeps", spec := "recyclerKeeps", unfollowed := true, recurses := true, apart := false }
def RecyclerKeepsSaid : Prop := recyclerKeepsRow.holds Tryz.pinned (OpenSpec.ofChange recyclerKeepsSpec)

/-- ITS FALSE NEIGHBOUR: 'it returns false'. Refute it at one input. -/
def recyclerKeepsWrong : ChangeSpec := { name := "recyclerKeeps", fn := fun _ => fun
  | [d1, d2, d3] => { results := [.lit (.bool false)], args := [d1, d2, d3] }
  | _ => none }
def RecyclerKeepsWrongFalsely : Prop := recyclerKeepsRow.holds Tryz.pinned (OpenSpec.ofChange recyclerKeepsWrong)

/-- 'millpondlaw13.ChainPlays': WHATEVER THE INPUT: true; the input reads as it did. -/
def chainPlaysSpec : ChangeSpec := { name := "chainPlays", fn := fun _ => fun
  | [d1, d2, d3] => { results := [.lit (.bool true)], args := [d1, d2, d3] }
  | _ => none }
def chainPlaysRow : OpenClaim := { program := "ytgcidfenjlmljaagreat", sum := "e614669c7ca84ae0c98a4ea221e1a521c70a7dd014567dd2401811e745ac75ee", func := "millpond/millpondlaw13.ChainPlays", spec := "chainPlays", unfollowed := true, recurses := true, apart := false }
def ChainPlaysSaid : Prop := chainPlaysRow.holds Tryz.pinned (OpenSpec.ofChange chainPlaysSpec)

/-- ITS FALSE NEIGHBOUR: 'it returns false'. Refute it at one input. -/
def chainPlaysWrong : ChangeSpec := { name := "chainPlays", fn := fun _ => fun
  | [d1, d2, d3] => { results := [.lit (.bool false)], args := [d1, d2, d3] }
  | _ => none }
def ChainPlaysWrongFalsely : Prop := chainPlaysRow.holds Tryz.pinned (OpenSpec.ofChange chainPlaysWrong)

/-- 'millpondlaw13.ChainOwns': WHATEVER THE INPUT: true; the input reads as it did. -/
def chainOwnsSpec : ChangeSpec := { name := "chainOwns", fn := fun _ => fun
  | [d1, d2] => { results := [.lit (.bool true)], args := [d1, d2] }
  | _ => none }
def chainOwnsRow : OpenClaim := { program := "ytgcidfenjlmljaagreat", sum := "e614669c7ca84ae0c98a4ea221e1a521c70a7dd014567dd2401811e745ac75ee", func := "millpond/millpondlaw13.ChainOwns", spec := "chainOwns", unfollowed := true, recurses := true, apart := false }
def ChainOwnsSaid : Prop := chainOwnsRow.holds Tryz.pinned (OpenSpec.ofChange chainOwnsSpec)

/-- ITS FALSE NEIGHBOUR: 'it returns false'. Refute it at one input. -/
def chainOwnsWrong : ChangeSpec := { name := "chainOwns", fn := fun _ => fun
  | [d1, d2] => { results := [.lit (.bool false)], args := [d1, d2] }
  | _ => none }
def ChainOwnsWrongFalsely : Prop := chainOwnsRow.holds Tryz.pinned (OpenSpec.ofChange chainOwnsWrong)

/-- 'millpondlaw13.ChainClear': WHATEVER THE INPUT: true; the input reads as it did. -/
def chainClearSpec : ChangeSpec := { name := "chainClear", fn := fun _ => fun
  | [d1, d2] => { results := [.lit (.bool true)], args := [d1, d2] }
  | _ => none }
def chainClearRow : OpenClaim := { program := "ytgcidfenjlmljaagreat", sum := "e614669c7ca84ae0c98a4ea221e1a521c70a7dd014567dd2401811e745ac75ee", func := "millpond/millpondlaw13.ChainClear", spec := "chainClear", unfollowed := true, recurses := true, apart := false }
def ChainClearSaid : Prop := chainClearRow.holds Tryz.pinned (OpenSpec.ofChange chainClearSpec)

/-- ITS FALSE NEIGHBOUR: 'it returns false'. Refute it at one input. -/
def chainClearWrong : ChangeSpec := { name := "chainClear", fn := fun _ => fun
  | [d1, d2] => { results := [.lit (.bool false)], args := [d1, d2] }
  | _ => none }
def ChainClearWrongFalsely : Prop := chainClearRow.holds Tryz.pinned (OpenSpec.ofChange chainClearWrong)

/-- 'millpondlaw13.ChainStack': WHATEVER THE INPUT: true; the input reads as it did. -/
def chainStackSpec : ChangeSpec := { name := "chainStack", fn := fun _ => fun
  | [d] => { results := [.lit (.bool true)], args := [d] }
  | _ => none }
def chainStackRow : OpenClaim := { program := "ytgcidfenjlmljaagreat", sum := "e614669c7ca84ae0c98a4ea221e1a521c70a7dd014567dd2401811e745ac75ee", func := "millpond/millpondlaw13.ChainStack", spec := "chainStack", unfollowed := true, recurses := true, apart := false }
def ChainStackSaid : Prop := chainStackRow.holds Tryz.pinned (OpenSpec.ofChange chainStackSpec)

/-- ITS FALSE NEIGHBOUR: 'it returns false'. Refute it at one input. -/
def chainStackWrong : ChangeSpec := { name := "chainStack", fn := fun _ => fun
  | [d] => { results := [.lit (.bool false)], args := [d] }
  | _ => none }
def ChainStackWrongFalsely : Prop := chainStackRow.holds Tryz.pinned (OpenSpec.ofChange chainStackWrong)

/- THE SECOND FORM. 'bulk': how many values and letters a reading holds, each counted each time it is reached (what is shared counts as often as it is met; a slice's spare places count too). A statement '..UptoSaid' is the law's where the arguments, and the package variables that the reading takes, are together of bulk at most 1048576: NARROWER than '..Said'. Prove '..Said' where nothing that the law and all that it calls make is longer than what came in: it says more and counts as full. Else prove '..UptoSaid'. A law counts once. -/
mutual
def uptoBulk {H : Type} : DataW H → Nat
  | .lit (.string bytes) => bytes.length + 1
  | .lit _ => 1
  | .nil => 1
  | .ptr d => uptoBulk d + 1
  | .slice elems spare => uptoBulkAll elems + uptoBulkAll spare + 1
  | .agg parts => uptoBulkAll parts + 1
  | .iface _ d => uptoBulk d + 1
  | .map entries => uptoBulkEntries entries + 1
  | .held _ => 1
def uptoBulkAll {H : Type} : List (DataW H) → Nat
  | [] => 0
  | d :: r => uptoBulk d + uptoBulkAll r
def uptoBulkEntries {H : Type} : List (Lit × DataW H) → Nat
  | [] => 0
  | x :: r => uptoBulkEntry x + uptoBulkEntries r
def uptoBulkEntry {H : Type} : Lit × DataW H → Nat
  | (.string bytes, d) => bytes.length + uptoBulk d + 1
  | (_, d) => uptoBulk d + 1
 end
def uptoSmall : (H : Type) → List (DataW H) → Bool := fun _ ds => decide (uptoBulkAll ds ≤ 1048576)
def OpenSpec.upto (s : _root_.Go.ChangeSpec) : _root_.Go.OpenSpec := { _root_.Go.OpenSpec.ofChange s with cond := some uptoSmall }

/-- 'millpondlaw12.RecyclerPlays', WHERE WHAT IT READS IS OF BULK AT MOST 1048576: true; the input reads as it did. -/
def recyclerPlaysUptoRow : OpenClaim := { program := "ytgcidfenjlmljaagreat", sum := "e614669c7ca84ae0c98a4ea221e1a521c70a7dd014567dd2401811e745ac75ee", func := "millpond/millpondlaw12.RecyclerPlays", spec := "recyclerPlays", unfollowed := true, recurses := true, apart := false, narrowed := true }
def RecyclerPlaysUptoSaid : Prop := recyclerPlaysUptoRow.holds Tryz.pinned (OpenSpec.upto recyclerPlaysSpec)

/-- 'millpondlaw12.RecyclerOwns', WHERE WHAT IT READS IS OF BULK AT MOST 1048576: true; the input reads as it did. -/
def recyclerOwnsUptoRow : OpenClaim := { program := "ytgcidfenjlmljaagreat", sum := "e614669c7ca84ae0c98a4ea221e1a521c70a7dd014567dd2401811e745ac75ee", func := "millpond/millpondlaw12.RecyclerOwns", spec := "recyclerOwns", unfollowed := true, recurses := true, apart := false, narrowed := true }
def RecyclerOwnsUptoSaid : Prop := recyclerOwnsUptoRow.holds Tryz.pinned (OpenSpec.upto recyclerOwnsSpec)

/-- 'millpondlaw12.RecyclerGives', WHERE WHAT IT READS IS OF BULK AT MOST 1048576: true; the input reads as it did. -/
def recyclerGivesUptoRow : OpenClaim := { program := "ytgcidfenjlmljaagreat", sum := "e614669c7ca84ae0c98a4ea221e1a521c70a7dd014567dd2401811e745ac75ee", func := "millpond/millpondlaw12.RecyclerGives", spec := "recyclerGives", unfollowed := true, recurses := true, apart := false, narrowed := true }
def RecyclerGivesUptoSaid : Prop := recyclerGivesUptoRow.holds Tryz.pinned (OpenSpec.upto recyclerGivesSpec)

/-- 'millpondlaw12.RecyclerBack', WHERE WHAT IT READS IS OF BULK AT MOST 1048576: true; the input reads as it did. -/
def recyclerBackUptoRow : OpenClaim := { program := "ytgcidfenjlmljaagreat", sum := "e614669c7ca84ae0c98a4ea221e1a521c70a7dd014567dd2401811e745ac75ee", func := "millpond/millpondlaw12.RecyclerBack", spec := "recyclerBack", unfollowed := true, recurses := true, apart := false, narrowed := true }
def RecyclerBackUptoSaid : Prop := recyclerBackUptoRow.holds Tryz.pinned (OpenSpec.upto recyclerBackSpec)

/-- 'millpondlaw12.RecyclerKeeps', WHERE WHAT IT READS IS OF BULK AT MOST 1048576: true; the input reads as it did. -/
def recyclerKeepsUptoRow : OpenClaim := { program := "ytgcidfenjlmljaagreat", sum := "e614669c7ca84ae0c98a4ea221e1a521c70a7dd014567dd2401811e745ac75ee", func := "millpond/millpondlaw12.RecyclerKeeps", spec := "recyclerKeeps", unfollowed := true, recurses := true, apart := false, narrowed := true }
def RecyclerKeepsUptoSaid : Prop := recyclerKeepsUptoRow.holds Tryz.pinned (OpenSpec.upto recyclerKeepsSpec)

/-- 'millpondlaw13.ChainPlays', WHERE WHAT IT READS IS OF BULK AT MOST 1048576: true; the input reads as it did. -/
def chainPlaysUptoRow : OpenClaim := { program := "ytgcidfenjlmljaagreat", sum := "e614669c7ca84ae0c98a4ea221e1a521c70a7dd014567dd2401811e745ac75ee", func := "millpond/millpondlaw13.ChainPlays", spec := "chainPlays", unfollowed := true, recurses := true, apart := false, narrowed := true }
def ChainPlaysUptoSaid : Prop := chainPlaysUptoRow.holds Tryz.pinned (OpenSpec.upto chainPlaysSpec)

/-- 'millpondlaw13.ChainOwns', WHERE WHAT IT READS IS OF BULK AT MOST 1048576: true; the input reads as it did. -/
def chainOwnsUptoRow : OpenClaim := { program := "ytgcidfenjlmljaagreat", sum := "e614669c7ca84ae0c98a4ea221e1a521c70a7dd014567dd2401811e745ac75ee", func := "millpond/millpondlaw13.ChainOwns", spec := "chainOwns", unfollowed := true, recurses := true, apart := false, narrowed := true }
def ChainOwnsUptoSaid : Prop := chainOwnsUptoRow.holds Tryz.pinned (OpenSpec.upto chainOwnsSpec)

/-- 'millpondlaw13.ChainClear', WHERE WHAT IT READS IS OF BULK AT MOST 1048576: true; the input reads as it did. -/
def chainClearUptoRow : OpenClaim := { program := "ytgcidfenjlmljaagreat", sum := "e614669c7ca84ae0c98a4ea221e1a521c70a7dd014567dd2401811e745ac75ee", func := "millpond/millpondlaw13.ChainClear", spec := "chainClear", unfollowed := true, recurses := true, apart := false, narrowed := true }
def ChainClearUptoSaid : Prop := chainClearUptoRow.holds Tryz.pinned (OpenSpec.upto chainClearSpec)

/-- 'millpondlaw13.ChainStack', WHERE WHAT IT READS IS OF BULK AT MOST 1048576: true; the input reads as it did. -/
def chainStackUptoRow : OpenClaim := { program := "ytgcidfenjlmljaagreat", sum := "e614669c7ca84ae0c98a4ea221e1a521c70a7dd014567dd2401811e745ac75ee", func := "millpond/millpondlaw13.ChainStack", spec := "chainStack", unfollowed := true, recurses := true, apart := false, narrowed := true }
def ChainStackUptoSaid : Prop := chainStackUptoRow.holds Tryz.pinned (OpenSpec.upto chainStackSpec)

end Rows
end Go.Proofs.YtgcidfenjlmljaaGreat
