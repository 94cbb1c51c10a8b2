/- The contract of Fill: what it returns, and what it turns. -/
import Derived.Test.YtllghngjnhbmaaaArCopy
import Derived.Test.YtllghngjnhbmaaaRoundHeld
namespace Go.Proofs.Ytllghngjnhbmaaa.Bt
open Go Go.RowKit Go.Shelf
set_option linter.unusedVariables false
set_option linter.unusedSimpArgs false
attribute [local go_sem] Oper.semAt_some
section
variable {A P n cap : Nat} {s : ASt} {ps : List (Option Nat)} {p : Option Addr} {w : World}
def fillS (s : ASt) (a k : Int) (y : UInt8) : ASt := if thereE s.L s.es a k = 0 then { s with mm := putM s.mm a.toNat (List.replicate k.toNat y) } else s
def FillPost (A P : Nat) (s : ASt) (ps : List (Option Nat)) (p : Option Addr) (a k : Int) (y : UInt8) (w : World) (e : Ending) (w' : World) : Prop :=
  e = .returned (.int .i64 (thereE s.L s.es a k)) ∧ Turned A P ps p (fillS s a k y) w w'
end
end Go.Proofs.Ytllghngjnhbmaaa.Bt
