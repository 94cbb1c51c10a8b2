/- The walk of BitsFirst: for every length, every acts, every number it returns true. -/
import Derived.Test.YtoineackmpafdaaBitsVar
namespace Go.Proofs.Ytoineackmpafdaa.Bt
open Go Go.RowKit

/-- the last loop: between from and here none is as asked -/
def NoneRel (S L : Nat) (es : List Nat) (w : World) (f : Int) (i : Value) (x : World) : Prop := ∃ k : Int, f ≤ k ∧ i = .int .i64 k ∧ VarAt S L es x ∧ Below w.heap.size w x

end Go.Proofs.Ytoineackmpafdaa.Bt
