/- The contracts of a list's small functions: Open, Len, follow, lead. -/
import Derived.Test.YtllghngjnhbmaaaOnB
import Derived.Test.YtllghngjnhbmaaaLsM
namespace Go.Proofs.Ytllghngjnhbmaaa.Bt
open Go Go.RowKit Go.Shelf
set_option linter.unusedVariables false

abbrev lsP (pa : Option Addr) (va vs : Nat) : Value := .agg #[.pointer pa, .int .i64 (va : Int), .int .i64 (vs : Int)]
theorem num8 (L : Nat) (es : List Nat) (a : Int) : numE L es a 8 = thereE L es a 8 := rfl
theorem addr_head {a z : Nat} (h8 : 8 ≤ z) : addrV a z 0 8 = (a : Int) := by unfold addrV; rw [if_pos (by omega)]; omega
section
variable {A : Nat} {s : ASt} {w : World}
theorem ld8 {a : Nat} (hn : thereE s.L s.es a 8 = 0) : ldV s a 8 = (numV s.mm a 8 : Int) := by
  unfold ldV; rw [num8, if_pos hn]; rfl
end
end Go.Proofs.Ytllghngjnhbmaaa.Bt
