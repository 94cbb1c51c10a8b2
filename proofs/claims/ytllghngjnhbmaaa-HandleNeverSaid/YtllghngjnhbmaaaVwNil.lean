/- Texts of the zero view. -/
import Derived.Test.YtllghngjnhbmaaaVwAny
namespace Go.Proofs.Ytllghngjnhbmaaa.Bt
open Go Go.RowKit Go.Shelf
set_option linter.unusedVariables false

end Go.Proofs.Ytllghngjnhbmaaa.Bt
