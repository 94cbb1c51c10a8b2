import Derived.Test.YtgcidfenjlmljaaGreatPg47
import Derived.Test.YtgcidfenjlmljaaGreatPgR
set_option linter.unusedVariables false
set_option linter.unusedSimpArgs false
set_option maxRecDepth 100000
set_option maxHeartbeats 16000000
namespace Go.Proofs.YtgcidfenjlmljaaGreat.Bt
section
open Go Go.RowKit Go.Shelf
section
variable {Q E A B n:Nat} {s:ASt} {y0 y1:Nat × Nat × Bool} {w0 w1 x z:World}
end
end
end Go.Proofs.YtgcidfenjlmljaaGreat.Bt
