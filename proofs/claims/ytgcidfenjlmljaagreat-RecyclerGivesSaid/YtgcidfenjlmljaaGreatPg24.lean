import Derived.Test.YtgcidfenjlmljaaGreatPg23
import Derived.Test.YtgcidfenjlmljaaGreatPgR
set_option linter.unusedVariables false
set_option linter.unusedSimpArgs false
set_option maxRecDepth 100000
set_option maxHeartbeats 16000000
namespace Go.Proofs.YtgcidfenjlmljaaGreat.Bt
section
open Go Go.RowKit Go.Shelf

end
end Go.Proofs.YtgcidfenjlmljaaGreat.Bt
