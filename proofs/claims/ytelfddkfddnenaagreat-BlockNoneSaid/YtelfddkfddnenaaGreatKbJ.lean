/- Closed functions that tell true, reckoned by the kernel. -/
import Derived.Test.YtelfddkfddnenaaGreatArW
import Derived.Test.YtelfddkfddnenaaGreatShJoin
import Derived.Test.YtelfddkfddnenaaGreatChecked
namespace Go.Proofs.YtelfddkfddnenaaGreat.Bt
open Go Ev Go.RowKit
set_option linter.unusedVariables false
set_option linter.unusedSimpArgs false
set_option maxRecDepth 10000000
theorem mixed : Tryz.prog.follows .mixedOrders = true := by kernel_rfl
theorem jn : JnOK Tryz.prog 79 := by
  have hb : Tryz.f79.body.isSome = true := by kernel_rfl
  obtain ⟨bd, hb⟩ := Option.isSome_iff_exists.1 hb
  exact ⟨Tryz.f79, bd, Tryz.func79, by kernel_rfl, hb, fun sep w => Tryz.strings_Join_none none 0 sep w, fun bk o c xs sep w h1 h2 h3 h4 h5 => Tryz.strings_Join bk o c xs sep w h1 h2 h3 h4 h5⟩
noncomputable def rws : List Rw := .jn 79 :: arRows
theorem rws_ok : ∀ r ∈ rws, RwOK Tryz.prog arX r := by
  intro r hr
  rcases List.mem_cons.1 hr with rfl | hr
  · exact jn
  · exact arRows_ok r hr
end Go.Proofs.YtelfddkfddnenaaGreat.Bt
