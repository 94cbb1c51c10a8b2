/- What the runs lean on. -/
import Derived.Test.YtlbbocbfblohkaaGreatDoorArW
import Derived.Test.YtlbbocbfblohkaaGreatDoorShJoin
import Derived.Test.YtlbbocbfblohkaaGreatDoorCfB
import Derived.Test.YtlbbocbfblohkaaGreatDoorChecked
import Derived.KernelRfl
namespace Go.Proofs.YtlbbocbfblohkaaGreatDoor.Bt
open Go Ev Go.RowKit
set_option linter.unusedVariables false
set_option linter.unusedSimpArgs false
set_option maxRecDepth 10000000
theorem mixed : Tryz.prog.follows .mixedOrders = true := by kernel_rfl
theorem jn : JnOK Tryz.prog 266 := by
  have hb : Tryz.f266.body.isSome = true := by kernel_rfl
  obtain ⟨bd, hb⟩ := Option.isSome_iff_exists.1 hb
  exact ⟨Tryz.f266, bd, Tryz.func266, by kernel_rfl, hb, fun sep w => Tryz.strings_Join_none none 0 sep w, fun bk o c xs sep w h1 h2 h3 h4 h5 => Tryz.strings_Join bk o c xs sep w h1 h2 h3 h4 h5⟩
noncomputable def rws : List Rw := .jn 266 :: arRows
theorem rws_ok : ∀ r ∈ rws, RwOK Tryz.prog arX r := by
  intro r hr
  rcases List.mem_cons.1 hr with rfl | hr
  · exact jn
  · exact arRows_ok r hr
noncomputable def plain : List Rw := [.jn 266]
theorem plain_ok : ∀ r ∈ plain, RwOK Tryz.prog arX r := fun r hr => by
  rw [List.mem_singleton.1 hr]; exact jn
noncomputable def T1 : R := .fin (.b true) h0 (nat_lit 0)
noncomputable def T2 (ty : Nat) : R := .fin (.b true) (mk1 (.gv 0 ty [192, 96, 128, 128, 128])) (nat_lit 0)
end Go.Proofs.YtlbbocbfblohkaaGreatDoor.Bt
