import Derived.Test.YtpkaehpllldcmaaGreatDoorArW
import Derived.Test.YtpkaehpllldcmaaGreatDoorShJoin
import Derived.Test.YtpkaehpllldcmaaGreatDoorCfB
import Derived.Test.YtpkaehpllldcmaaGreatDoorChecked
import Derived.KernelRfl
namespace Go.Proofs.YtpkaehpllldcmaaGreatDoor.Bt
open Go Ev Go.RowKit
set_option linter.unusedVariables false
set_option linter.unusedSimpArgs false
set_option maxRecDepth 10000000
theorem mixed : Tryz.prog.follows .mixedOrders = true := by kernel_rfl
theorem jn : JnOK Tryz.prog 223 := by
  have hb : Tryz.f223.body.isSome = true := by kernel_rfl
  obtain ⟨bd, hb⟩ := Option.isSome_iff_exists.1 hb
  exact ⟨Tryz.f223, bd, Tryz.func223, by kernel_rfl, hb, fun sep w => Tryz.strings_Join_none none 0 sep w, fun bk o c xs sep w h1 h2 h3 h4 h5 => Tryz.strings_Join bk o c xs sep w h1 h2 h3 h4 h5⟩
noncomputable def rws0 : List Rw := .jn 223 :: arRows
theorem rws0_ok : ∀ r ∈ rws0, RwOK Tryz.prog arX r := by
  intro r hr
  rcases List.mem_cons.1 hr with rfl | hr
  · exact jn
  · exact arRows_ok r hr
noncomputable def plain : List Rw := [.jn 223]
theorem plain_ok : ∀ r ∈ plain, RwOK Tryz.prog arX r := fun r hr => by
  rw [List.mem_singleton.1 hr]; exact jn
theorem av106 : runV (ftL bs plain) 60 106 (.ag [.i 3 16, .i 3 0, .i 3 8, .i 3 16, .i 3 24, .i 3 32, .i 3 40, .i 3 48, .i 3 56, .i 3 64, .i 3 72, .i 3 80, .i 3 88, .i 3 96, .i 3 104, .i 3 112, .i 3 120, .i 3 128, .i 3 0, .i 3 0, .i 3 0, .i 3 0, .i 3 0, .i 3 0, .i 3 0, .i 3 0, .i 3 0, .i 3 0, .i 3 0, .i 3 0, .i 3 0, .i 3 0, .i 3 0, .i 3 0]) = .fin (.b true) h0 (nat_lit 0) := by kernel_rfl
theorem kv106 : KnOK Tryz.prog 106 (.ag [.i 3 16, .i 3 0, .i 3 8, .i 3 16, .i 3 24, .i 3 32, .i 3 40, .i 3 48, .i 3 56, .i 3 64, .i 3 72, .i 3 80, .i 3 88, .i 3 96, .i 3 104, .i 3 112, .i 3 120, .i 3 128, .i 3 0, .i 3 0, .i 3 0, .i 3 0, .i 3 0, .i 3 0, .i 3 0, .i 3 0, .i 3 0, .i 3 0, .i 3 0, .i 3 0, .i 3 0, .i 3 0, .i 3 0, .i 3 0]) := kn_ofV (X := arX) mixed bsOK plain_ok (x := .agg #[.int .i64 16, .int .i64 0, .int .i64 8, .int .i64 16, .int .i64 24, .int .i64 32, .int .i64 40, .int .i64 48, .int .i64 56, .int .i64 64, .int .i64 72, .int .i64 80, .int .i64 88, .int .i64 96, .int .i64 104, .int .i64 112, .int .i64 120, .int .i64 128, .int .i64 0, .int .i64 0, .int .i64 0, .int .i64 0, .int .i64 0, .int .i64 0, .int .i64 0, .int .i64 0, .int .i64 0, .int .i64 0, .int .i64 0, .int .i64 0, .int .i64 0, .int .i64 0, .int .i64 0, .int .i64 0]) (fun ρ => rfl) av106
theorem av262 : runV (ftL bs plain) 60 262 (.ag [.i 3 2, .i 3 0, .i 3 8, .i 3 16, .i 3 0, .i 3 0, .i 3 0, .i 3 0, .i 3 0, .i 3 0, .i 3 0, .i 3 0, .i 3 0, .i 3 0, .i 3 0, .i 3 0, .i 3 0, .i 3 0, .i 3 0, .i 3 0, .i 3 0, .i 3 0, .i 3 0, .i 3 0, .i 3 0, .i 3 0, .i 3 0, .i 3 0, .i 3 0, .i 3 0, .i 3 0, .i 3 0, .i 3 0, .i 3 0]) = .fin (.b true) h0 (nat_lit 0) := by kernel_rfl
theorem kv262 : KnOK Tryz.prog 262 (.ag [.i 3 2, .i 3 0, .i 3 8, .i 3 16, .i 3 0, .i 3 0, .i 3 0, .i 3 0, .i 3 0, .i 3 0, .i 3 0, .i 3 0, .i 3 0, .i 3 0, .i 3 0, .i 3 0, .i 3 0, .i 3 0, .i 3 0, .i 3 0, .i 3 0, .i 3 0, .i 3 0, .i 3 0, .i 3 0, .i 3 0, .i 3 0, .i 3 0, .i 3 0, .i 3 0, .i 3 0, .i 3 0, .i 3 0, .i 3 0]) := kn_ofV (X := arX) mixed bsOK plain_ok (x := .agg #[.int .i64 2, .int .i64 0, .int .i64 8, .int .i64 16, .int .i64 0, .int .i64 0, .int .i64 0, .int .i64 0, .int .i64 0, .int .i64 0, .int .i64 0, .int .i64 0, .int .i64 0, .int .i64 0, .int .i64 0, .int .i64 0, .int .i64 0, .int .i64 0, .int .i64 0, .int .i64 0, .int .i64 0, .int .i64 0, .int .i64 0, .int .i64 0, .int .i64 0, .int .i64 0, .int .i64 0, .int .i64 0, .int .i64 0, .int .i64 0, .int .i64 0, .int .i64 0, .int .i64 0, .int .i64 0]) (fun ρ => rfl) av262
theorem av58 : runV (ftL bs plain) 60 58 (.ag [.i 3 2, .i 3 0, .i 3 8, .i 3 16, .i 3 0, .i 3 0, .i 3 0, .i 3 0, .i 3 0, .i 3 0, .i 3 0, .i 3 0, .i 3 0, .i 3 0, .i 3 0, .i 3 0, .i 3 0, .i 3 0, .i 3 0, .i 3 0, .i 3 0, .i 3 0, .i 3 0, .i 3 0, .i 3 0, .i 3 0, .i 3 0, .i 3 0, .i 3 0, .i 3 0, .i 3 0, .i 3 0, .i 3 0, .i 3 0]) = .fin (.b true) h0 (nat_lit 0) := by kernel_rfl
theorem kv58 : KnOK Tryz.prog 58 (.ag [.i 3 2, .i 3 0, .i 3 8, .i 3 16, .i 3 0, .i 3 0, .i 3 0, .i 3 0, .i 3 0, .i 3 0, .i 3 0, .i 3 0, .i 3 0, .i 3 0, .i 3 0, .i 3 0, .i 3 0, .i 3 0, .i 3 0, .i 3 0, .i 3 0, .i 3 0, .i 3 0, .i 3 0, .i 3 0, .i 3 0, .i 3 0, .i 3 0, .i 3 0, .i 3 0, .i 3 0, .i 3 0, .i 3 0, .i 3 0]) := kn_ofV (X := arX) mixed bsOK plain_ok (x := .agg #[.int .i64 2, .int .i64 0, .int .i64 8, .int .i64 16, .int .i64 0, .int .i64 0, .int .i64 0, .int .i64 0, .int .i64 0, .int .i64 0, .int .i64 0, .int .i64 0, .int .i64 0, .int .i64 0, .int .i64 0, .int .i64 0, .int .i64 0, .int .i64 0, .int .i64 0, .int .i64 0, .int .i64 0, .int .i64 0, .int .i64 0, .int .i64 0, .int .i64 0, .int .i64 0, .int .i64 0, .int .i64 0, .int .i64 0, .int .i64 0, .int .i64 0, .int .i64 0, .int .i64 0, .int .i64 0]) (fun ρ => rfl) av58
theorem av101 : runV (ftL bs plain) 60 101 (.ag [.i 3 4, .i 3 0, .i 3 8, .i 3 16, .i 3 24, .i 3 32, .i 3 0, .i 3 0, .i 3 0, .i 3 0, .i 3 0, .i 3 0, .i 3 0, .i 3 0, .i 3 0, .i 3 0, .i 3 0, .i 3 0, .i 3 0, .i 3 0, .i 3 0, .i 3 0, .i 3 0, .i 3 0, .i 3 0, .i 3 0, .i 3 0, .i 3 0, .i 3 0, .i 3 0, .i 3 0, .i 3 0, .i 3 0, .i 3 0]) = .fin (.b true) h0 (nat_lit 0) := by kernel_rfl
theorem kv101 : KnOK Tryz.prog 101 (.ag [.i 3 4, .i 3 0, .i 3 8, .i 3 16, .i 3 24, .i 3 32, .i 3 0, .i 3 0, .i 3 0, .i 3 0, .i 3 0, .i 3 0, .i 3 0, .i 3 0, .i 3 0, .i 3 0, .i 3 0, .i 3 0, .i 3 0, .i 3 0, .i 3 0, .i 3 0, .i 3 0, .i 3 0, .i 3 0, .i 3 0, .i 3 0, .i 3 0, .i 3 0, .i 3 0, .i 3 0, .i 3 0, .i 3 0, .i 3 0]) := kn_ofV (X := arX) mixed bsOK plain_ok (x := .agg #[.int .i64 4, .int .i64 0, .int .i64 8, .int .i64 16, .int .i64 24, .int .i64 32, .int .i64 0, .int .i64 0, .int .i64 0, .int .i64 0, .int .i64 0, .int .i64 0, .int .i64 0, .int .i64 0, .int .i64 0, .int .i64 0, .int .i64 0, .int .i64 0, .int .i64 0, .int .i64 0, .int .i64 0, .int .i64 0, .int .i64 0, .int .i64 0, .int .i64 0, .int .i64 0, .int .i64 0, .int .i64 0, .int .i64 0, .int .i64 0, .int .i64 0, .int .i64 0, .int .i64 0, .int .i64 0]) (fun ρ => rfl) av101
noncomputable def rws : List Rw := .kn 106 (.ag [.i 3 16, .i 3 0, .i 3 8, .i 3 16, .i 3 24, .i 3 32, .i 3 40, .i 3 48, .i 3 56, .i 3 64, .i 3 72, .i 3 80, .i 3 88, .i 3 96, .i 3 104, .i 3 112, .i 3 120, .i 3 128, .i 3 0, .i 3 0, .i 3 0, .i 3 0, .i 3 0, .i 3 0, .i 3 0, .i 3 0, .i 3 0, .i 3 0, .i 3 0, .i 3 0, .i 3 0, .i 3 0, .i 3 0, .i 3 0]) :: .kn 262 (.ag [.i 3 2, .i 3 0, .i 3 8, .i 3 16, .i 3 0, .i 3 0, .i 3 0, .i 3 0, .i 3 0, .i 3 0, .i 3 0, .i 3 0, .i 3 0, .i 3 0, .i 3 0, .i 3 0, .i 3 0, .i 3 0, .i 3 0, .i 3 0, .i 3 0, .i 3 0, .i 3 0, .i 3 0, .i 3 0, .i 3 0, .i 3 0, .i 3 0, .i 3 0, .i 3 0, .i 3 0, .i 3 0, .i 3 0, .i 3 0]) :: .kn 58 (.ag [.i 3 2, .i 3 0, .i 3 8, .i 3 16, .i 3 0, .i 3 0, .i 3 0, .i 3 0, .i 3 0, .i 3 0, .i 3 0, .i 3 0, .i 3 0, .i 3 0, .i 3 0, .i 3 0, .i 3 0, .i 3 0, .i 3 0, .i 3 0, .i 3 0, .i 3 0, .i 3 0, .i 3 0, .i 3 0, .i 3 0, .i 3 0, .i 3 0, .i 3 0, .i 3 0, .i 3 0, .i 3 0, .i 3 0, .i 3 0]) :: .kn 101 (.ag [.i 3 4, .i 3 0, .i 3 8, .i 3 16, .i 3 24, .i 3 32, .i 3 0, .i 3 0, .i 3 0, .i 3 0, .i 3 0, .i 3 0, .i 3 0, .i 3 0, .i 3 0, .i 3 0, .i 3 0, .i 3 0, .i 3 0, .i 3 0, .i 3 0, .i 3 0, .i 3 0, .i 3 0, .i 3 0, .i 3 0, .i 3 0, .i 3 0, .i 3 0, .i 3 0, .i 3 0, .i 3 0, .i 3 0, .i 3 0]) :: rws0
theorem rws_ok : ∀ r ∈ rws, RwOK Tryz.prog arX r := by
  intro r hr
  rcases List.mem_cons.1 hr with rfl | hr
  · exact kv106
  rcases List.mem_cons.1 hr with rfl | hr
  · exact kv262
  rcases List.mem_cons.1 hr with rfl | hr
  · exact kv58
  rcases List.mem_cons.1 hr with rfl | hr
  · exact kv101
  exact rws0_ok r hr
noncomputable def T1 : R := .fin (.b true) h0 (nat_lit 0)
end Go.Proofs.YtpkaehpllldcmaaGreatDoor.Bt
