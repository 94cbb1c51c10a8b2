/- ArenaNil. -/
import Derived.Test.YtfappdiipflpfaaArNil
namespace Go.Proofs.Ytfappdiipflpfaa.Bt
open Go Go.RowKit Go.Shelf
set_option linter.unusedVariables false
set_option maxRecDepth 100000 in
set_option maxHeartbeats 1000000 in
theorem arenaNil_all (w : World) : Calls Try.prog 6 #[] w (TrueAt w) := by
  go_enter Try.func6, Try.ntmps6
  go_wp2_with fail
  refine (refuse_nil 0 _).mono ?_
  rintro e w1 ⟨rfl, rfl⟩
  go_wp2_with fail
  refine (load_nil 0 3 _).mono ?_
  rintro e w2 ⟨rfl, rfl⟩
  go_wp2_with fail
  refine (bytes_nil 0 0 _).mono ?_
  rintro e w3 ⟨rfl, B3⟩
  go_wp2_with fail
  refine (awake3_calls _).mono ?_
  rintro e w4 ⟨rfl, hb⟩
  have B4 := B3.trans (hb.mono B3.size); clear hb
  go_wp2_with fail
  refine (cap_nil _).mono ?_
  rintro e w5 ⟨rfl, rfl⟩
  go_wp2_with fail
  refine (committed_nil _).mono ?_
  rintro e w6 ⟨rfl, hb⟩
  have B6 := B4.trans (hb.mono B4.size); clear hb
  go_wp2_with fail
  refine (has_nil 0 _).mono ?_
  rintro e w7 ⟨rfl, hb⟩
  have B7 := B6.trans (hb.mono B6.size); clear hb
  go_wp2_with fail
  refine (pages_nil _).mono ?_
  rintro e w8 ⟨rfl, hb⟩
  have B8 := B7.trans (hb.mono B7.size); clear hb
  go_wp2_with fail
  refine (len_any 0 none 0 0 _).mono ?_
  rintro e w9 ⟨rfl, hb⟩
  have B9 := B8.trans (hb.mono B8.size); clear hb
  go_wp2_with fail
  refine (commit_nil 0 0 _).mono ?_
  rintro e w10 ⟨rfl, rfl⟩
  go_wp2_with fail
  refine (decommit_nil 0 1 _).mono ?_
  rintro e w10 ⟨rfl, rfl⟩
  go_wp2_with fail
  refine (store_nil 0 3 0 _).mono ?_
  rintro e w10 ⟨rfl, rfl⟩
  go_wp2_with fail
  refine (put_nil 0 ⟨#[]⟩ (by decide) _).mono ?_
  rintro e w11 ⟨rfl, hb⟩
  have B11 := B9.trans (hb.mono B9.size); clear hb
  go_wp2_with fail
  refine (fill_nil 0 0 0 _).mono ?_
  rintro e w12 ⟨rfl, hb⟩
  have B12 := B11.trans (hb.mono B11.size); clear hb
  go_wp2_with fail
  refine (copy_nil 0 0 0 _).mono ?_
  rintro e w13 ⟨rfl, rfl⟩
  go_wp2_with fail
  refine (clone_nil _).mono ?_
  rintro e w13 ⟨rfl, rfl⟩
  go_wp2_with fail
  go_ret
  exact ⟨rfl, B12⟩
end Go.Proofs.Ytfappdiipflpfaa.Bt
