import Derived.Test.YtpkaehpllldcmaaGreatDoorRows
import Derived.Test.YtpkaehpllldcmaaGreatDoorMeG
import Derived.ProofKit
import Derived.LaidMore
import Derived.OpenShut
import Derived.Stop.Joined
namespace Go.Proofs.YtpkaehpllldcmaaGreatDoor.Bt
open Go Ev Go.ChangeShapes Go.WideShapes Go.ChangeAt Go.RowKit
set_option linter.unusedVariables false
set_option linter.unusedSimpArgs false
abbrev LS : List Nat := [192, 96, 128, 128, 128]
theorem gP : Tryz.prog.globalNamed "millpond/node.partBytes" = some 0 := by kernel_rfl
theorem tP : (Tryz.prog.globals[0]?).map (·.type) = some 194 := by kernel_rfl
set_option maxRecDepth 100000 in
theorem glw_of_laid {W : World} (h : laidMetH Tryz.prog [("millpond/node.partBytes", Rows.laid_millpond_node_partBytes)] W) : ∃ ty, GlW 0 ty LS W := by
  rw [MakeChecks.laidMetH_plain _ _ _ (by kernel_rfl)] at h
  obtain ⟨ps, ⟨g0, t0, cs0, f0, p0, q0, hg0, ht0, hv0, hd0, hq0, hps⟩, _, hfz⟩ := h
  obtain rfl := Option.some.inj (gP.symm.trans hg0)
  obtain rfl := Option.some.inj (tP.symm.trans ht0)
  obtain ⟨xs, m, rfl, hx, hlen, hn, hel⟩ := DataW.trod_array Tryz.underlying194 hd0
  have cT : Tryz.prog.cellsOf 194 = 5 := by kernel_rfl
  have cI : Tryz.prog.cellsOf 3 = 1 := by kernel_rfl
  rw [cT] at hlen
  simp only [Prod.mk.injEq] at hx
  obtain ⟨l⟩ := cs0
  have hc : l = LS.map fun m => Value.int .i64 (Int.ofNat m) := by
    have h0 := hel 0 (by decide); have h1 := hel 1 (by decide); have h2 := hel 2 (by decide); have h3 := hel 3 (by decide); have h4 := hel 4 (by decide)
    rw [cI] at h0 h1 h2 h3 h4
    match l, hlen, xs, hn, hx, h0, h1, h2, h3, h4 with
    | [c0, c1, c2, c3, c4], _, [x0, x1, x2, x3, x4], _, hx, h0, h1, h2, h3, h4 =>
      obtain ⟨k0, e0, d0, _⟩ := DataW.trod_int Tryz.underlying3 (show DataW.trod _ Tryz.prog W 0 _ false m 3 [c0] = some x0 from h0)
      obtain ⟨k1, e1, d1, _⟩ := DataW.trod_int Tryz.underlying3 (show DataW.trod _ Tryz.prog W 0 _ false m 3 [c1] = some x1 from h1)
      obtain ⟨k2, e2, d2, _⟩ := DataW.trod_int Tryz.underlying3 (show DataW.trod _ Tryz.prog W 0 _ false m 3 [c2] = some x2 from h2)
      obtain ⟨k3, e3, d3, _⟩ := DataW.trod_int Tryz.underlying3 (show DataW.trod _ Tryz.prog W 0 _ false m 3 [c3] = some x3 from h3)
      obtain ⟨k4, e4, d4, _⟩ := DataW.trod_int Tryz.underlying3 (show DataW.trod _ Tryz.prog W 0 _ false m 3 [c4] = some x4 from h4)
      subst d0 d1 d2 d3 d4
      have hx1 := hx.1
      simp only [Rows.laid_millpond_node_partBytes, DataW.agg.injEq, List.map_cons, List.map_nil, List.cons.injEq, DataW.lit.injEq, Lit.int.injEq, true_and, and_true] at hx1
      obtain ⟨rfl, rfl, rfl, rfl, rfl⟩ := hx1
      simp only [List.cons.injEq, and_true] at e0 e1 e2 e3 e4
      subst e0 e1 e2 e3 e4
      rfl
  obtain ⟨⟨c, t, hh⟩, _⟩ := hfz 0 0 (by rw [hps]; refine List.mem_append_left _ (List.mem_append_left _ (MemPlace.mem_row.2 ⟨0, ?_, rfl⟩)); rw [hc]; decide)
  refine ⟨t, ?_⟩
  simp only [World.var?, gP, Option.bind_some, hh, Option.some.injEq] at hv0
  rw [hc] at hv0
  subst hv0
  exact hh
end Go.Proofs.YtpkaehpllldcmaaGreatDoor.Bt
