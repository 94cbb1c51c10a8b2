/- ViewNone: the zero view answers nothing. -/
import Derived.Test.YtfappdiipflpfaaVwNil
namespace Go.Proofs.Ytfappdiipflpfaa.Bt
open Go Go.RowKit Go.Shelf
set_option linter.unusedVariables false

def v0V : Array Value := #[.pointer none, .int .i64 0, .int .i64 0]
set_option maxRecDepth 100000 in
set_option maxHeartbeats 4000000 in
theorem viewNone_all (w : World) : Calls Try.prog 9 #[] w (TrueAt w) := by
  go_enter Try.func9, Try.ntmps9
  go_wp2_with fail
  obtain ⟨w1, hw1⟩ : ∃ w1, w.alloc (.cells #[.pointer none, .int .i64 0, .int .i64 0] 53) = w1 := ⟨_, rfl⟩
  obtain ⟨V, hV⟩ : ∃ V, w.heap.size = V := ⟨_, rfl⟩
  have H1 : VH V none 0 0 w w1 := by rw [← hw1, ← hV]; exact VH.new none 0 0 w
  rw [hw1, hV]
  clear hw1 hV
  refine (vof_nil 0 0 _).mono ?_
  rintro e w2 ⟨rfl, hb⟩
  have H2 := H1.below (hb.alloc hb.size (.cells #[.pointer none, .int .i64 0, .int .i64 0] 53))
  obtain ⟨v0, v1, v2, _⟩ := H2.all
  clear hb H1
  go_wp2_with fail
  refine (vpart_nil 0 0 (by omega) _).mono ?_
  rintro e w3 ⟨rfl, hb⟩
  clear v0 v1 v2
  have H3 := (H2.below hb).below ((Below.refl _ _).alloc (Nat.le_refl _) (.cells #[.pointer none, .int .i64 0, .int .i64 0] 53))
  obtain ⟨v0, v1, v2, _⟩ := H3.all
  clear hb H2
  go_wp2_with fail
  refine (vload_nil 0 3 (by omega) _).mono ?_
  rintro e w4 ⟨rfl, hb⟩
  clear v0 v1 v2
  have H4 := H3.below hb
  obtain ⟨v0, v1, v2, _⟩ := H4.all
  clear hb H3
  go_wp2_with fail
  refine (vbytes_nil 0 0 (by omega) _).mono ?_
  rintro e w5 ⟨rfl, hb⟩
  clear v0 v1 v2
  have H5 := H4.below hb
  clear hb H4
  go_wp2_with fail
  go_region_held3 (fun x => x.cell? ⟨V, 0, none⟩ = some (.pointer none) ∧ x.cell? ⟨V, 1, none⟩ = some (.int .i64 0) ∧ x.cell? ⟨V, 2, none⟩ = some (.int .i64 0) ∧ VH V none 0 0 w x)
    (first | exact (H5.below (Below.refl _ _).drew).all | assumption)
    (first | (go_at_call 38; refine (awake4_calls _).mono ?_; rintro e x1 ⟨rfl, hb1⟩; have k1 := ((H5.below (Below.refl _ _).drew).below hb1).all)
           | (go_at_call 47; refine (vstore_nil 0 1 0 (by omega) _).mono ?_; rintro e x2 ⟨rfl, hb2⟩; have k2 := (k1.2.2.2.below hb2).all)
           | (go_at_call 48; refine (vput_nil 0 (by omega) ⟨#[]⟩ (by decide) _).mono ?_; rintro e x3 ⟨rfl, hb3⟩; have k3 := (k2.2.2.2.below hb3).all)
           | (go_at_call 49; refine (vfill_nil 0 0 0 (by omega) _).mono ?_; rintro e x4 ⟨rfl, hb4⟩; have k4 := (k3.2.2.2.below hb4).all)
           | (go_at_call 50; refine (vcopy_nil 0 0 0 (by omega) (by omega) _).mono ?_; rintro e x5 ⟨rfl, hb5⟩; have k5 := (k4.2.2.2.below hb5).all)
           | (go_at_call 51; refine (vat_any none 0 0 _).mono ?_; rintro e x6 ⟨rfl, hb6⟩; have k6 := (k5.2.2.2.below hb6).all)
           | (go_at_call 52; refine (vsize_any none 0 0 _).mono ?_; rintro e x7 ⟨rfl, hb7⟩; have k7 := (k6.2.2.2.below hb7).all)
           | (go_at_call 43; refine (vtexts_nil _).mono ?_; rintro e x8 ⟨rfl, hb8⟩; have k8 := (k7.2.2.2.below hb8).all))
  have hf := k8.2.2.2.2
  clear H5 k1 k2 k3 k4 k5 k6 k7 k8
  go_wp2_with fail
  go_ret
  exact ⟨rfl, hf⟩
end Go.Proofs.Ytfappdiipflpfaa.Bt
