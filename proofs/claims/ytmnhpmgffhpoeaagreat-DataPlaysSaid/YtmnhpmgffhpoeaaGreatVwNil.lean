/- Texts of the zero view. -/
import Derived.Test.YtmnhpmgffhpoeaaGreatVwAny
namespace Go.Proofs.YtmnhpmgffhpoeaaGreat.Bt
open Go Go.RowKit Go.Shelf
set_option linter.unusedVariables false

theorem join_nil (w : World) : Calls Tryz.prog 81 #[.slice none 0 0, .string ⟨#[]⟩] w fun e w' => e = .returned (.string ⟨#[]⟩) ∧ Below w.heap.size w w' := by
  go_enter Tryz.func81, Tryz.ntmps81
  go_wp2_with fail
  go_ret
  exact ⟨rfl, Below.refl _ _⟩
set_option maxHeartbeats 1000000 in
theorem vtexts_nil (w : World) : Calls Tryz.prog 64 #[.agg #[.pointer none, .int .i64 0, .int .i64 0], .slice none 0 0] w fun e w' => e = .returned (.int .i64 1) ∧ Below w.heap.size w w' := by
  go_enter Tryz.func64, Tryz.ntmps64
  go_wp2_with fail
  have HH := VH.new none 0 0 w
  obtain ⟨w1, hw1⟩ : ∃ w1, w.alloc (.cells #[.pointer none, .int .i64 ((0 : Nat) : Int), .int .i64 ((0 : Nat) : Int)] 28) = w1 := ⟨_, rfl⟩
  rw [hw1] at HH
  have hw1' : w.alloc (.cells #[.pointer none, .int .i64 0, .int .i64 0] 28) = w1 := hw1
  rw [hw1']
  clear hw1 hw1'
  obtain ⟨B, hB⟩ : ∃ B, w.heap.size = B := ⟨_, rfl⟩
  rw [hB] at HH ⊢
  clear hB
  go_region_held3 (fun x => x.cell? ⟨B, 0, none⟩ = some (.pointer none) ∧ x.cell? ⟨B, 1, none⟩ = some (.int .i64 0) ∧ x.cell? ⟨B, 2, none⟩ = some (.int .i64 0) ∧ VH B none 0 0 w x)
    (first | exact (HH.below (Below.refl _ _).drew).all | assumption)
    (first | (go_at_call 81; refine (join_nil _).mono ?_; rintro e w' ⟨rfl, hbb⟩; have hnx := ((HH.below (Below.refl _ _).drew).below hbb).all)
           | (go_at_call 80; refine (vput_nil 0 (by omega) ⟨#[]⟩ (by decide) _).mono ?_; rintro e w'' ⟨rfl, hbc⟩; have hny := (hnx.2.2.2.below hbc).all))
  have hf := hny.2.2.2.2
  clear HH hnx hny
  go_wp2_with fail
  go_ret
  exact ⟨rfl, hf⟩

end Go.Proofs.YtmnhpmgffhpoeaaGreat.Bt
