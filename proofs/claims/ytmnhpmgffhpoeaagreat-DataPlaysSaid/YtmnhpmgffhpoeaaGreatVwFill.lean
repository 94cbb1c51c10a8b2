/- The contracts of a view's Fill and Part, for all arguments. -/
import Derived.Test.YtmnhpmgffhpoeaaGreatVwAny
import Derived.Test.YtmnhpmgffhpoeaaGreatArFill
namespace Go.Proofs.YtmnhpmgffhpoeaaGreat.Bt
open Go Go.RowKit Go.Shelf
set_option linter.unusedVariables false
section
variable {A P n cap : Nat} {s : ASt} {ps : List (Option Nat)} {p : Option Addr} {w : World}
theorem vfill_any (h : ArX A s P ps p n cap w) (va vs : Nat) (h1 : va ≤ 4294967296) (h2 : vs ≤ 4294967296) (a k : Int) (ha : a ≤ 9223372036854775807) (y : UInt8) :
    Calls Tryz.prog 30 #[.agg #[.pointer (some ⟨A, 0, none⟩), .int .i64 (va : Int), .int .i64 (vs : Int)], .int .i64 a, .int .i64 k, .int .u8 (y.toNat : Int)] w (FillPost A P s ps p (addrV va vs a k) k y w) :=
  (vfill_gen _ va vs h1 h2 a ha k _ w _ _ (fun X hX => fill_any (h.below hX) _ k (addrV_le h1 h2 a k) y) (keepsV_ar h _)).mono fun e w' ht => thru_turned ht
/-- what Part answers -/
theorem vpart_any (h : ArX A s P ps p n cap w) (va vs : Nat) (h1 : va ≤ 4294967296) (h2 : vs ≤ 4294967296) (a k : Int) (ha : a ≤ 9223372036854775807) :
    Calls Tryz.prog 43 #[.agg #[.pointer (some ⟨A, 0, none⟩), .int .i64 (va : Int), .int .i64 (vs : Int)], .int .i64 a, .int .i64 k] w fun e w' =>
      e = .returned (.tuple #[ofV (some ⟨A, 0, none⟩) (addrV va vs a k) k (thereE s.L s.es (addrV va vs a k) k), .int .i64 (thereE s.L s.es (addrV va vs a k) k)]) ∧ Below w.heap.size w w' := by
  have hof := fun X (hX : Below w.heap.size w X) => vof_any (h.below hX) (addrV va vs a k) k (addrV_le h1 h2 a k)
  generalize thereE s.L s.es (addrV va vs a k) k = E at *
  unfold ofV at hof ⊢
  by_cases hE : E = 0
  · simp only [if_pos hE] at hof ⊢
    exact vpart_gen _ va vs h1 h2 a k ha w _ _ _ E hof
  · simp only [if_neg hE] at hof ⊢
    exact vpart_gen _ va vs h1 h2 a k ha w _ _ _ E hof
end
end Go.Proofs.YtmnhpmgffhpoeaaGreat.Bt
