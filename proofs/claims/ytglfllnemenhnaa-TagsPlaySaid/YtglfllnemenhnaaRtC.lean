/- The document's Run of tags, outside the row. -/
import Derived.Test.YtglfllnemenhnaaRtA
import Derived.Test.YtglfllnemenhnaaTgD
namespace Go.Proofs.Ytglfllnemenhnaa.Bt
open Go Go.RowKit Go.Shelf
set_option linter.unusedVariables false
set_option linter.unusedSimpArgs false
set_option maxRecDepth 100000 in
theorem rrun_out (N n : Nat) (hn : n ≤ 2000) (i : Int) (hi : i < 0 ∨ (n : Int) ≤ i) (w : World) :
    Calls Try.prog 94 #[.slice (some ⟨N, 0, none⟩) n n, .int .i64 i] w (Gives (.tuple #[.int .i64 0, tagV 0 0, .int .i64 3]) w) := by
  have HG := Lib.hid fun X => rget_out N n hn i hi X
  clear hi
  go_enter Try.func94, Try.ntmps94
  go_wp2_with fail
  have HB := Lib.hid (bel1 w (.cells #[.int .u8 0, .int .u8 0] 156))
  have HR := Lib.hid (heap_new w (.cells #[.int .u8 0, .int .u8 0] 156))
  refine (HG.out _).mono ?_
  rintro e w1 ⟨rfl, hb⟩
  have HB1 := Lib.hid (HB.out.trans (hb.mono HB.out.size))
  have hr1 := pair_at hb HR.out
  have hby := bel1 w1 (.cells #[.int .u8 0, .int .u8 0] 156)
  have hr2 := pair_at hby hr1
  have f0 := (cell_blk hr2 0).2; have f1 := (cell_blk hr2 1).2
  have g0 := (cell_blk hr2 0).1; have g1 := (cell_blk hr2 1).1
  have HR2 := Lib.hid hr2
  have HB2 := Lib.hid (HB1.out.trans (hby.mono HB1.out.size))
  clear hb hr1 hby hr2 HB HR
  go_wp2_with fail
  have h3 := pair_set HR2.out rfl (.int .u8 0) (.int .u8 0)
  have q0 := (cell_blk h3 0).1; have q1 := (cell_blk h3 1).1
  exact bodyPost_ret (v := .tuple #[.int .i64 0, tagV 0 0, .int .i64 3]) (by simp [results, Try.results94, go_sem, q0, q1]) rfl ⟨rfl, (HB2.out.setCell (p := ⟨w.heap.size, 0, none⟩) (Nat.le_refl _) _).setCell (p := ⟨w.heap.size, 1, none⟩) (Nat.le_refl _) _⟩
end Go.Proofs.Ytglfllnemenhnaa.Bt
