/- An arena all whose pages are committed. -/
import Derived.Test.YtmnhpmgffhpoeaaGreatArCopy
import Derived.Test.YtmnhpmgffhpoeaaGreatArAwake
namespace Go.Proofs.YtmnhpmgffhpoeaaGreat.Bt
open Go Go.RowKit Go.Shelf
set_option linter.unusedVariables false

/-- an arena all whose pages are committed -/
def fullS (L : Nat) (m : Nat → UInt8) : ASt := ⟨L, [0, L], m, false, 0⟩
theorem good_full {L : Nat} (h0 : 0 < L) (hL : L ≤ 1048576) : Good L [0, L] :=
  ⟨by simp [Rising, h0], by simp, (fun e h => by simp at h; omega), hL⟩
theorem mem_full {L : Nat} (h0 : 0 < L) (i : Int) : mem [0, L] i = decide (0 ≤ i ∧ i < L) := by
  unfold mem
  rw [cnt_cons, cnt_cons, cnt_nil]
  by_cases h1 : 0 ≤ i
  · by_cases h2 : i < L
    · rw [decide_eq_true (show 0 ≤ i ∧ i < L from ⟨h1, h2⟩), if_pos (by omega), if_neg (by omega)]; rfl
    · rw [decide_eq_false (show ¬ (0 ≤ i ∧ i < L) from fun h => h2 h.2), if_pos (by omega), if_pos (by omega)]; rfl
  · rw [decide_eq_false (show ¬ (0 ≤ i ∧ i < L) from fun h => h1 h.1), if_neg (by omega), if_neg (by omega)]; rfl
theorem there_full {L : Nat} (h0 : 0 < L) (hL : L ≤ 1048576) (a k : Int) : thereB L [0, L] a k = decide (0 ≤ a ∧ 0 ≤ k ∧ a + k ≤ (L : Int) * 4096) := by
  rw [Bool.eq_iff_iff, there_iff (good_full h0 hL), decide_eq_true_iff]
  constructor
  · rintro ⟨x0, x1, x2, _⟩; exact ⟨x0, x1, x2⟩
  · rintro ⟨x0, x1, x2⟩
    exact ⟨x0, x1, x2, fun i i1 i2 => by rw [mem_full h0]; simp; omega⟩
theorem thereE_full {L : Nat} (h0 : 0 < L) (hL : L ≤ 1048576) (a k : Int) : thereE L [0, L] a k = if 0 ≤ a ∧ 0 ≤ k ∧ a + k ≤ (L : Int) * 4096 then 0 else 3 := by
  unfold thereE
  rw [there_full h0 hL]
  by_cases h : 0 ≤ a ∧ 0 ≤ k ∧ a + k ≤ (L : Int) * 4096
  · rw [if_pos h, decide_eq_true h]; rfl
  · rw [if_neg h, decide_eq_false h]; rfl
/-- New, and all its pages committed -/
theorem full_new (c L : Nat) (hc : lenN c = L) (he : commitE (newS L) 0 c = 0) (hs : laidS L [] 0 c true = [0, L]) : commitS (newS L) 0 c = fullS L (fun _ => 0) := by
  unfold commitS
  unfold commitE at he
  have hn : ¬ (countE (newS L).L 0 c ≠ 0 ∨ 0 < countR (newS L).L (newS L).es 0 c) := by
    rintro (h | h)
    · rw [if_pos h] at he; exact h he
    · by_cases h2 : countE (newS L).L 0 c = 0
      · rw [if_neg (by simpa using h2), if_pos h] at he; cases he
      · rw [if_pos h2] at he; exact h2 he
  rw [if_neg hn, show refB (newS L) = false from rfl]
  show ASt.mk _ _ _ _ _ = _
  rw [show laidS (newS L).L (newS L).es 0 c true = [0, L] from hs]; rfl

end Go.Proofs.YtmnhpmgffhpoeaaGreat.Bt
