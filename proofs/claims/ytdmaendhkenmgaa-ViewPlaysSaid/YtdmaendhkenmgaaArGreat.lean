/- The walk of ArenaGreat. -/
import Derived.Test.YtdmaendhkenmgaaArAwake
import Derived.Deep.DeepCutAuto
namespace Go.Proofs.Ytdmaendhkenmgaa.Bt
open Go Go.RowKit Go.Shelf
set_option linter.unusedVariables false

section
variable {A P n cap : Nat} {s : ASt} {ps : List (Option Nat)} {p : Option Addr} {w : World}
theorem committed_any (h : ArX A s P ps p n cap w) :
    Calls Try.prog 13 #[.pointer (some ⟨A, 0, none⟩)] w fun e w' => e = .returned (.int .i64 (countV s.L s.es 0 s.L)) ∧ Below w.heap.size w w' := by
  have HX := Lib.hid h
  have g := h.good
  have hs := g.small
  have HN := Lib.hid h.num
  clear h
  go_enter Try.func13, Try.ntmps13
  go_wp2_with fail
  refine (pages_any HX.out).mono ?_
  rintro e w1 ⟨rfl, hb1⟩
  go_wp2_with fail
  refine (cap_any (HX.out.below hb1)).mono ?_
  rintro e w2 ⟨rfl, rfl⟩
  go_wp2_with fail
  refine (count_any s.L p n cap s.es 0 s.L _ g HN.out (HX.out.below hb1).edges (by omega)).mono ?_
  rintro e w3 ⟨rfl, hb3⟩
  go_wp2_with fail
  go_ret
  exact ⟨rfl, hb1.trans (hb3.mono hb1.size)⟩
theorem ahas_any (h : ArX A s P ps p n cap w) (i : Int) :
    Calls Try.prog 19 #[.pointer (some ⟨A, 0, none⟩), .int .i64 i] w fun e w' => e = .returned (.bool (hasB s.L s.es i)) ∧ Below w.heap.size w w' := by
  have HX := Lib.hid h
  have g := h.good
  have HN := Lib.hid h.num
  clear h
  go_enter Try.func19, Try.ntmps19
  go_wp2_with fail
  refine (pages_any HX.out).mono ?_
  rintro e w1 ⟨rfl, hb1⟩
  go_wp2_with fail
  refine (has_any s.L p n cap s.es i _ g (HX.out.below hb1).edges HN.out).mono ?_
  rintro e w2 ⟨rfl, hb2⟩
  go_wp2_with fail
  go_ret
  exact ⟨rfl, hb1.trans (hb2.mono hb1.size)⟩
end

def NewAt (a0 : Int) (w : World) (s11 s12 : Value) (wx : World) : Prop :=
  ∃ A P, s11 = .pointer (some ⟨A, 0, none⟩) ∧ s12 = .int .i64 (lenN a0 : Int) ∧ w.heap.size ≤ A ∧ w.heap.size ≤ P ∧ ArX A (newS (lenN a0)) P (List.replicate (lenN a0) none) none 0 0 wx ∧ Below w.heap.size w wx
theorem lenN_lo {a : Int} (h : a < 0) : (0 : Int) = (lenN a : Int) := by unfold lenN; omega
theorem lenN_hi {a : Int} (h : 1048576 < a) : (1048576 : Int) = (lenN a : Int) := by unfold lenN; omega
theorem lenN_mid {a : Int} (h0 : 0 ≤ a) (h : a ≤ 1048576) : a = (lenN a : Int) := by unfold lenN; omega
/-- within the one page that is committed; none at all -/
def insF (e a1 a2 k : Int) : Bool := (e == 0) && decide (1 ≤ k ∧ k ≤ 4096 ∧ a1 * 4096 ≤ a2 ∧ a2 ≤ (a1 + 1) * 4096 - k)
def noneF (L : Nat) (a2 k : Int) : Bool := decide (k = 0 ∧ 0 ≤ a2 ∧ a2 ≤ (L : Int) * 4096)
theorem mem_nil' (i : Int) : mem [] i = false := rfl
theorem there_one {L : Nat} (hL : L ≤ 1048576) {a1 : Int} (h0 : 0 ≤ a1) (h1 : a1 < L) (a2 k : Int) : thereB L (laidS L [] a1 1 true) a2 k = (insF 0 a1 a2 k || noneF L a2 k) := by
  have g : Good L [] := ⟨List.Pairwise.nil, rfl, (fun e h => by cases h), hL⟩
  have hw : withinB L a1 1 = true := by unfold withinB; simp; omega
  have hm : ∀ i, mem (laidS L [] a1 1 true) i = decide (i = a1) := fun i => by
    rw [mem_laidS g hw, mem_nil']
    by_cases h : i = a1
    · rw [if_pos (by omega), decide_eq_true h]
    · rw [if_neg (by omega), decide_eq_false h]
  rw [Bool.eq_iff_iff, there_iff (laidS_good g a1 1 true)]
  unfold insF noneF
  simp only [hm, decide_eq_true_iff, Bool.or_eq_true, Bool.and_eq_true, beq_self_eq_true, true_and]
  constructor
  · rintro ⟨x0, x1, x2, x3⟩
    by_cases hk : k = 0
    · exact .inr ⟨hk, x0, by omega⟩
    · have y1 := x3 a2 (by omega) (by omega)
      have y2 := x3 (a2 + k - 1) (by omega) (by omega)
      exact .inl ⟨by omega, by omega, by omega, by omega⟩
  · rintro (⟨x0, x1, x2, x3⟩ | ⟨x0, x1, x2⟩)
    · exact ⟨by omega, by omega, by omega, fun i i1 i2 => by omega⟩
    · exact ⟨by omega, by omega, by omega, fun i i1 i2 => by omega⟩
theorem there_not {L : Nat} (hL : L ≤ 1048576) (a1 a2 k : Int) : thereB L [] a2 k = (insF 3 a1 a2 k || noneF L a2 k) := by
  have g : Good L [] := ⟨List.Pairwise.nil, rfl, (fun e h => by cases h), hL⟩
  rw [Bool.eq_iff_iff, there_iff g]
  unfold insF noneF
  simp only [mem_nil', decide_eq_true_iff, Bool.or_eq_true, Bool.and_eq_true]
  constructor
  · rintro ⟨x0, x1, x2, x3⟩
    by_cases hk : k = 0
    · exact .inr ⟨hk, x0, by omega⟩
    · have y1 := x3 a2 (by omega) (by omega); cases y1
  · rintro (⟨x0, _⟩ | ⟨x0, x1, x2⟩)
    · cases x0
    · exact ⟨by omega, by omega, by omega, fun i i1 i2 => by omega⟩
theorem great_commit (L : Nat) (a1 : Int) : commitE (newS L) a1 1 = if 0 ≤ a1 ∧ a1 < L then 0 else 3 := by
  have hc : countE (newS L).L a1 1 = if 0 ≤ a1 ∧ a1 < L then 0 else 3 := by
    unfold countE laidErr withinB
    rw [if_neg (by omega)]
    show (if decide (0 ≤ a1 ∧ (0 : Int) ≤ 1 ∧ (1 : Int) ≤ L - a1) = true then (0 : Int) else 3) = _
    by_cases h : 0 ≤ a1 ∧ a1 < L
    · rw [if_pos h, if_pos (by simp; omega)]
    · rw [if_neg h, if_neg (by simp; omega)]
  unfold commitE
  rw [hc]
  by_cases h : 0 ≤ a1 ∧ a1 < L
  · rw [if_pos h, if_neg (by simp), if_neg ?_]
    · rfl
    · unfold countR countV
      rw [if_neg (by omega)]
      split
      · unfold memCount; simp [newS, mem_nil']
      · exact Int.lt_irrefl 0
  · rw [if_neg h, if_pos (by decide)]
theorem great_commitS (L : Nat) (a1 : Int) (e : Int) (he : commitE (newS L) a1 1 = e) : (e = 0 ∧ commitS (newS L) a1 1 = ⟨L, laidS L [] a1 1 true, fun _ => 0, false, 0⟩) ∨ (e = 3 ∧ commitS (newS L) a1 1 = newS L) := by
  have hc := great_commit L a1
  rw [he] at hc
  by_cases h : 0 ≤ a1 ∧ a1 < L
  · rw [if_pos h] at hc
    refine .inl ⟨hc, ?_⟩
    unfold commitS
    rw [if_neg ?_]
    · rfl
    · rintro (h1 | h1)
      · unfold commitE at he; rw [if_pos h1] at he; rw [he] at h1; exact h1 hc
      · unfold commitE at he
        by_cases h2 : countE (newS L).L a1 1 = 0
        · rw [if_neg (by simpa using h2), if_pos h1] at he; omega
        · rw [if_pos h2] at he; omega
  · rw [if_neg h] at hc
    refine .inr ⟨hc, ?_⟩
    unfold commitS
    have hne : countE (newS L).L a1 1 ≠ 0 := fun h2 => by
      unfold commitE at he
      rw [if_neg (by simpa using h2)] at he
      split at he
      · omega
      · split at he <;> omega
    rw [if_pos (.inl hne)]
theorem zero_count (L : Nat) (hL : L ≤ 1048576) : countV L [] 0 L = 0 := by
  unfold countV withinB
  rw [if_pos (by simp)]
  unfold memCount; simp [mem_nil']
end Go.Proofs.Ytdmaendhkenmgaa.Bt
