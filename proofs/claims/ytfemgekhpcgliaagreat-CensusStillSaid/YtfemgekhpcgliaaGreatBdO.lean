/- The lists of a buddy's free runs, as its runs are others. -/
import Derived.Test.YtfemgekhpcgliaaGreatBdN
import Derived.Test.YtfemgekhpcgliaaGreatLsM
namespace Go.Proofs.YtfemgekhpcgliaaGreat.Bt
open Go Go.RowKit Go.Shelf
set_option linter.unusedVariables false

theorem sorted_ext : ∀ {l m : List Nat}, l.Pairwise (· < ·) → m.Pairwise (· < ·) → (∀ x, x ∈ l ↔ x ∈ m) → l = m
  | [], [], _, _, _ => rfl
  | [], y :: m, _, _, h => absurd ((h y).2 (List.mem_cons_self ..)) (by simp)
  | x :: l, [], _, _, h => absurd ((h x).1 (List.mem_cons_self ..)) (by simp)
  | x :: l, y :: m, h1, h2, h => by
    rw [List.pairwise_cons] at h1 h2
    have e : x = y := by
      rcases List.mem_cons.1 ((h x).1 (List.mem_cons_self ..)) with c | c
      · exact c
      · rcases List.mem_cons.1 ((h y).2 (List.mem_cons_self ..)) with d | d
        · exact d.symm
        · have := h2.1 x c; have := h1.1 y d; omega
    subst e
    congr 1
    refine sorted_ext h1.2 h2.2 fun z => ⟨fun c => ?_, fun c => ?_⟩
    · rcases List.mem_cons.1 ((h z).1 (List.mem_cons_of_mem _ c)) with d | d
      · have := h1.1 z c; omega
      · exact d
    · rcases List.mem_cons.1 ((h z).2 (List.mem_cons_of_mem _ c)) with d | d
      · have := h2.1 z c; omega
      · exact d
theorem ins_sorted (x : Nat) : ∀ ms : List Nat, ms.Pairwise (· < ·) → x ∉ ms → (ins x ms).Pairwise (· < ·)
  | [], _, _ => by simp [ins]
  | m :: t, h, hx => by
    unfold ins
    rw [List.pairwise_cons] at h
    rw [List.mem_cons, not_or] at hx
    split
    · refine List.pairwise_cons.2 ⟨fun y hy => ?_, List.pairwise_cons.2 h⟩
      rcases List.mem_cons.1 hy with c | c
      · omega
      · have := h.1 y c; omega
    · refine List.pairwise_cons.2 ⟨fun y hy => ?_, ins_sorted x t h.2 hx.2⟩
      rcases (ins_mem x y t).1 hy with c | c
      · omega
      · exact h.1 y c
theorem sorted_nodup {l : List Nat} (h : l.Pairwise (· < ·)) : l.Nodup := h.imp fun c => Nat.ne_of_lt c

/-- where the free runs of an order begin, by pages, but for the one at x -/
def freeP (R : Runs) (x g k : Nat) : List Nat := (List.range g).filter fun i => decide (R i = some (k, false) ∧ i ≠ x)
/-- by addresses -/
def freeL (own : Nat) (R : Runs) (x g k : Nat) : List Nat := (freeP R x g k).map fun i => (own + i) * 4096
theorem freeP_mem {R : Runs} {x g k i : Nat} : i ∈ freeP R x g k ↔ i < g ∧ R i = some (k, false) ∧ i ≠ x := by
  unfold freeP
  rw [List.mem_filter, List.mem_range, decide_eq_true_iff]
theorem freeL_mem {own : Nat} {R : Runs} {x g k a : Nat} : a ∈ freeL own R x g k ↔ ∃ i, i < g ∧ R i = some (k, false) ∧ i ≠ x ∧ (own + i) * 4096 = a := by
  unfold freeL
  rw [List.mem_map]
  constructor
  · rintro ⟨i, h, e⟩
    have := freeP_mem.1 h
    exact ⟨i, this.1, this.2.1, this.2.2, e⟩
  · rintro ⟨i, h1, h2, h3, e⟩
    exact ⟨i, freeP_mem.2 ⟨h1, h2, h3⟩, e⟩
theorem freeL_at {own : Nat} {R : Runs} {x g k i : Nat} : (own + i) * 4096 ∈ freeL own R x g k ↔ i < g ∧ R i = some (k, false) ∧ i ≠ x := by
  rw [freeL_mem]
  constructor
  · rintro ⟨j, h1, h2, h3, e⟩
    have : j = i := by omega
    subst this
    exact ⟨h1, h2, h3⟩
  · rintro ⟨h1, h2, h3⟩
    exact ⟨i, h1, h2, h3, rfl⟩
theorem freeP_sorted (R : Runs) (x g k : Nat) : (freeP R x g k).Pairwise (· < ·) := List.Pairwise.sublist List.filter_sublist List.pairwise_lt_range
theorem freeL_sorted (own : Nat) (R : Runs) (x g k : Nat) : (freeL own R x g k).Pairwise (· < ·) := by
  unfold freeL
  rw [List.pairwise_map]
  exact (freeP_sorted R x g k).imp fun {a b} c => by omega
/-- the same free runs: the same list -/
theorem freeL_same {own : Nat} {R S : Runs} {x y g f k : Nat} (h : ∀ i, (i < g ∧ R i = some (k, false) ∧ i ≠ x) ↔ (i < f ∧ S i = some (k, false) ∧ i ≠ y)) : freeL own R x g k = freeL own S y f k := by
  refine sorted_ext (freeL_sorted _ _ _ _ _) (freeL_sorted _ _ _ _ _) fun a => ?_
  rw [freeL_mem, freeL_mem]
  constructor
  · rintro ⟨i, h1, h2, h3, e⟩
    have := (h i).1 ⟨h1, h2, h3⟩
    exact ⟨i, this.1, this.2.1, this.2.2, e⟩
  · rintro ⟨i, h1, h2, h3, e⟩
    have := (h i).2 ⟨h1, h2, h3⟩
    exact ⟨i, this.1, this.2.1, this.2.2, e⟩
/-- one free run more -/
theorem freeL_ins {own : Nat} {R S : Runs} {x y g f k z : Nat} (hz : ¬ (z < g ∧ R z = some (k, false) ∧ z ≠ x)) (h : ∀ i, (i < f ∧ S i = some (k, false) ∧ i ≠ y) ↔ (i = z ∨ (i < g ∧ R i = some (k, false) ∧ i ≠ x))) :
    freeL own S y f k = ins ((own + z) * 4096) (freeL own R x g k) := by
  refine sorted_ext (freeL_sorted _ _ _ _ _) (ins_sorted _ _ (freeL_sorted _ _ _ _ _) fun c => hz (freeL_at.1 c)) fun a => ?_
  rw [ins_mem, freeL_mem]
  constructor
  · rintro ⟨i, h1, h2, h3, e⟩
    rcases (h i).1 ⟨h1, h2, h3⟩ with c | c
    · subst c; exact .inl e.symm
    · rw [← e]; exact .inr (freeL_at.2 c)
  · rintro (c | c)
    · have := (h z).2 (.inl rfl)
      exact ⟨z, this.1, this.2.1, this.2.2, c.symm⟩
    · obtain ⟨i, h1, h2, h3, e⟩ := freeL_mem.1 c
      have := (h i).2 (.inr ⟨h1, h2, h3⟩)
      exact ⟨i, this.1, this.2.1, this.2.2, e⟩
/-- one free run less -/
theorem freeL_less {own : Nat} {R S : Runs} {x y g f k z : Nat} (h : ∀ i, (i < f ∧ S i = some (k, false) ∧ i ≠ y) ↔ (i ≠ z ∧ i < g ∧ R i = some (k, false) ∧ i ≠ x)) :
    freeL own S y f k = (freeL own R x g k).erase ((own + z) * 4096) := by
  have hs := freeL_sorted own R x g k
  refine sorted_ext (freeL_sorted _ _ _ _ _) (List.Pairwise.sublist List.erase_sublist hs) fun a => ?_
  rw [(sorted_nodup hs).mem_erase_iff, freeL_mem]
  constructor
  · rintro ⟨i, h1, h2, h3, e⟩
    have := (h i).1 ⟨h1, h2, h3⟩
    rw [← e]
    exact ⟨fun c => this.1 (by omega), freeL_at.2 this.2⟩
  · rintro ⟨c, d⟩
    obtain ⟨i, h1, h2, h3, e⟩ := freeL_mem.1 d
    have := (h i).2 ⟨fun q => c (by rw [← e, q]), h1, h2, h3⟩
    exact ⟨i, this.1, this.2.1, this.2.2, e⟩
end Go.Proofs.YtfemgekhpcgliaaGreat.Bt
