/- The lists of a buddy's free runs behind each step: a run freed, put together, halved, taken; more and less of them. -/
import Derived.Test.YtfemgekhpcgliaaGreatBdO
namespace Go.Proofs.YtfemgekhpcgliaaGreat.Bt
open Go Go.RowKit Go.Shelf
set_option linter.unusedVariables false

theorem some_of {a b : Nat} {t u : Bool} (h : (some (a, t) : Option (Nat × Bool)) = some (b, u)) : a = b ∧ t = u := by
  simp only [Option.some.injEq, Prod.mk.injEq] at h; exact h
theorem free_freed {own g x k : Nat} {R : Runs} (h : Til g R g) (e : R x = some (k, true)) (j : Nat) : freeL own (layR R x k false) x g j = freeL own R g g j :=
  freeL_same fun i => ⟨fun ⟨h1, h2, h3⟩ => by
    rcases layR_back h2 with ⟨c, _⟩ | ⟨_, c⟩
    · exact absurd c h3
    · exact ⟨h1, c, by omega⟩, fun ⟨h1, h2, h3⟩ => by
    have c : i ≠ x := fun c => by rw [c, e] at h2; have := (some_of h2).2; cases this
    exact ⟨h1, h.toTile.fwd e c h2, c⟩⟩
theorem free_pick {own g x k : Nat} {R : Runs} (h : Til g R g) (e : R x = some (k, false)) : freeL own R x g k = (freeL own R g g k).erase ((own + x) * 4096) :=
  freeL_less fun i => ⟨fun ⟨h1, h2, h3⟩ => ⟨h3, h1, h2, by omega⟩, fun ⟨h1, h2, h3, _⟩ => ⟨h2, h3, h1⟩⟩
theorem free_pick' {own g x k j : Nat} {R : Runs} (h : Til g R g) (e : R x = some (k, false)) (hj : j ≠ k) : freeL own R x g j = freeL own R g g j :=
  freeL_same fun i => ⟨fun ⟨h1, h2, h3⟩ => ⟨h1, h2, by omega⟩, fun ⟨h1, h2, _⟩ => ⟨h1, h2, fun c => by rw [c, e] at h2; exact hj (some_of h2).1.symm⟩⟩
theorem free_stop {own g x k : Nat} {R : Runs} (h : Til g R x) (e : R x = some (k, false)) : freeL own R g g k = ins ((own + x) * 4096) (freeL own R x g k) :=
  freeL_ins (fun c => c.2.2 rfl) fun i => ⟨fun ⟨h1, h2, h3⟩ => by
    by_cases c : i = x
    · exact .inl c
    · exact .inr ⟨h1, h2, c⟩, fun c => by
    rcases c with c | ⟨h1, h2, _⟩
    · subst c; exact ⟨h.lt e, e, Nat.ne_of_lt (h.lt e)⟩
    · exact ⟨h1, h2, by omega⟩⟩
theorem free_stop' {own g x k j : Nat} {R : Runs} (h : Til g R x) (e : R x = some (k, false)) (hj : j ≠ k) : freeL own R g g j = freeL own R x g j :=
  freeL_same fun i => ⟨fun ⟨h1, h2, h3⟩ => ⟨h1, h2, fun c => by rw [c, e] at h2; exact hj (some_of h2).1.symm⟩, fun ⟨h1, h2, _⟩ => ⟨h1, h2, by omega⟩⟩
theorem free_take {own g x k j : Nat} {R : Runs} (h : Til g R x) (e : R x = some (k, false)) : freeL own (layR R x k true) g g j = freeL own R x g j :=
  freeL_same fun i => ⟨fun ⟨h1, h2, h3⟩ => by
    rcases layR_back h2 with ⟨_, _, c⟩ | ⟨d, c⟩
    · cases c
    · exact ⟨h1, c, d⟩, fun ⟨h1, h2, h3⟩ => ⟨h1, h.toTile.fwd e h3 h2, by omega⟩⟩
theorem free_more {own g k j : Nat} {u : Bool} {R : Runs} (h : Til g R g) : freeL own (layR R g k u) g (g + 2 ^ k) j = freeL own R g g j :=
  freeL_same fun i => ⟨fun ⟨h1, h2, h3⟩ => by
    rcases layR_back h2 with ⟨c, _⟩ | ⟨_, c⟩
    · exact absurd c h3
    · exact ⟨h.lt c, c, h3⟩, fun ⟨h1, h2, h3⟩ => ⟨Nat.lt_add_right _ h1, by rw [layR_out (.inl h1)]; exact h2, h3⟩⟩
theorem free_less {own g i k j : Nat} {t : Bool} {R : Runs} (h : Til g R g) (e : R i = some (k, t)) (hi : i + 2 ^ k = g) : freeL own (lessR R i) i i j = freeL own R i g j :=
  freeL_same fun p => by
    have h0 := pow2_pos k
    unfold lessR
    constructor
    · rintro ⟨h1, h2, h3⟩
      rw [if_neg h3] at h2
      exact ⟨by omega, h2, h3⟩
    · rintro ⟨h1, h2, h3⟩
      rw [if_neg h3]
      refine ⟨?_, h2, h3⟩
      rcases Nat.lt_or_gt_of_ne h3 with d | d
      · exact d
      · have := h.dj _ _ _ _ _ _ e h2 d; omega
theorem half_back {R : Runs} {i k p l : Nat} {t u : Bool} (h : halfR R i k u p = some (l, t)) : (p = i ∧ l = k ∧ t = u) ∨ (p ≠ i ∧ p = i + 2 ^ k ∧ l = k ∧ t = false) ∨ (p ≠ i ∧ p ≠ i + 2 ^ k ∧ R p = some (l, t)) := by
  unfold halfR at h
  split at h
  · have := some_of h; exact .inl ⟨by assumption, this.1.symm, this.2.symm⟩
  · split at h
    · have := some_of h; exact .inr (.inl ⟨by assumption, by assumption, this.1.symm, this.2.symm⟩)
    · exact .inr (.inr ⟨by assumption, by assumption, h⟩)
theorem half_in {g i k : Nat} {t : Bool} {R : Runs} (h : Tile g R) (e : R i = some (k + 1, t)) : R (i + 2 ^ k) = Option.none := by
  cases c : R (i + 2 ^ k) with
  | none => rfl
  | some y =>
    have h0 := pow2_pos k
    have hp := pow2_succ k
    have := h.dj _ _ _ _ y.1 y.2 e c (by omega)
    omega
theorem free_half {own g i k : Nat} {t : Bool} {R : Runs} (h : Til g R i) (e : R i = some (k + 1, t)) : freeL own (halfR R i k false) i g k = ins ((own + (i + 2 ^ k)) * 4096) (freeL own R i g k) := by
  have h0 := pow2_pos k
  have hp := pow2_succ k
  have ai := h.al _ _ _ e
  have hn := half_in h.toTile e
  refine freeL_ins (fun c => by rw [hn] at c; cases c.2.1) fun p => ⟨fun ⟨h1, h2, h3⟩ => ?_, fun c => ?_⟩
  · rcases half_back h2 with ⟨c, _⟩ | ⟨_, c, _⟩ | ⟨_, _, c⟩
    · exact absurd c h3
    · exact .inl c
    · exact .inr ⟨h1, c, h3⟩
  · rcases c with c | ⟨h1, h2, h3⟩
    · subst c
      exact ⟨by omega, by unfold halfR; rw [if_neg (by omega), if_pos rfl], by omega⟩
    · exact ⟨h1, by unfold halfR; rw [if_neg h3, if_neg (fun c => by rw [c, hn] at h2; cases h2)]; exact h2, h3⟩
theorem free_half' {own g i k j : Nat} {t : Bool} {R : Runs} (h : Til g R i) (e : R i = some (k + 1, t)) (hj : j ≠ k) : freeL own (halfR R i k false) i g j = freeL own R i g j := by
  have hn := half_in h.toTile e
  refine freeL_same fun p => ⟨fun ⟨h1, h2, h3⟩ => ?_, fun ⟨h1, h2, h3⟩ => ?_⟩
  · rcases half_back h2 with ⟨c, _⟩ | ⟨_, _, c, _⟩ | ⟨_, _, c⟩
    · exact absurd c h3
    · exact absurd c hj
    · exact ⟨h1, c, h3⟩
  · exact ⟨h1, by unfold halfR; rw [if_neg h3, if_neg (fun c => by rw [c, hn] at h2; cases h2)]; exact h2, h3⟩
/-- of what is put together: the first half, and that both are of that order -/
theorem join_of {g x k : Nat} {R : Runs} (h : Tile g R) (e : R x = some (k, false)) (f : R (twin x k) = some (k, false)) :
    ∃ i, min x (twin x k) = i ∧ i % 2 ^ (k + 1) = 0 ∧ R i = some (k, false) ∧ R (i + 2 ^ k) = some (k, false) ∧ ((x = i ∧ twin x k = i + 2 ^ k) ∨ (x = i + 2 ^ k ∧ twin x k = i)) := by
  have h0 := pow2_pos k
  rcases two_cases (h.al _ _ _ e).2.1 with z | ⟨z1, z2⟩
  · rw [twin_low z] at f ⊢
    exact ⟨x, by omega, z, e, f, .inl ⟨rfl, rfl⟩⟩
  · have tw := twin_high z2
    rw [Nat.sub_add_cancel z1] at tw
    rw [tw] at f ⊢
    exact ⟨x - 2 ^ k, by omega, z2, f, by rw [Nat.sub_add_cancel z1]; exact e, .inr ⟨by omega, rfl⟩⟩
theorem join_out {g i k p l : Nat} {t u : Bool} {R : Runs} (h : Tile g R) (e : R i = some (k, t)) (f : R (i + 2 ^ k) = some (k, u)) {v : Bool} (c : R p = some (l, v)) (h1 : p ≠ i) (h2 : p ≠ i + 2 ^ k) : p < i ∨ i + 2 ^ (k + 1) ≤ p := by
  have hp := pow2_succ k
  rcases Nat.lt_or_gt_of_ne h1 with d | d
  · exact .inl d
  · have h3 := h.dj _ _ _ _ _ _ e c d
    have h4 := h.dj _ _ _ _ _ _ f c (by omega)
    omega
theorem free_join {own g x k : Nat} {R : Runs} (h : Til g R x) (e : R x = some (k, false)) (f : R (twin x k) = some (k, false)) :
    freeL own (layR R (min x (twin x k)) (k + 1) false) (min x (twin x k)) g k = (freeL own R x g k).erase ((own + twin x k) * 4096) := by
  obtain ⟨i, em, hi, e1, e2, hx⟩ := join_of h.toTile e f
  rw [em]
  have hp := pow2_succ k
  have h0 := pow2_pos k
  refine freeL_less fun p => ⟨fun ⟨h1, h2, h3⟩ => ?_, fun ⟨h1, h2, h3, h4⟩ => ?_⟩
  · rcases layR_some h2 with ⟨c, _⟩ | ⟨c0, c⟩
    · exact absurd c h3
    · exact ⟨by omega, h1, c, by omega⟩
  · have := join_out h.toTile e1 e2 h3 (by omega) (by omega)
    exact ⟨h2, by rw [layR_out this]; exact h3, by omega⟩
theorem free_join' {own g x k j : Nat} {R : Runs} (h : Til g R x) (e : R x = some (k, false)) (f : R (twin x k) = some (k, false)) (hj : j ≠ k) :
    freeL own (layR R (min x (twin x k)) (k + 1) false) (min x (twin x k)) g j = freeL own R x g j := by
  obtain ⟨i, em, hi, e1, e2, hx⟩ := join_of h.toTile e f
  rw [em]
  have hp := pow2_succ k
  have h0 := pow2_pos k
  refine freeL_same fun p => ⟨fun ⟨h1, h2, h3⟩ => ?_, fun ⟨h1, h2, h3⟩ => ?_⟩
  · rcases layR_some h2 with ⟨c, _⟩ | ⟨c0, c⟩
    · exact absurd c h3
    · exact ⟨h1, c, by omega⟩
  · have n1 : p ≠ i := fun c => by rw [c, e1] at h2; exact hj (some_of h2).1.symm
    have n2 : p ≠ i + 2 ^ k := fun c => by rw [c, e2] at h2; exact hj (some_of h2).1.symm
    exact ⟨h1, by rw [layR_out (join_out h.toTile e1 e2 h2 n1 n2)]; exact h2, n1⟩
end Go.Proofs.YtfemgekhpcgliaaGreat.Bt
