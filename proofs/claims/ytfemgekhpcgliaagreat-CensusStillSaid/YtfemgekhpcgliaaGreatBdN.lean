/- Runs of a buddy: halved, taken, freed, put together; more and less of them. -/
import Derived.Test.YtfemgekhpcgliaaGreatBdM
namespace Go.Proofs.YtfemgekhpcgliaaGreat.Bt
open Go Go.RowKit Go.Shelf
set_option linter.unusedVariables false

/-- a run laid: none begins inside it -/
def layR (R : Runs) (i k : Nat) (t : Bool) : Runs := fun p => if p = i then some (k, t) else if i < p ∧ p < i + 2 ^ k then none else R p
theorem layR_self (R : Runs) (i k : Nat) (t : Bool) : layR R i k t i = some (k, t) := if_pos rfl
theorem layR_out {R : Runs} {i k p : Nat} {t : Bool} (h : p < i ∨ i + 2 ^ k ≤ p) : layR R i k t p = R p := by
  have := pow2_pos k
  unfold layR
  rw [if_neg (by omega), if_neg (by omega)]
theorem layR_in {R : Runs} {i k p : Nat} {t : Bool} (h1 : i < p) (h2 : p < i + 2 ^ k) : layR R i k t p = none := by
  unfold layR
  rw [if_neg (by omega), if_pos ⟨h1, h2⟩]
theorem layR_some {R : Runs} {i k p l : Nat} {t u : Bool} (h : layR R i k t p = some (l, u)) : (p = i ∧ l = k ∧ u = t) ∨ ((p < i ∨ i + 2 ^ k ≤ p) ∧ R p = some (l, u)) := by
  unfold layR at h
  split at h
  · simp only [Option.some.injEq, Prod.mk.injEq] at h
    exact .inl ⟨by assumption, h.1.symm, h.2.symm⟩
  · split at h
    · cases h
    · exact .inr ⟨by omega, h⟩
theorem twin_twin {p k : Nat} (h : p % 2 ^ k = 0) : twin (twin p k) k = p := by
  rcases two_cases h with z | ⟨z1, z2⟩
  · rw [twin_low z]; exact twin_high z
  · have := twin_high z2
    rw [Nat.sub_add_cancel z1] at this
    rw [this, twin_low z2]; omega
theorem twin_ne {p k : Nat} (h : p % 2 ^ k = 0) : twin p k ≠ p := by
  have := pow2_pos k
  rcases two_cases h with z | ⟨z1, z2⟩
  · rw [twin_low z]; omega
  · have := twin_high z2
    rw [Nat.sub_add_cancel z1] at this
    omega
/-- laid over a run, in its place: the others are the same -/
theorem Tile.fwd {g i k : Nat} {t u : Bool} {R : Runs} (h : Tile g R) (e : R i = some (k, t)) {j l : Nat} {v : Bool} (hj : j ≠ i) (c : R j = some (l, v)) : layR R i k u j = some (l, v) := by
  rw [layR_out (by
    rcases Nat.lt_or_gt_of_ne hj with d | d
    · exact .inl d
    · exact .inr (h.dj _ _ _ _ _ _ e c d))]
  exact c
theorem layR_back {R : Runs} {i k j l : Nat} {u v : Bool} (h : layR R i k u j = some (l, v)) : (j = i ∧ l = k ∧ v = u) ∨ (j ≠ i ∧ R j = some (l, v)) := by
  have := pow2_pos k
  rcases layR_some h with c | ⟨c, c2⟩
  · exact .inl c
  · exact .inr ⟨by omega, c2⟩
theorem Tile.same {g i k : Nat} {t u : Bool} {R : Runs} (h : Tile g R) (e : R i = some (k, t)) : Tile g (layR R i k u) := by
  refine ⟨fun j l v hj => ?_, fun p hp => ?_, fun j l v j' l' v' hj hj' hlt => ?_⟩
  · rcases layR_back hj with ⟨rfl, rfl, rfl⟩ | ⟨_, c⟩
    · exact h.al _ _ _ e
    · exact h.al _ _ _ c
  · obtain ⟨j, l, v, c, h1, h2⟩ := h.cv p hp
    by_cases d : j = i
    · subst d
      rw [e] at c
      simp only [Option.some.injEq, Prod.mk.injEq] at c
      exact ⟨j, k, u, layR_self _ _ _ _, h1, by rw [c.1]; exact h2⟩
    · exact ⟨j, l, v, h.fwd e d c, h1, h2⟩
  · rcases layR_back hj with ⟨rfl, rfl, rfl⟩ | ⟨_, c⟩ <;> rcases layR_back hj' with ⟨rfl, rfl, rfl⟩ | ⟨_, c'⟩
    · omega
    · exact h.dj _ _ _ _ _ _ e c' hlt
    · exact h.dj _ _ _ _ _ _ c e hlt
    · exact h.dj _ _ _ _ _ _ c c' hlt
/-- a taken run is freed -/
theorem Til.freed {g i k : Nat} {R : Runs} (h : Til g R g) (e : R i = some (k, true)) : Til g (layR R i k false) i :=
  ⟨h.toTile.same e, fun j l hj hl hji hti hn => by
    rcases layR_back hj with ⟨c, _⟩ | ⟨_, c⟩
    · exact hji c
    rcases layR_back hn with ⟨d, _⟩ | ⟨_, d⟩
    · exact hti d
    exact h.mx j l c hl (by have := h.lt c; omega) (by have := h.lt d; omega) d⟩
/-- what is freed can't be put together any more -/
theorem Til.stop {g x k : Nat} {R : Runs} (h : Til g R x) (e : R x = some (k, false)) (hs : k < 10 → R (twin x k) ≠ some (k, false)) : Til g R g :=
  ⟨h.toTile, fun j l hj hl _ _ hn => by
    by_cases c : j = x
    · subst c
      rw [e] at hj
      simp only [Option.some.injEq, Prod.mk.injEq, and_true] at hj
      subst hj
      exact hs hl hn
    · by_cases d : twin j l = x
      · rw [d, e] at hn
        simp only [Option.some.injEq, Prod.mk.injEq, and_true] at hn
        subst hn
        refine hs hl ?_
        rw [← d, twin_twin (h.al _ _ _ hj).2.1]
        exact hj
      · exact h.mx j l hj hl c d hn⟩
/-- a free run is taken -/
theorem Til.take {g x k : Nat} {R : Runs} (h : Til g R x) (e : R x = some (k, false)) : Til g (layR R x k true) g :=
  ⟨h.toTile.same e, fun j l hj hl _ _ hn => by
    rcases layR_back hj with ⟨_, _, c⟩ | ⟨c0, c⟩
    · cases c
    rcases layR_back hn with ⟨_, _, d⟩ | ⟨d0, d⟩
    · cases d
    exact h.mx j l c hl c0 d0 d⟩
theorem Til.at {g x : Nat} {R : Runs} (h : Til g R g) : Til g R x := ⟨h.toTile, fun j l hj hl _ _ hn => h.mx j l hj hl (by have := h.lt hj; omega) (by have := h.lt hn; omega) hn⟩
/-- two runs are one -/
theorem Tile.join {g i k : Nat} {t u v : Bool} {R : Runs} (h : Tile g R) (e : R i = some (k, t)) (f : R (i + 2 ^ k) = some (k, u)) (hk : k < 10) (hi : i % 2 ^ (k + 1) = 0) : Tile g (layR R i (k + 1) v) := by
  have h0 := pow2_pos k
  have hp := pow2_succ k
  have ai := h.al _ _ _ e
  have aj := h.al _ _ _ f
  have far : ∀ j l w, R j = some (l, w) → j ≠ i → j ≠ i + 2 ^ k → j < i ∨ i + 2 ^ (k + 1) ≤ j := fun j l w c n1 n2 => by
    rcases Nat.lt_or_gt_of_ne n1 with d | d
    · exact .inl d
    · have h1 := h.dj _ _ _ _ _ _ e c d
      have h2 := h.dj _ _ _ _ _ _ f c (by omega)
      omega
  refine ⟨fun j l w hj => ?_, fun p hp' => ?_, fun j l w j' l' w' hj hj' hlt => ?_⟩
  · rcases layR_back hj with ⟨rfl, rfl, rfl⟩ | ⟨_, c⟩
    · exact ⟨by omega, hi, by omega⟩
    · exact h.al _ _ _ c
  · obtain ⟨j, l, w, c, h1, h2⟩ := h.cv p hp'
    by_cases d : j = i
    · subst d
      rw [e] at c
      simp only [Option.some.injEq, Prod.mk.injEq] at c
      exact ⟨j, k + 1, v, layR_self _ _ _ _, h1, by rw [← c.1] at h2; omega⟩
    · by_cases d2 : j = i + 2 ^ k
      · subst d2
        rw [f] at c
        simp only [Option.some.injEq, Prod.mk.injEq] at c
        obtain ⟨rfl, _⟩ := c
        exact ⟨i, k + 1, v, layR_self _ _ _ _, by omega, by omega⟩
      · exact ⟨j, l, w, by rw [layR_out (far _ _ _ c d d2)]; exact c, h1, h2⟩
  · have back : ∀ j l w, layR R i (k + 1) v j = some (l, w) → (j = i ∧ l = k + 1) ∨ ((j < i ∨ i + 2 ^ (k + 1) ≤ j) ∧ R j = some (l, w)) := fun j l w c => by
      rcases layR_some c with ⟨d, d2, _⟩ | d
      · exact .inl ⟨d, d2⟩
      · exact .inr d
    rcases back _ _ _ hj with ⟨rfl, rfl⟩ | ⟨c0, c⟩ <;> rcases back _ _ _ hj' with ⟨rfl, rfl⟩ | ⟨c0', c'⟩
    · omega
    · omega
    · exact h.dj _ _ _ _ _ _ c e hlt
    · exact h.dj _ _ _ _ _ _ c c' hlt
/-- what is freed, put together with its twin -/
theorem Til.join {g x k : Nat} {R : Runs} (h : Til g R x) (e : R x = some (k, false)) (f : R (twin x k) = some (k, false)) (hk : k < 10) : Til g (layR R (min x (twin x k)) (k + 1) false) (min x (twin x k)) := by
  have h0 := pow2_pos k
  have ai := (h.al _ _ _ e).2.1
  have : ∃ i, min x (twin x k) = i ∧ i % 2 ^ (k + 1) = 0 ∧ R i = some (k, false) ∧ R (i + 2 ^ k) = some (k, false) ∧ (x = i ∨ x = i + 2 ^ k) := by
    rcases two_cases ai with z | ⟨z1, z2⟩
    · rw [twin_low z] at f ⊢
      exact ⟨x, by omega, z, e, f, .inl rfl⟩
    · have tw := twin_high z2
      rw [Nat.sub_add_cancel z1] at tw
      rw [tw] at f ⊢
      exact ⟨x - 2 ^ k, by omega, z2, f, by rw [Nat.sub_add_cancel z1]; exact e, .inr (by omega)⟩
  obtain ⟨i, em, hi, e1, e2, hx⟩ := this
  rw [em]
  refine ⟨h.toTile.join e1 e2 hk hi, fun j l hj hl hji hti hn => ?_⟩
  have hp := pow2_succ k
  rcases layR_some hj with ⟨c, _⟩ | ⟨c0, c⟩
  · exact hji c
  rcases layR_some hn with ⟨d, _⟩ | ⟨d0, d⟩
  · exact hti d
  exact h.mx j l c hl (by omega) (by omega) d
/-- a run halved: the second half is a free one -/
def halfR (R : Runs) (i k : Nat) (t : Bool) : Runs := fun p => if p = i then some (k, t) else if p = i + 2 ^ k then some (k, false) else R p
theorem Tile.half {g i k : Nat} {t u : Bool} {R : Runs} (h : Tile g R) (e : R i = some (k + 1, t)) : Tile g (halfR R i k u) := by
  have h0 := pow2_pos k
  have hp := pow2_succ k
  have ai := h.al _ _ _ e
  have hm := mod_half ai.2.1
  have far : ∀ j l w, R j = some (l, w) → j ≠ i → j < i ∨ i + 2 ^ (k + 1) ≤ j := fun j l w c n1 => by
    rcases Nat.lt_or_gt_of_ne n1 with d | d
    · exact .inl d
    · exact .inr (h.dj _ _ _ _ _ _ e c d)
  have back : ∀ j l w, halfR R i k u j = some (l, w) → (j = i ∧ l = k) ∨ (j = i + 2 ^ k ∧ l = k) ∨ ((j < i ∨ i + 2 ^ (k + 1) ≤ j) ∧ R j = some (l, w)) := fun j l w c => by
    unfold halfR at c
    split at c
    · simp only [Option.some.injEq, Prod.mk.injEq] at c
      exact .inl ⟨by assumption, c.1.symm⟩
    · split at c
      · simp only [Option.some.injEq, Prod.mk.injEq] at c
        exact .inr (.inl ⟨by assumption, c.1.symm⟩)
      · exact .inr (.inr ⟨far _ _ _ c (by assumption), c⟩)
  refine ⟨fun j l w hj => ?_, fun p hp' => ?_, fun j l w j' l' w' hj hj' hlt => ?_⟩
  · rcases back _ _ _ hj with ⟨rfl, rfl⟩ | ⟨rfl, rfl⟩ | ⟨_, c⟩
    · exact ⟨by omega, hm, by omega⟩
    · exact ⟨by omega, by rw [Nat.add_mod_right]; exact hm, by omega⟩
    · exact h.al _ _ _ c
  · obtain ⟨j, l, w, c, h1, h2⟩ := h.cv p hp'
    by_cases d : j = i
    · subst d
      rw [e] at c
      simp only [Option.some.injEq, Prod.mk.injEq] at c
      rw [← c.1] at h2
      by_cases q : p < j + 2 ^ k
      · exact ⟨j, k, u, if_pos rfl, h1, q⟩
      · exact ⟨j + 2 ^ k, k, false, by unfold halfR; rw [if_neg (by omega), if_pos rfl], by omega, by omega⟩
    · have := far _ _ _ c d
      exact ⟨j, l, w, by unfold halfR; rw [if_neg d, if_neg (by omega)]; exact c, h1, h2⟩
  · rcases back _ _ _ hj with ⟨rfl, rfl⟩ | ⟨rfl, rfl⟩ | ⟨c0, c⟩ <;> rcases back _ _ _ hj' with ⟨rfl, rfl⟩ | ⟨rfl, rfl⟩ | ⟨c0', c'⟩ <;> first
      | omega
      | exact h.dj _ _ _ _ _ _ c c' hlt
      | exact h.dj _ _ _ _ _ _ c e hlt
      | (have := h.dj _ _ _ _ _ _ c e (by omega); omega)
theorem Til.half {g i k : Nat} {R : Runs} (h : Til g R i) (e : R i = some (k + 1, false)) : Til g (halfR R i k false) i := by
  have h0 := pow2_pos k
  have hp := pow2_succ k
  have ai := h.al _ _ _ e
  refine ⟨h.toTile.half e, fun j l hj hl hji hti hn => ?_⟩
  unfold halfR at hj hn
  rw [if_neg hji] at hj
  rw [if_neg hti] at hn
  by_cases c : j = i + 2 ^ k
  · rw [if_pos c] at hj
    simp only [Option.some.injEq, Prod.mk.injEq, and_true] at hj
    subst hj
    rw [c, twin_high ai.2.1] at hti
    exact hti rfl
  · rw [if_neg c] at hj
    by_cases d : twin j l = i + 2 ^ k
    · rw [if_pos d] at hn
      simp only [Option.some.injEq, Prod.mk.injEq, and_true] at hn
      subst hn
      have := twin_twin (h.al _ _ _ hj).2.1
      rw [d, twin_high ai.2.1] at this
      exact hji this.symm
    · rw [if_neg d] at hn
      exact h.mx j l hj hl hji hti hn
/-- a run more, behind the others -/
theorem Til.more {g k : Nat} {u : Bool} {R : Runs} (h : Til g R g) (hk : k ≤ 10) (hg : g % 2 ^ k = 0) : Til (g + 2 ^ k) (layR R g k u) g := by
  have h0 := pow2_pos k
  refine ⟨⟨fun j l w hj => ?_, fun p hp' => ?_, fun j l w j' l' w' hj hj' hlt => ?_⟩, fun j l hj hl hji hti hn => ?_⟩
  · rcases layR_some hj with ⟨rfl, rfl, rfl⟩ | ⟨_, c⟩
    · exact ⟨hk, hg, Nat.le_refl _⟩
    · have := h.al _ _ _ c
      exact ⟨this.1, this.2.1, by omega⟩
  · by_cases c : p < g
    · obtain ⟨j, l, w, c, h1, h2⟩ := h.cv p c
      exact ⟨j, l, w, by rw [layR_out (.inl (h.lt c))]; exact c, h1, h2⟩
    · exact ⟨g, k, u, layR_self _ _ _ _, by omega, by omega⟩
  · rcases layR_some hj with ⟨rfl, rfl, rfl⟩ | ⟨_, c⟩ <;> rcases layR_some hj' with ⟨rfl, rfl, rfl⟩ | ⟨_, c'⟩
    · omega
    · have := h.lt c'; omega
    · exact (h.al _ _ _ c).2.2
    · exact h.dj _ _ _ _ _ _ c c' hlt
  · rcases layR_some hj with ⟨c, _⟩ | ⟨_, c⟩
    · exact hji c
    rcases layR_some hn with ⟨d, _⟩ | ⟨_, d⟩
    · exact hti d
    exact h.mx j l c hl hji hti d
/-- the last run is gone -/
def lessR (R : Runs) (i : Nat) : Runs := fun p => if p = i then none else R p
theorem Til.less {g i k : Nat} {t : Bool} {R : Runs} (h : Til g R g) (e : R i = some (k, t)) (hi : i + 2 ^ k = g) : Til i (lessR R i) i := by
  have h0 := pow2_pos k
  have back : ∀ j l w, lessR R i j = some (l, w) → j ≠ i ∧ R j = some (l, w) := fun j l w c => by
    unfold lessR at c
    split at c
    · cases c
    · exact ⟨by assumption, c⟩
  have low : ∀ j l w, lessR R i j = some (l, w) → j < i := fun j l w c => by
    obtain ⟨c0, c⟩ := back _ _ _ c
    rcases Nat.lt_or_gt_of_ne c0 with d | d
    · exact d
    · have := h.dj _ _ _ _ _ _ e c d
      have := h.lt c
      omega
  refine ⟨⟨fun j l w hj => ?_, fun p hp' => ?_, fun j l w j' l' w' hj hj' hlt => ?_⟩, fun j l hj hl hji hti hn => ?_⟩
  · have c := (back _ _ _ hj).2
    have := h.al _ _ _ c
    exact ⟨this.1, this.2.1, h.dj _ _ _ _ _ _ c e (low _ _ _ hj)⟩
  · obtain ⟨j, l, w, c, h1, h2⟩ := h.cv p (by omega)
    exact ⟨j, l, w, by unfold lessR; rw [if_neg (by omega)]; exact c, h1, h2⟩
  · exact h.dj _ _ _ _ _ _ (back _ _ _ hj).2 (back _ _ _ hj').2 hlt
  · have c := (back _ _ _ hj).2
    have d := (back _ _ _ hn).2
    exact h.mx j l c hl (by have := h.lt c; omega) (by have := h.lt d; omega) d
/-- nothing has grown -/
theorem Til.start : Til 0 (fun _ => Option.none) 0 := by
  refine ⟨⟨fun _ _ _ h => (by cases h), fun p h => (by omega), fun _ _ _ _ _ _ h => (by cases h)⟩, fun _ _ h => (by cases h)⟩
end Go.Proofs.YtfemgekhpcgliaaGreat.Bt
