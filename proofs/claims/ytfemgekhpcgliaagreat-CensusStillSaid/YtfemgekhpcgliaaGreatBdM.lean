/- The plain mathematics of a buddy: runs one behind the other, the free ones put together as far as may be. -/
import Derived.Test.YtfemgekhpcgliaaGreatArMath
namespace Go.Proofs.YtfemgekhpcgliaaGreat.Bt
open Go Go.RowKit Go.Shelf
set_option linter.unusedVariables false

/-- the page at which the run begins that makes with this one a run of the next order -/
def twin (p k : Nat) : Nat := if p % 2 ^ (k + 1) = 0 then p + 2 ^ k else p - 2 ^ k
theorem pow2_pos (k : Nat) : 0 < 2 ^ k := Nat.pos_of_ne_zero (by simp)
theorem pow2_succ (k : Nat) : 2 ^ (k + 1) = 2 ^ k + 2 ^ k := by rw [Nat.pow_succ]; omega
theorem mod_half {p k : Nat} (h : p % 2 ^ (k + 1) = 0) : p % 2 ^ k = 0 := Nat.mod_eq_zero_of_dvd (Nat.dvd_trans (Nat.pow_dvd_pow 2 (Nat.le_succ k)) (Nat.dvd_of_mod_eq_zero h))
theorem mod_less {p k l : Nat} (hl : l ≤ k) (h : p % 2 ^ k = 0) : p % 2 ^ l = 0 := Nat.mod_eq_zero_of_dvd (Nat.dvd_trans (Nat.pow_dvd_pow 2 hl) (Nat.dvd_of_mod_eq_zero h))
/-- of a multiple of 2^k: a multiple of twice that, or behind one -/
theorem two_cases {p k : Nat} (h : p % 2 ^ k = 0) : p % 2 ^ (k + 1) = 0 ∨ (2 ^ k ≤ p ∧ (p - 2 ^ k) % 2 ^ (k + 1) = 0) := by
  obtain ⟨q, rfl⟩ := Nat.dvd_of_mod_eq_zero h
  rcases Nat.mod_two_eq_zero_or_one q with e | e
  · exact .inl (by rw [Nat.pow_succ, Nat.mul_mod_mul_left, e, Nat.mul_zero])
  · refine .inr ⟨Nat.le_mul_of_pos_right _ (by omega), ?_⟩
    rw [show 2 ^ k * q - 2 ^ k = 2 ^ k * (q - 1) from by rw [Nat.mul_sub, Nat.mul_one], Nat.pow_succ, Nat.mul_mod_mul_left, show (q - 1) % 2 = 0 from by omega, Nat.mul_zero]
/-- two multiples of n less than n from one another are the same -/
theorem mul_near {a b n : Nat} (ha : a % n = 0) (hb : b % n = 0) (h1 : a < b + n) (h2 : b < a + n) : a = b := by
  obtain ⟨x, rfl⟩ := Nat.dvd_of_mod_eq_zero ha
  obtain ⟨y, rfl⟩ := Nat.dvd_of_mod_eq_zero hb
  have h3 : x < y + 1 := Nat.lt_of_mul_lt_mul_left (a := n) (by rw [Nat.mul_add, Nat.mul_one]; exact h1)
  have h4 : y < x + 1 := Nat.lt_of_mul_lt_mul_left (a := n) (by rw [Nat.mul_add, Nat.mul_one]; exact h2)
  rw [show x = y from by omega]
/-- a run that has a page of another one that isn't longer, has all of it -/
theorem run_nest {i l b k p : Nat} (hi : i % 2 ^ l = 0) (hb : b % 2 ^ k = 0) (hkl : k ≤ l) (h1 : i ≤ p) (h2 : p < i + 2 ^ l) (h3 : b ≤ p) (h4 : p < b + 2 ^ k) : i ≤ b ∧ b + 2 ^ k ≤ i + 2 ^ l := by
  have hi' := mod_less hkl hi
  have hd : 2 ^ k ∣ 2 ^ l := Nat.pow_dvd_pow 2 hkl
  obtain ⟨x, hx⟩ := Nat.dvd_of_mod_eq_zero hi'
  obtain ⟨y, hy⟩ := Nat.dvd_of_mod_eq_zero hb
  obtain ⟨z, hz⟩ := hd
  have e1 : x < y + 1 := Nat.lt_of_mul_lt_mul_left (a := 2 ^ k) (by rw [Nat.mul_add, Nat.mul_one, ← hx, ← hy]; omega)
  have e2 : y < x + z := Nat.lt_of_mul_lt_mul_left (a := 2 ^ k) (by rw [Nat.mul_add, ← hx, ← hy, ← hz]; omega)
  have e3 : 2 ^ k * x ≤ 2 ^ k * y := Nat.mul_le_mul_left _ (by omega)
  have e4 : 2 ^ k * (y + 1) ≤ 2 ^ k * (x + z) := Nat.mul_le_mul_left _ (by omega)
  rw [Nat.mul_add, Nat.mul_one, Nat.mul_add, ← hx, ← hy, ← hz] at e4
  rw [← hx, ← hy] at e3
  exact ⟨e3, e4⟩

/-- runs, told by where they begin: their order, and whether they are taken -/
abbrev Runs := Nat → Option (Nat × Bool)
/-- the runs of the first g pages, one behind the other -/
structure Tile (g : Nat) (R : Runs) : Prop where
  al : ∀ i k t, R i = some (k, t) → k ≤ 10 ∧ i % 2 ^ k = 0 ∧ i + 2 ^ k ≤ g
  cv : ∀ p, p < g → ∃ i k t, R i = some (k, t) ∧ i ≤ p ∧ p < i + 2 ^ k
  dj : ∀ i k t j l u, R i = some (k, t) → R j = some (l, u) → i < j → i + 2 ^ k ≤ j
/-- no free ones could be put together, but for the one at x -/
structure Til (g : Nat) (R : Runs) (x : Nat) : Prop extends Tile g R where
  mx : ∀ i k, R i = some (k, false) → k < 10 → i ≠ x → twin i k ≠ x → R (twin i k) ≠ some (k, false)
theorem Til.lt {g x i k : Nat} {t : Bool} {R : Runs} (h : Til g R x) (e : R i = some (k, t)) : i < g := by
  have := h.al i k t e; have := pow2_pos k; omega
theorem Til.out {g x i : Nat} {R : Runs} (h : Til g R x) (hi : g ≤ i) : R i = none := by
  cases e : R i with
  | none => rfl
  | some y => exact absurd (h.lt (t := y.2) (k := y.1) e) (by omega)
/-- the run in which a page is is one -/
theorem Til.one {g x i j k l p : Nat} {t u : Bool} {R : Runs} (h : Til g R x) (e : R i = some (k, t)) (f : R j = some (l, u)) (h1 : i ≤ p) (h2 : p < i + 2 ^ k) (h3 : j ≤ p) (h4 : p < j + 2 ^ l) : i = j ∧ k = l ∧ t = u := by
  have : i = j := by
    rcases Nat.lt_trichotomy i j with c | c | c
    · have := h.dj _ _ _ _ _ _ e f c; omega
    · exact c
    · have := h.dj _ _ _ _ _ _ f e c; omega
  subst this
  rw [e] at f
  simp only [Option.some.injEq, Prod.mk.injEq] at f
  exact ⟨rfl, f.1, f.2⟩
/-- is a page in no taken run? -/
def FreeAt (R : Runs) (p : Nat) : Prop := ∀ i k, R i = some (k, true) → ¬ (i ≤ p ∧ p < i + 2 ^ k)
theorem twin_low {p k : Nat} (h : p % 2 ^ (k + 1) = 0) : twin p k = p + 2 ^ k := if_pos h
theorem twin_high {p k : Nat} (h : p % 2 ^ (k + 1) = 0) : twin (p + 2 ^ k) k = p := by
  unfold twin
  have h1 := pow2_pos k
  rw [if_neg (fun e => by
    have := mul_near (n := 2 ^ (k + 1)) e h (by rw [pow2_succ]; omega) (by rw [pow2_succ]; omega)
    omega)]
  omega
/-- all pages of a block are free: it is in one free run -/
theorem block_in {g : Nat} {R : Runs} (h : Til g R g) : ∀ (k b : Nat), k ≤ 10 → b % 2 ^ k = 0 → b + 2 ^ k ≤ g → (∀ p, b ≤ p → p < b + 2 ^ k → FreeAt R p) →
    ∃ i l, R i = some (l, false) ∧ k ≤ l ∧ i ≤ b ∧ b + 2 ^ k ≤ i + 2 ^ l
  | 0, b, _, hb, hg, hf => by
    rw [Nat.pow_zero] at hg
    obtain ⟨i, l, t, e, h1, h2⟩ := h.cv b (by omega)
    cases t with
    | true => exact absurd ⟨h1, h2⟩ (hf b (Nat.le_refl _) (by simp) i l e)
    | false => exact ⟨i, l, e, Nat.zero_le _, h1, by rw [Nat.pow_zero]; omega⟩
  | k + 1, b, hk, hb, hg, hf => by
    have hp := pow2_succ k
    have h0 := pow2_pos k
    rw [hp] at hg hf
    have hb' := mod_half hb
    have hc' : (b + 2 ^ k) % 2 ^ k = 0 := by rw [Nat.add_mod_right]; exact hb'
    obtain ⟨i, l, e, h1, h2, h3⟩ := block_in h k b (by omega) hb' (by omega) (fun p p1 p2 => hf p p1 (by omega))
    obtain ⟨j, m, f, h4, h5, h6⟩ := block_in h k (b + 2 ^ k) (by omega) hc' (by omega) (fun p p1 p2 => hf p (by omega) (by omega))
    have ai := h.al _ _ _ e
    have aj := h.al _ _ _ f
    by_cases c1 : k + 1 ≤ l
    · have := run_nest (p := b) ai.2.1 hb c1 h2 (by omega) (Nat.le_refl _) (by rw [hp]; omega)
      exact ⟨i, l, e, c1, this.1, this.2⟩
    · by_cases c2 : k + 1 ≤ m
      · have := run_nest (p := b + 2 ^ k) aj.2.1 hb c2 h5 (by omega) (by omega) (by rw [hp]; omega)
        exact ⟨j, m, f, c2, this.1, this.2⟩
      · have el : l = k := by omega
        have em : m = k := by omega
        subst el; subst em
        have ei : i = b := by omega
        have ej : j = b + 2 ^ m := by omega
        subst ei; subst ej
        refine absurd (by rw [twin_low hb]; exact f) (h.mx i m e (by omega) (by have := h.lt e; omega) (by rw [twin_low hb]; have := h.lt f; omega))
/-- a free run isn't the beginning of a greater block that is free -/
theorem Til.great {g i k : Nat} {R : Runs} (h : Til g R g) (e : R i = some (k, false)) (hk : k < 10) (hi : i % 2 ^ (k + 1) = 0) (hg : i + 2 ^ (k + 1) ≤ g) : ¬ ∀ p, i ≤ p → p < i + 2 ^ (k + 1) → FreeAt R p := fun hf => by
  obtain ⟨j, l, f, h1, h2, h3⟩ := block_in h (k + 1) i (by omega) hi hg hf
  have h0 := pow2_pos k
  have h4 := pow2_pos (k + 1)
  have := h.one (p := i) e f (Nat.le_refl _) (by omega) h2 (by omega)
  omega
theorem Til.free {g x i k p : Nat} {R : Runs} (h : Til g R x) (e : R i = some (k, false)) (h1 : i ≤ p) (h2 : p < i + 2 ^ k) : FreeAt R p := fun j l f hc => by
  have := (h.one e f h1 h2 hc.1 hc.2).2.2
  cases this
end Go.Proofs.YtfemgekhpcgliaaGreat.Bt
