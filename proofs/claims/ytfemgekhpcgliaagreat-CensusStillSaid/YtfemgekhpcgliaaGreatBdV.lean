/- A buddy's runs as rows: by where they begin; the taken ones; the least free one. -/
import Derived.Test.YtfemgekhpcgliaaGreatBdP
namespace Go.Proofs.YtfemgekhpcgliaaGreat.Bt
open Go Go.RowKit Go.Shelf
set_option linter.unusedVariables false

/-- sorted by their first numbers, with the same members: the same -/
theorem pair_ext {α : Type} : ∀ {l m : List (Nat × α)}, l.Pairwise (fun a b => a.1 < b.1) → m.Pairwise (fun a b => a.1 < b.1) → (∀ x, x ∈ l ↔ x ∈ m) → l = m
  | [], [], _, _, _ => rfl
  | [], y :: m, _, _, h => absurd ((h y).2 (List.mem_cons_self ..)) (by simp)
  | x :: l, [], _, _, h => absurd ((h x).1 (List.mem_cons_self ..)) (by simp)
  | x :: l, y :: m, h1, h2, h => by
    rw [List.pairwise_cons] at h1 h2
    have e : x = y := by
      rcases List.mem_cons.1 ((h x).1 (List.mem_cons_self ..)) with c | c
      · exact c
      · rcases List.mem_cons.1 ((h y).2 (List.mem_cons_self ..)) with d | d
        · exact d.symm
        · have := h2.1 x c; have := h1.1 y d; omega
    subst e
    congr 1
    refine pair_ext h1.2 h2.2 fun z => ⟨fun c => ?_, fun c => ?_⟩
    · rcases List.mem_cons.1 ((h z).1 (List.mem_cons_of_mem _ c)) with d | d
      · have := h1.1 z c; rw [d] at this; omega
      · exact d
    · rcases List.mem_cons.1 ((h z).2 (List.mem_cons_of_mem _ c)) with d | d
      · have := h2.1 z c; rw [d] at this; omega
      · exact d
/-- all runs that begin below p, in their order -/
def runL (R : Runs) (p : Nat) : List (Nat × Nat × Bool) := (List.range p).filterMap fun i => (R i).map fun y => (i, y.1, y.2)
theorem runL_zero (R : Runs) : runL R 0 = [] := rfl
theorem runL_succ (R : Runs) (p : Nat) : runL R (p + 1) = runL R p ++ (match R p with | some y => [(p, y.1, y.2)] | none => []) := by
  unfold runL
  rw [List.range_succ, List.filterMap_append]
  congr 1
  rw [List.filterMap_cons]
  cases c : R p <;> simp
theorem runL_mem {R : Runs} {p i k : Nat} {t : Bool} : (i, k, t) ∈ runL R p ↔ i < p ∧ R i = some (k, t) := by
  unfold runL
  rw [List.mem_filterMap]
  constructor
  · rintro ⟨j, hj, e⟩
    rw [Option.map_eq_some_iff] at e
    obtain ⟨y, e1, e2⟩ := e
    simp only [Prod.mk.injEq] at e2
    obtain ⟨rfl, rfl, rfl⟩ := e2
    exact ⟨List.mem_range.1 hj, e1⟩
  · rintro ⟨h1, h2⟩
    exact ⟨i, List.mem_range.2 h1, by rw [h2]; rfl⟩
theorem runL_skip {R : Runs} {p : Nat} : ∀ n : Nat, (∀ q, p ≤ q → q < p + n → R q = Option.none) → runL R (p + n) = runL R p
  | 0, _ => rfl
  | n + 1, h => by
    rw [← Nat.add_assoc, runL_succ, h (p + n) (by omega) (by omega), runL_skip n fun q h1 h2 => h q h1 (by omega)]
    exact List.append_nil _
theorem Tile.none_in {g x k : Nat} {t : Bool} {R : Runs} (h : Tile g R) (e : R x = some (k, t)) (p : Nat) (h1 : x < p) (h2 : p < x + 2 ^ k) : R p = Option.none := by
  cases c : R p with
  | none => rfl
  | some y => have := h.dj _ _ _ _ y.1 y.2 e c h1; omega
/-- from a run to the next one -/
theorem runL_step {g i k : Nat} {t : Bool} {R : Runs} (h : Tile g R) (e : R i = some (k, t)) : runL R (i + 2 ^ k) = runL R i ++ [(i, k, t)] := by
  have h0 := pow2_pos k
  have := runL_skip (R := R) (p := i + 1) (2 ^ k - 1) fun q h1 h2 => h.none_in e q (by omega) (by omega)
  rw [show i + 1 + (2 ^ k - 1) = i + 2 ^ k from by omega] at this
  rw [this, runL_succ, e]
theorem Tile.begins {g p : Nat} {R : Runs} (h : Tile g R) (hp : p < g) (hb : p = 0 ∨ ∃ i k t, R i = some (k, t) ∧ i + 2 ^ k = p) : ∃ k t, R p = some (k, t) := by
  obtain ⟨i, k, t, e, h1, h2⟩ := h.cv p hp
  by_cases c : i = p
  · subst c; exact ⟨k, t, e⟩
  · rcases hb with d | ⟨j, l, u, f, d⟩
    · omega
    · have h3 := pow2_pos l
      rcases Nat.lt_trichotomy i j with q | q | q
      · have := h.dj _ _ _ _ _ _ e f q; omega
      · subst q
        rw [e] at f
        have := (some_of f).1
        subst this
        omega
      · have := h.dj _ _ _ _ _ _ f e q; omega
/-- the greatest order: as long as it isn't reached there is a greater one -/
theorem greedy_more {g x i k j : Nat} {R : Runs} (h : Til g R x) (e : R i = some (k, false)) (hj : j < k) : j < 10 ∧ i % 2 ^ (j + 1) = 0 ∧ i + 2 ^ (j + 1) ≤ g ∧ ∀ p, i ≤ p → p < i + 2 ^ (j + 1) → FreeAt R p := by
  have a := h.al _ _ _ e
  have : 2 ^ (j + 1) ≤ 2 ^ k := Nat.pow_le_pow_right (by omega) hj
  exact ⟨by omega, mod_less hj a.2.1, by omega, fun p h1 h2 => h.free e h1 (by omega)⟩
theorem greedy_end {g i k : Nat} {R : Runs} (h : Til g R g) (e : R i = some (k, false)) : ¬ (k < 10 ∧ i % 2 ^ (k + 1) = 0 ∧ i + 2 ^ (k + 1) ≤ g ∧ ∀ p, i ≤ p → p < i + 2 ^ (k + 1) → FreeAt R p) := fun ⟨h1, h2, h3, h4⟩ => h.great e h1 h2 h3 h4
/-- the taken runs, in their order -/
def tkL (R : Runs) (g : Nat) : List (Nat × Nat) := (runL R g).filterMap fun y => if y.2.2 then some (y.1, y.2.1) else Option.none
theorem tkL_mem {R : Runs} {g i k : Nat} : (i, k) ∈ tkL R g ↔ i < g ∧ R i = some (k, true) := by
  unfold tkL
  rw [List.mem_filterMap]
  constructor
  · rintro ⟨⟨a, b, c⟩, h, e⟩
    cases c with
    | false => simp at e
    | true =>
      simp only [if_true, Option.some.injEq, Prod.mk.injEq] at e
      obtain ⟨rfl, rfl⟩ := e
      exact runL_mem.1 h
  · rintro h
    exact ⟨(i, k, true), runL_mem.2 h, by simp⟩
theorem runL_sorted (R : Runs) (g : Nat) : (runL R g).Pairwise (fun a b => a.1 < b.1) := by
  induction g with
  | zero => exact .nil
  | succ g ih =>
    rw [runL_succ]
    refine List.pairwise_append.2 ⟨ih, by cases R g <;> simp, fun a ha b hb => ?_⟩
    obtain ⟨i, k, t⟩ := a
    have h1 := (runL_mem.1 ha).1
    cases c : R g with
    | none => rw [c] at hb; cases hb
    | some y =>
      rw [c] at hb
      simp only [List.mem_singleton] at hb
      subst hb
      exact h1
theorem tkL_sorted (R : Runs) (g : Nat) : (tkL R g).Pairwise (fun a b => a.1 < b.1) := by
  unfold tkL
  rw [List.pairwise_filterMap]
  refine (runL_sorted R g).imp fun {a b} h x hx y hy => ?_
  split at hx <;> split at hy <;> simp_all
  obtain ⟨rfl⟩ := hx
  obtain ⟨rfl⟩ := hy
  exact h
theorem tkL_same {R S : Runs} {g f : Nat} (h : ∀ i k, (i < g ∧ R i = some (k, true)) ↔ (i < f ∧ S i = some (k, true))) : tkL R g = tkL S f :=
  pair_ext (tkL_sorted _ _) (tkL_sorted _ _) fun ⟨i, k⟩ => by rw [tkL_mem, tkL_mem]; exact h i k
/-- a taken run less -/
theorem tkL_less {R S : Runs} {g f x : Nat} (h : ∀ i k, (i < f ∧ S i = some (k, true)) ↔ (i ≠ x ∧ i < g ∧ R i = some (k, true))) : tkL S f = (tkL R g).filter fun y => decide (y.1 ≠ x) :=
  pair_ext (tkL_sorted _ _) ((tkL_sorted _ _).sublist List.filter_sublist) fun ⟨i, k⟩ => by
    rw [tkL_mem, List.mem_filter, tkL_mem, h i k, decide_eq_true_iff]
    exact ⟨fun ⟨a, b⟩ => ⟨b, a⟩, fun ⟨a, b⟩ => ⟨b, a⟩⟩
/-- a taken run more -/
theorem tkL_more {R S : Runs} {g f x o : Nat} (hx : ∀ k, ¬ (x < g ∧ R x = some (k, true))) (h : ∀ i k, (i < f ∧ S i = some (k, true)) ↔ ((i = x ∧ k = o) ∨ (i < g ∧ R i = some (k, true)))) :
    tkL S f = (tkL R g).filter (fun y => decide (y.1 < x)) ++ ((x, o) :: (tkL R g).filter fun y => decide (x < y.1)) := by
  have s := tkL_sorted R g
  refine pair_ext (tkL_sorted _ _) (List.pairwise_append.2 ⟨s.sublist List.filter_sublist, List.pairwise_cons.2 ⟨fun y hy => ?_, s.sublist List.filter_sublist⟩, fun a ha b hb => ?_⟩) fun ⟨i, k⟩ => ?_
  · exact decide_eq_true_iff.1 (List.mem_filter.1 hy).2
  · have h1 := decide_eq_true_iff.1 (List.mem_filter.1 ha).2
    rcases List.mem_cons.1 hb with e | e
    · subst e; exact h1
    · have := decide_eq_true_iff.1 (List.mem_filter.1 e).2; omega
  · rw [tkL_mem, h i k, List.mem_append, List.mem_cons, List.mem_filter, List.mem_filter, tkL_mem, decide_eq_true_iff, decide_eq_true_iff, Prod.mk.injEq]
    constructor
    · rintro (c | c)
      · exact .inr (.inl c)
      · rcases Nat.lt_trichotomy i x with d | d | d
        · exact .inl ⟨c, d⟩
        · subst d; exact absurd c (hx k)
        · exact .inr (.inr ⟨c, d⟩)
    · rintro (⟨c, _⟩ | c | ⟨c, _⟩)
      · exact .inr c
      · exact .inl c
      · exact .inr c
end Go.Proofs.YtfemgekhpcgliaaGreat.Bt
