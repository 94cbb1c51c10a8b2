/- The plain mathematics of an arena: which bytes are there, what its pages hold. -/
import Derived.Test.YtmnhpmgffhpoeaaGreatBitsVar
import Derived.Test.YtmnhpmgffhpoeaaGreatBitsCount
namespace Go.Proofs.YtmnhpmgffhpoeaaGreat.Bt
open Go Go.RowKit

/-- an arena: its cap, the edges of the committed pages, its bytes, does it refuse, and how many Commits are OK ahead -/
structure ASt where
  L : Nat
  es : List Nat
  mm : Nat → UInt8
  rf : Bool
  lf : Nat

/-- are n bytes at a there? -/
def thereB (L : Nat) (es : List Nat) (a n : Int) : Bool :=
  decide (0 ≤ a ∧ 0 ≤ n ∧ n ≤ (L : Int) * 4096 - a) && (decide (n = 0) || !(firstB L es (a / 4096) false && decide (firstV L es (a / 4096) false ≤ (a + n - 1) / 4096)))
def thereE (L : Nat) (es : List Nat) (a n : Int) : Int := if thereB L es a n then 0 else 3

theorem mem_of_has {L : Nat} {es : List Nat} {j : Int} (h0 : 0 ≤ j) (h1 : j < L) : hasB L es j = mem es j := by
  unfold hasB; rw [decide_eq_true ⟨h0, h1⟩]; rfl

theorem there_iff {L : Nat} {es : List Nat} (g : Good L es) (a n : Int) :
    thereB L es a n = true ↔ 0 ≤ a ∧ 0 ≤ n ∧ a + n ≤ (L : Int) * 4096 ∧ ∀ i : Int, a ≤ i → i < a + n → mem es (i / 4096) = true := by
  unfold thereB
  rw [Bool.and_eq_true, decide_eq_true_iff, Bool.or_eq_true, decide_eq_true_iff]
  constructor
  · rintro ⟨⟨h0, h1, h2⟩, h3⟩
    refine ⟨h0, h1, by omega, fun i hi hi2 => ?_⟩
    rcases h3 with h3 | h3
    · omega
    · have hlt : i / 4096 < (L : Int) := by omega
      rw [← mem_of_has (by omega) hlt]
      cases hb : firstB L es (a / 4096) false with
      | true =>
        obtain ⟨_, f1, f2, f3, f4⟩ := first_true g hb
        rw [hb] at h3
        have h3' : (a + n - 1) / 4096 < firstV L es (a / 4096) false := by simpa using h3
        have := f4 (i / 4096) (by unfold fI; split <;> omega) (by omega)
        simpa using this
      | false =>
        have := (first_false g hb).2 (i / 4096) (by unfold fI; split <;> omega) hlt
        simpa using this
  · rintro ⟨h0, h1, h2, h3⟩
    refine ⟨⟨h0, h1, by omega⟩, ?_⟩
    by_cases hn : n = 0
    · exact .inl hn
    · refine .inr ?_
      cases hb : firstB L es (a / 4096) false with
      | false => rfl
      | true =>
        obtain ⟨f0, f1, f2, f3, f4⟩ := first_true g hb
        by_cases hle : firstV L es (a / 4096) false ≤ (a + n - 1) / 4096
        · exfalso
          have hm := h3 (max a (4096 * firstV L es (a / 4096) false)) (by omega) (by omega)
          have hd : max a (4096 * firstV L es (a / 4096) false) / 4096 = firstV L es (a / 4096) false := by omega
          rw [hd, ← mem_of_has f2 f3, f0] at hm
          cases hm
        · simp [hle]

/-- a page's cells -/
def pgCells (m : Nat → UInt8) (i : Nat) : Array Value := ((List.range 4096).map fun j => Value.int .u8 ((m (i * 4096 + j)).toNat : Int)).toArray
theorem pg_size (m : Nat → UInt8) (i : Nat) : (pgCells m i).size = 4096 := by simp [pgCells]
theorem pg_get (m : Nat → UInt8) (i j : Nat) (hj : j < 4096) : (pgCells m i)[j]? = some (.int .u8 ((m (i * 4096 + j)).toNat : Int)) := by simp [pgCells, hj]
theorem pg_ext {m m' : Nat → UInt8} {i : Nat} (h : ∀ j, j < 4096 → m (i * 4096 + j) = m' (i * 4096 + j)) : pgCells m i = pgCells m' i := by
  exact congrArg List.toArray (List.map_congr_left fun j hj => by rw [h j (List.mem_range.1 hj)])
theorem pg_set {m m' : Nat → UInt8} {i j : Nat} (hj : j < 4096) {y : UInt8} (h : ∀ k, k < 4096 → m' (i * 4096 + k) = if k = j then y else m (i * 4096 + k)) :
    (pgCells m i).setIfInBounds j (.int .u8 (y.toNat : Int)) = pgCells m' i := by
  apply Array.ext_getElem?
  intro k
  by_cases hk : k < 4096
  · rw [pg_get m' i k hk, h k hk, Array.getElem?_setIfInBounds]
    by_cases e : j = k
    · subst e; simp [pg_size, hj]
    · rw [if_neg e, if_neg (Ne.symm e), pg_get m i k hk]
  · rw [Array.getElem?_eq_none (by rw [Array.size_setIfInBounds, pg_size]; omega), Array.getElem?_eq_none (by rw [pg_size]; omega)]

/-- some bytes laid -/
def putM (m : Nat → UInt8) (a : Nat) (s : List UInt8) : Nat → UInt8 := fun i => if a ≤ i ∧ i < a + s.length then s.getD (i - a) 0 else m i
/-- the bytes at a place -/
def getM (m : Nat → UInt8) (a n : Nat) : List UInt8 := (List.range n).map fun i => m (a + i)
theorem getM_length (m : Nat → UInt8) (a n : Nat) : (getM m a n).length = n := by simp [getM]
theorem getM_get (m : Nat → UInt8) (a n i : Nat) (h : i < n) : (getM m a n).getD i 0 = m (a + i) := by simp [getM, List.getD_eq_getElem?_getD, h]
theorem putM_nil (m : Nat → UInt8) (a : Nat) : putM m a [] = m := by funext i; simp [putM]; omega
theorem putM_out (m : Nat → UInt8) (a : Nat) (s : List UInt8) {i : Nat} (h : i < a ∨ a + s.length ≤ i) : putM m a s i = m i := by unfold putM; rw [if_neg (by omega)]
theorem putM_in (m : Nat → UInt8) (a : Nat) (s : List UInt8) {i : Nat} (h : i < s.length) : putM m a s (a + i) = s.getD i 0 := by unfold putM; rw [if_pos (by omega), Nat.add_sub_cancel_left]
theorem getM_putM (m : Nat → UInt8) (a : Nat) (s : List UInt8) : getM (putM m a s) a s.length = s := by
  apply List.ext_getElem
  · simp [getM]
  · intro i h1 h2
    simp only [getM, List.getElem_map, List.getElem_range]
    rw [putM_in m a s h2, List.getD_eq_getElem?_getD, List.getElem?_eq_getElem h2]; rfl
theorem putM_snoc (m : Nat → UInt8) (a : Nat) (s : List UInt8) (c : UInt8) : putM m a (s ++ [c]) = fun i => if i = a + s.length then c else putM m a s i := by
  funext i
  unfold putM
  simp only [List.length_append, List.length_singleton]
  by_cases e : i = a + s.length
  · subst e; rw [if_pos (by omega), if_pos rfl]; simp [List.getD_eq_getElem?_getD]
  · rw [if_neg e]
    by_cases h : a ≤ i ∧ i < a + s.length
    · rw [if_pos (by omega), if_pos h]; simp [List.getD_eq_getElem?_getD, List.getElem?_append, show i - a < s.length from by omega]
    · rw [if_neg (by omega), if_neg h]
end Go.Proofs.YtmnhpmgffhpoeaaGreat.Bt
