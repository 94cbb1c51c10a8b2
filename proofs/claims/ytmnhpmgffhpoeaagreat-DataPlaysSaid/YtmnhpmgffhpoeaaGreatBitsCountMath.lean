/- The plain mathematics of Count: what the rows of a set have in common with a row is how many of the row are in it. -/
import Derived.Test.YtmnhpmgffhpoeaaGreatBitsRows
namespace Go.Proofs.YtmnhpmgffhpoeaaGreat.Bt
open Go

/-- how many a row of the set has in common with another row -/
def ovI (fr n a c : Int) : Int := max (min c (fr + n) - max a fr) 0
def ovP (fr n : Int) (x : Pr) : Int := ovI fr n x.1.1 ((x.1.1 : Int) + x.1.2)
def sumP (fr n : Int) (l : List Pr) : Int := (l.map (ovP fr n)).sum
theorem sumP_snoc (fr n : Int) (l : List Pr) (x : Pr) : sumP fr n (l ++ [x]) = sumP fr n l + ovP fr n x := by simp [sumP]
theorem ovP_bd {fr n : Int} (h0 : 0 ≤ fr) (h1 : 0 ≤ n) (h2 : fr + n ≤ 1048576) (x : Pr) : 0 ≤ ovP fr n x ∧ ovP fr n x ≤ 1048576 := by
  have := x.2; unfold ovP ovI; omega
theorem sumP_bd {fr n : Int} (h0 : 0 ≤ fr) (h1 : 0 ≤ n) (h2 : fr + n ≤ 1048576) (l : List Pr) : 0 ≤ sumP fr n l ∧ sumP fr n l ≤ l.length * 1048576 := by
  induction l with
  | nil => simp [sumP]
  | cons x t ih =>
    have := ovP_bd h0 h1 h2 x
    have e : sumP fr n (x :: t) = ovP fr n x + sumP fr n t := by simp [sumP]
    rw [e]; simp only [List.length_cons]; omega

/-- how many of a row are in the set -/
def memCount (es : List Nat) (fr n : Nat) : Nat := (List.range n).countP fun (i : Nat) => mem es ((fr : Int) + i)

theorem pairs_cons {a c : Nat} {t : List Nat} : pairs (a :: c :: t) = mkPr a c :: pairs t := by
  unfold pairs pairsTo
  rw [show (a :: c :: t).length / 2 = t.length / 2 + 1 from by simp; omega, List.range_succ_eq_map, List.map_cons, List.map_map]
  refine congr (congrArg _ rfl) (List.map_congr_left fun j _ => ?_)
  show pairAt (a :: c :: t) (j + 1) = pairAt t j
  unfold pairAt
  rw [show 2 * (j + 1) = 2 * j + 1 + 1 from by omega]; simp only [List.getD_cons_succ]
theorem mem_two {a c : Nat} {t : List Nat} (h : Rising (a :: c :: t)) (i : Int) : mem (a :: c :: t) i = (decide ((a : Int) ≤ i ∧ i < c) || mem t i) ∧ ((a : Int) ≤ i ∧ i < c → mem t i = false) := by
  have ha := (List.pairwise_cons.1 h).1
  have hc := (List.pairwise_cons.1 (List.pairwise_cons.1 h).2).1
  have hac := ha c (by simp)
  unfold mem
  rw [cnt_cons, cnt_cons]
  by_cases h1 : (a : Int) ≤ i
  · by_cases h2 : i < c
    · have hz : cnt t (i + 1) = 0 := cnt_none fun e he => by have := hc e he; omega
      rw [if_pos (by omega), if_neg (by omega), hz]
      exact ⟨by simp [insB, h1, h2], fun _ => rfl⟩
    · rw [if_pos (by omega), if_pos (by omega)]
      refine ⟨?_, fun hh => by omega⟩
      rw [show 1 + (1 + cnt t (i + 1)) = 2 + cnt t (i + 1) from by omega, insB_add]
      have : decide ((a : Int) ≤ i ∧ i < c) = false := decide_eq_false (by omega)
      rw [this]; cases insB (cnt t (i + 1)) <;> rfl
  · have hz : cnt t (i + 1) = 0 := cnt_none fun e he => by have := hc e he; omega
    rw [if_neg (by omega), if_neg (by omega), hz]
    refine ⟨?_, fun hh => by omega⟩
    have : decide ((a : Int) ≤ i ∧ i < c) = false := decide_eq_false (by omega)
    rw [this]; rfl
theorem count_row (a c : Int) (fr : Nat) (hac : a ≤ c) : ∀ n : Nat, ((((List.range n).countP fun (i : Nat) => decide (a ≤ (fr : Int) + i ∧ (fr : Int) + i < c)) : Nat) : Int) = ovI fr n a c := by
  intro n
  induction n with
  | zero => simp [ovI]; omega
  | succ n ih =>
    rw [List.range_succ, List.countP_append]
    simp only [List.countP_cons, List.countP_nil]
    rw [Int.natCast_add, ih]
    by_cases h : a ≤ (fr : Int) + n ∧ (fr : Int) + n < c
    · rw [decide_eq_true h]; unfold ovI; simp; omega
    · rw [decide_eq_false h]; unfold ovI; simp; omega
theorem countP_or {l : List Nat} {p q : Nat → Bool} (h : ∀ i, p i = true → q i = false) : l.countP (fun i => p i || q i) = l.countP p + l.countP q := by
  induction l with
  | nil => rfl
  | cons x t ih =>
    simp only [List.countP_cons, ih]
    cases hp : p x
    · cases q x <;> simp <;> omega
    · rw [h x hp]; simp; omega
theorem memCount_pairs : ∀ (m : Nat) (es : List Nat) (fr n : Nat), es.length ≤ m → Rising es → es.length % 2 = 0 → (∀ e ∈ es, e ≤ 1048576) → (memCount es fr n : Int) = sumP fr n (pairs es) := by
  intro m
  induction m with
  | zero =>
    intro es fr n h _ _ _
    have : es = [] := List.eq_nil_of_length_eq_zero (by omega)
    subst this
    simp [memCount, mem, cnt_nil, insB, sumP, pairs, pairsTo]
  | succ m ih =>
    intro es fr n h hr hev hle
    match es, h, hr, hev, hle with
    | [], _, _, _, _ => simp [memCount, mem, cnt_nil, insB, sumP, pairs, pairsTo]
    | [a], _, _, hev, _ => simp at hev
    | a :: c :: t, h, hr, hev, hle =>
      have hrt : Rising t := (List.pairwise_cons.1 (List.pairwise_cons.1 hr).2).2
      have hac : a < c := (List.pairwise_cons.1 hr).1 c (by simp)
      have hcl := hle c (by simp)
      rw [pairs_cons]
      have e1 : sumP fr n (mkPr a c :: pairs t) = ovP fr n (mkPr a c) + sumP fr n (pairs t) := by simp [sumP]
      have e2 : ovP fr n (mkPr a c) = ovI fr n a c := by
        unfold ovP mkPr; rw [dif_pos ⟨hac, hcl⟩]; simp only
        rw [show (a : Int) + ((c - a : Nat) : Int) = c from by omega]
      rw [e1, e2, ← count_row a c fr (by omega) n, ← ih t fr n (by simp at h; omega) hrt (by simp at hev; omega) (fun e he => hle e (by simp [he]))]
      unfold memCount
      rw [← Int.natCast_add, ← countP_or fun i hi => (mem_two hr _).2 (of_decide_eq_true hi)]
      congr 1
      exact List.countP_congr fun i _ => by rw [(mem_two hr _).1]
theorem memCount_sum {L : Nat} {es : List Nat} (g : Good L es) (fr n : Nat) : (memCount es fr n : Int) = sumP fr n (pairs es) :=
  memCount_pairs es.length es fr n (Nat.le_refl _) g.rising g.even fun e he => by have := g.le e he; have := g.small; omega
end Go.Proofs.YtmnhpmgffhpoeaaGreat.Bt
