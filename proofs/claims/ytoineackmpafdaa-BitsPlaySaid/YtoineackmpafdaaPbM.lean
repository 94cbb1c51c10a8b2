/- The document's rows of a set, out of its bools: they are the pairs of its edges. -/
import Derived.Test.YtoineackmpafdaaBitsCount
namespace Go.Proofs.Ytoineackmpafdaa.Bt
open Go Go.RowKit Go.Shelf
set_option linter.unusedVariables false

def incLast (zs : List Int) : List Int := zs.set (zs.length - 1) (zs.getD (zs.length - 1) 0 + 1)
def stR (f : Nat → Bool) (zs : List Int) (i : Nat) : List Int :=
  if f i = false then zs else if i = 0 ∨ f (i - 1) = false then zs ++ [(i : Int), 1] else incLast zs
def rI (f : Nat → Bool) : Nat → List Int
  | 0 => []
  | i + 1 => stR f (rI f i) i
def clipF : List Nat → Nat → List Int
  | a :: c :: t, n => if a < n then (a : Int) :: ((min c n - a : Nat) : Int) :: clipF t n else []
  | _, _ => []
theorem clip_cons (a c : Nat) (t : List Nat) (n : Nat) : clipF (a :: c :: t) n = if a < n then (a : Int) :: ((min c n - a : Nat) : Int) :: clipF t n else [] := by rw [clipF]
theorem mem_low {t : List Nat} {i : Int} (h : ∀ e ∈ t, i < (e : Int)) : mem t i = false := by
  unfold mem cnt insB
  have : t.countP (fun (e : Nat) => decide ((e : Int) < i + 1)) = 0 := List.countP_eq_zero.2 fun e he => by have := h e he; simp; omega
  rw [this]; rfl
theorem clip_low : ∀ {t : List Nat} {n : Nat}, (∀ e ∈ t, n ≤ e) → clipF t n = []
  | [], _, _ => rfl
  | [_], _, _ => rfl
  | a :: c :: t, n, h => by unfold clipF; rw [if_neg (by have := h a (by simp); omega)]
theorem clip_some {t : List Nat} {n : Nat} (he : t.length % 2 = 0) (h : mem t (n : Int) = true) (hr : Rising t) : clipF t (n + 1) ≠ [] := by
  match t, he with
  | [], _ => rw [mem_low (fun e he => by cases he)] at h; cases h
  | [_], he => simp at he
  | a :: c :: t, _ =>
    have ha := (List.pairwise_cons.1 hr).1
    unfold clipF
    by_cases q : a < n + 1
    · rw [if_pos q]; simp
    · rw [mem_low (fun e he => by
        rcases List.mem_cons.1 he with rfl | he
        · omega
        · have := ha e he; omega)] at h; cases h
theorem stR_cons2 {f g : Nat → Bool} {zs : List Int} {n : Nat} (a b : Int) (h : f n = g n) (h1 : g n = true → n ≠ 0 ∧ f (n - 1) = g (n - 1)) (h2 : g n = true → g (n - 1) = true → zs ≠ []) : stR f (a :: b :: zs) n = a :: b :: stR g zs n := by
  unfold stR
  rw [h]
  cases e : g n with
  | false => simp
  | true =>
    obtain ⟨e0, e1⟩ := h1 e
    simp only [Bool.true_eq_false, if_false]
    rw [e1]
    by_cases q : n = 0 ∨ g (n - 1) = false
    · rw [if_pos q, if_pos q]; rfl
    · rw [if_neg q, if_neg q]
      have hz := h2 e (by cases e2 : g (n - 1) with
        | true => rfl
        | false => exact absurd (.inr e2) q)
      unfold incLast
      obtain ⟨y, ys, rfl⟩ := List.exists_cons_of_ne_nil hz
      simp
theorem clip_step : ∀ {es : List Nat}, Rising es → es.length % 2 = 0 → ∀ n : Nat, stR (fun i : Nat => mem es (i : Int)) (clipF es n) n = clipF es (n + 1)
  | [], _, _, n => by
    unfold stR
    rw [if_pos (mem_low (fun e he => by cases he))]; rfl
  | [_], _, h, _ => by simp at h
  | a :: c :: t, hr, he, n => by
    have ha := (List.pairwise_cons.1 hr).1
    have hr2 := (List.pairwise_cons.1 hr).2
    have hc := (List.pairwise_cons.1 hr2).1
    have hrt := (List.pairwise_cons.1 hr2).2
    have hac := ha c (by simp)
    have M : ∀ i : Nat, mem (a :: c :: t) (i : Int) = (decide ((a : Int) ≤ i ∧ (i : Int) < c) || mem t (i : Int)) := fun i => (mem_two hr (i : Int)).1
    have low : ∀ i : Nat, i ≤ c → mem t (i : Int) = false := fun i hi => mem_low fun e he => by have := hc e he; omega
    have het : t.length % 2 = 0 := by simp at he; omega
    by_cases q1 : n < c
    · have ct : ∀ k, k ≤ c → clipF t k = [] := fun k hk => clip_low fun e he => by have := hc e he; omega
      by_cases q2 : n < a
      · have e1 : clipF (a :: c :: t) n = [] := by unfold clipF; rw [if_neg (by omega)]
        have e2 : clipF (a :: c :: t) (n + 1) = [] := by unfold clipF; rw [if_neg (by omega)]
        rw [e1, e2]
        unfold stR
        rw [if_pos]
        show mem (a :: c :: t) (n : Int) = false
        rw [M, low n (by omega), decide_eq_false (by omega)]; rfl
      · have hm : mem (a :: c :: t) (n : Int) = true := by rw [M, decide_eq_true (by omega)]; rfl
        have e2 : clipF (a :: c :: t) (n + 1) = [(a : Int), ((n + 1 - a : Nat) : Int)] := by
          unfold clipF; rw [if_pos (by omega), ct _ (by omega), show min c (n + 1) = n + 1 by omega]
        rw [e2]
        by_cases q3 : n = a
        · have e1 : clipF (a :: c :: t) n = [] := by unfold clipF; rw [if_neg (by omega)]
          rw [e1]
          unfold stR
          rw [if_neg (by show ¬ mem (a :: c :: t) (n : Int) = false; rw [hm]; decide), if_pos]
          · subst q3; simp
          · by_cases q0 : n = 0
            · exact .inl q0
            · refine .inr ?_
              show mem (a :: c :: t) ((n - 1 : Nat) : Int) = false
              rw [M, low (n - 1) (by omega), decide_eq_false (by omega)]; rfl
        · have e1 : clipF (a :: c :: t) n = [(a : Int), ((n - a : Nat) : Int)] := by
            unfold clipF; rw [if_pos (by omega), ct _ (by omega), show min c n = n by omega]
          rw [e1]
          unfold stR
          rw [if_neg (by show ¬ mem (a :: c :: t) (n : Int) = false; rw [hm]; decide), if_neg]
          · unfold incLast
            simp
            omega
          · intro hh
            rcases hh with hh | hh
            · omega
            · have : mem (a :: c :: t) ((n - 1 : Nat) : Int) = true := by rw [M, decide_eq_true (by omega)]; rfl
              rw [show mem (a :: c :: t) ((n - 1 : Nat) : Int) = false from hh] at this; cases this
    · have e1 : clipF (a :: c :: t) n = (a : Int) :: ((c - a : Nat) : Int) :: clipF t n := by rw [clip_cons, if_pos (by omega), show min c n = c by omega]
      have e2 : clipF (a :: c :: t) (n + 1) = (a : Int) :: ((c - a : Nat) : Int) :: clipF t (n + 1) := by rw [clip_cons, if_pos (by omega), show min c (n + 1) = c by omega]
      rw [e1, e2, ← clip_step hrt het n]
      have Mn : mem (a :: c :: t) (n : Int) = mem t (n : Int) := by rw [M, decide_eq_false (by omega)]; rfl
      refine stR_cons2 (g := fun i : Nat => mem t (i : Int)) _ _ Mn (fun hg => ?_) fun hg hg1 => ?_
      · have : n ≠ c := fun e => by
          have := low n (by omega)
          rw [show mem t (n : Int) = true from hg] at this; cases this
        refine ⟨by omega, ?_⟩
        show mem (a :: c :: t) ((n - 1 : Nat) : Int) = mem t ((n - 1 : Nat) : Int)
        rw [M, decide_eq_false (by omega)]; rfl
      · have := clip_some het (n := n - 1) hg1 hrt
        by_cases q0 : n = 0
        · omega
        · rwa [show n - 1 + 1 = n by omega] at this
theorem rI_clip {es : List Nat} (hr : Rising es) (he : es.length % 2 = 0) : ∀ n, rI (fun i : Nat => mem es (i : Int)) n = clipF es n
  | 0 => by
    match es, he with
    | [], _ => rfl
    | [_], h => simp at h
    | a :: c :: t, _ => unfold clipF; rw [if_neg (by omega)]; rfl
  | n + 1 => by
    show stR _ (rI _ n) n = _
    rw [rI_clip hr he n, clip_step hr he n]
theorem clip_all : ∀ {es : List Nat}, Rising es → es.length % 2 = 0 → ∀ {L : Nat}, L ≤ 1048576 → (∀ e ∈ es, e ≤ L) → clipF es L = flat (pairs es)
  | [], _, _, _, _, _ => rfl
  | [_], _, h, _, _, _ => by simp at h
  | a :: c :: t, hr, he, L, hL, hle => by
    have hac := (List.pairwise_cons.1 hr).1 c (by simp)
    have hcl := hle c (by simp)
    unfold clipF
    rw [if_pos (by omega), pairs_cons, clip_all (List.pairwise_cons.1 (List.pairwise_cons.1 hr).2).2 (by simp at he; omega) hL (fun e h => hle e (by simp [h]))]
    have : mkPr a c = ⟨(a, c - a), by omega, by simp; omega⟩ := by unfold mkPr; rw [dif_pos ⟨hac, by omega⟩]
    rw [this]
    show _ = (a : Int) :: ((c - a : Nat) : Int) :: flat (pairs t)
    rw [show min c L = c by omega]
theorem rI_rows {L : Nat} {es : List Nat} (g : Good L es) : rI (fun i : Nat => mem es (i : Int)) L = flat (pairs es) := by
  rw [rI_clip g.rising g.even, clip_all g.rising g.even g.small g.le]
theorem rI_bd (f : Nat → Bool) : ∀ i, ∀ z ∈ rI f i, 0 ≤ z ∧ z ≤ (i : Int)
  | 0, z, h => by cases h
  | i + 1, z, h => by
    have ih := rI_bd f i
    rw [show rI f (i + 1) = stR f (rI f i) i from rfl] at h
    unfold stR at h
    split at h
    · have := ih z h; omega
    · split at h
      · rcases List.mem_append.1 h with h | h
        · have := ih z h; omega
        · simp at h; omega
      · unfold incLast at h
        rcases List.mem_or_eq_of_mem_set h with h | h
        · have := ih z h; omega
        · by_cases q : (rI f i).length - 1 < (rI f i).length
          · have := ih _ (List.getElem_mem q)
            rw [List.getD_eq_getElem?_getD, List.getElem?_eq_getElem q] at h
            simp at h; omega
          · rw [List.getD_eq_getElem?_getD, List.getElem?_eq_none (by omega)] at h
            simp at h; omega
theorem rI_len (f : Nat → Bool) : ∀ i, (rI f i).length ≤ 2 * i
  | 0 => by simp [rI]
  | i + 1 => by
    have ih := rI_len f i
    rw [show rI f (i + 1) = stR f (rI f i) i from rfl]
    unfold stR
    split
    · omega
    · split
      · simp; omega
      · unfold incLast; simp; omega
/-- where the last one was in, there is a row -/
theorem rI_some (f : Nat → Bool) (i : Nat) (h : f i = true) : rI f (i + 1) ≠ [] := by
  rw [show rI f (i + 1) = stR f (rI f i) i from rfl]
  unfold stR
  rw [if_neg (by rw [h]; decide)]
  split
  · simp
  · rename_i q
    unfold incLast
    intro e
    have h2 : rI f i = [] := by
      have := congrArg List.length e
      simp at this
      exact List.eq_nil_of_length_eq_zero (by simpa using this)
    match i, h, q, h2 with
    | 0, _, q, _ => exact q (.inl rfl)
    | j + 1, _, q, h2 => exact rI_some f j (by cases e3 : f j with
        | true => rfl
        | false => exact absurd (.inr (by simpa using e3)) q) h2
end Go.Proofs.Ytoineackmpafdaa.Bt
