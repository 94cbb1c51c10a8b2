/- The plain mathematics of layer 2 (sets of small numbers by their edges): no program, no condition. -/
import GoSem.Claim
import Derived.WalkKit
namespace Go.Proofs.YtmnhpmgffhpoeaaGreat.Bt
open Go

/-- how many edges are less than a number -/
def cnt (es : List Nat) (x : Int) : Nat := es.countP (fun (e : Nat) => decide ((e : Int) < x))
/-- behind so many edges: in a row? -/
def insB (k : Nat) : Bool := decide (k % 2 = 1)
def mem (es : List Nat) (i : Int) : Bool := insB (cnt es (i + 1))
def Rising (es : List Nat) : Prop := es.Pairwise (· < ·)
structure Good (L : Nat) (es : List Nat) : Prop where
  rising : Rising es
  even : es.length % 2 = 0
  le : ∀ e ∈ es, e ≤ L
  small : L ≤ 1048576

theorem cnt_nil (x : Int) : cnt [] x = 0 := rfl
theorem cnt_cons (e : Nat) (es : List Nat) (x : Int) : cnt (e :: es) x = (if (e : Int) < x then 1 else 0) + cnt es x := by
  unfold cnt; rw [List.countP_cons]; by_cases h : (e : Int) < x <;> simp [h]; omega
theorem cnt_append (a b : List Nat) (x : Int) : cnt (a ++ b) x = cnt a x + cnt b x := by unfold cnt; rw [List.countP_append]
theorem cnt_le (es : List Nat) (x : Int) : cnt es x ≤ es.length := List.countP_le_length
theorem cnt_all {es : List Nat} {x : Int} (h : ∀ e ∈ es, (e : Int) < x) : cnt es x = es.length := by
  unfold cnt; rw [List.countP_eq_length]; intro e he; simpa using h e he
theorem cnt_none {es : List Nat} {x : Int} (h : ∀ e ∈ es, x ≤ (e : Int)) : cnt es x = 0 := by
  unfold cnt; rw [List.countP_eq_zero]; intro e he; have := h e he; simp; omega
theorem cnt_mono (es : List Nat) {x y : Int} (h : x ≤ y) : cnt es x ≤ cnt es y := by
  unfold cnt; apply List.countP_mono_left; intro e _ he; simp at he ⊢; omega

theorem rising_get {es : List Nat} (h : Rising es) {i j : Nat} (hij : i < j) (hj : j < es.length) : es.getD i 0 < es.getD j 0 := by
  have := List.pairwise_iff_getElem.1 h i j (by omega) hj hij
  rw [List.getD_eq_getElem?_getD, List.getD_eq_getElem?_getD, List.getElem?_eq_getElem (by omega), List.getElem?_eq_getElem hj]
  simpa using this

/-- what a search finds -/
theorem cnt_of {es : List Nat} {x : Int} {k : Nat} (hk : k ≤ es.length) (h1 : ∀ i, i < k → (es.getD i 0 : Int) < x) (h2 : ∀ i, k ≤ i → i < es.length → x ≤ (es.getD i 0 : Int)) : cnt es x = k := by
  have e : es = es.take k ++ es.drop k := (List.take_append_drop k es).symm
  rw [e, cnt_append, cnt_all, cnt_none]
  · simp; omega
  · intro e he
    obtain ⟨i, hi, rfl⟩ := List.getElem_of_mem he
    have := h2 (k + i) (by omega) (by simp at hi; omega)
    rw [List.getElem_drop]
    rw [List.getD_eq_getElem?_getD, List.getElem?_eq_getElem (by simp at hi; omega)] at this
    simpa using this
  · intro e he
    obtain ⟨i, hi, rfl⟩ := List.getElem_of_mem he
    have := h1 i (by simp at hi; omega)
    rw [List.getElem_take]
    rw [List.getD_eq_getElem?_getD, List.getElem?_eq_getElem (by simp at hi; omega)] at this
    simpa using this

theorem take_cnt {es : List Nat} (h : Rising es) (x : Int) : (∀ e ∈ es.take (cnt es x), (e : Int) < x) ∧ (∀ e ∈ es.drop (cnt es x), x ≤ (e : Int)) := by
  induction es with
  | nil => simp
  | cons a r ih =>
    have hr : Rising r := (List.pairwise_cons.1 h).2
    have ha := (List.pairwise_cons.1 h).1
    rw [cnt_cons]
    by_cases hx : (a : Int) < x
    · rw [if_pos hx, Nat.add_comm]
      obtain ⟨h1, h2⟩ := ih hr
      exact ⟨fun e he => by
        rw [List.take_succ_cons] at he
        rcases List.mem_cons.1 he with rfl | he
        · exact hx
        · exact h1 e he, h2⟩
    · rw [if_neg hx]
      have hz : cnt r x = 0 := cnt_none fun e he => by have := ha e he; omega
      rw [hz]
      exact ⟨by simp, fun e he => by
        rcases List.mem_cons.1 he with rfl | he
        · omega
        · have := ha e he; omega⟩

theorem get_lt {es : List Nat} (h : Rising es) {x : Int} {i : Nat} (hi : i < cnt es x) : (es.getD i 0 : Int) < x := by
  have hl := cnt_le es x
  apply (take_cnt h x).1
  rw [List.getD_eq_getElem?_getD, List.getElem?_eq_getElem (by omega)]
  simp only [Option.getD_some]
  have : (es.take (cnt es x))[i]'(by simp; omega) = es[i] := List.getElem_take
  rw [← this]; exact List.getElem_mem _
theorem get_ge {es : List Nat} (h : Rising es) {x : Int} {i : Nat} (hi : cnt es x ≤ i) (hl : i < es.length) : x ≤ (es.getD i 0 : Int) := by
  apply (take_cnt h x).2
  rw [List.getD_eq_getElem?_getD, List.getElem?_eq_getElem (by omega)]
  simp only [Option.getD_some]
  have : (es.drop (cnt es x))[i - cnt es x]'(by simp; omega) = es[i] := by rw [List.getElem_drop]; congr 1; omega
  rw [← this]; exact List.getElem_mem _

theorem insB_add (a b : Nat) : insB (a + b) = (insB a != insB b) := by
  unfold insB
  rcases Nat.mod_two_eq_zero_or_one a with h | h <;> rcases Nat.mod_two_eq_zero_or_one b with g | g <;> simp [Nat.add_mod, h, g]
theorem insB_even {k : Nat} (h : k % 2 = 0) : insB k = false := by unfold insB; simp; omega
theorem even_of {k : Nat} (h : insB k = false) : k % 2 = 0 := by unfold insB at h; simp at h; omega

/-- the row laid in, or out -/
def laidE (es : List Nat) (fr n : Nat) (inn : Bool) : List Nat :=
  es.take (cnt es fr) ++ ((if insB (cnt es fr) != inn then [fr] else []) ++ ((if insB (cnt es (fr + n + 1)) != inn then [fr + n] else []) ++ es.drop (cnt es (fr + n + 1))))

theorem cnt_laid {es : List Nat} (h : Rising es) (fr n : Nat) (inn : Bool) (x : Int) :
    insB (cnt (laidE es fr n inn) x) = if x ≤ fr then insB (cnt es x) else if x ≤ fr + n then inn else insB (cnt es x) := by
  have hb := take_cnt h fr
  have hu := take_cnt h (fr + n + 1)
  have hs : ∀ y, cnt es x = cnt (es.take (cnt es y)) x + cnt (es.drop (cnt es y)) x := fun y => by rw [← cnt_append, List.take_append_drop]
  have hlb := cnt_le es fr
  have hlu := cnt_le es (fr + n + 1)
  unfold laidE
  rw [cnt_append, cnt_append, cnt_append]
  by_cases h1 : x ≤ fr
  · rw [if_pos h1, hs fr]
    have z1 : cnt (es.drop (cnt es fr)) x = 0 := cnt_none fun e he => by have := hb.2 e he; omega
    have z2 : cnt (es.drop (cnt es (fr + n + 1))) x = 0 := cnt_none fun e he => by have := hu.2 e he; omega
    have z3 : cnt (if insB (cnt es fr) != inn then [fr] else []) x = 0 := cnt_none fun e he => by split at he <;> simp at he; omega
    have z4 : cnt (if insB (cnt es (fr + n + 1)) != inn then [fr + n] else []) x = 0 := cnt_none fun e he => by split at he <;> simp at he; omega
    rw [z1, z2, z3, z4]
  · rw [if_neg h1]
    have z1 : cnt (es.take (cnt es fr)) x = cnt es fr := by
      rw [cnt_all fun e he => by have := hb.1 e he; omega]; simp; omega
    have z3 : insB (cnt es fr + cnt (if insB (cnt es fr) != inn then [fr] else []) x) = inn := by
      rw [insB_add]
      have hlt : (fr : Int) < x := by omega
      cases hi : insB (cnt es fr) <;> cases inn <;> simp [cnt_nil, cnt_cons, insB, hlt]
    rw [z1, ← Nat.add_assoc, insB_add, z3]
    by_cases h2 : x ≤ fr + n
    · rw [if_pos h2]
      have z2 : cnt (es.drop (cnt es (fr + n + 1))) x = 0 := cnt_none fun e he => by have := hu.2 e he; omega
      have z4 : cnt (if insB (cnt es (fr + n + 1)) != inn then [fr + n] else []) x = 0 := cnt_none fun e he => by split at he <;> simp at he; omega
      rw [z2, z4]; simp [insB]
    · rw [if_neg h2, hs (fr + n + 1)]
      have z2 : cnt (es.take (cnt es (fr + n + 1))) x = cnt es (fr + n + 1) := by
        rw [cnt_all fun e he => by have := hu.1 e he; omega]; simp; omega
      rw [z2, insB_add, insB_add]
      have hlt : (fr : Int) + n < x := by omega
      cases hi : insB (cnt es (fr + n + 1)) <;> cases inn <;> cases insB (cnt (es.drop (cnt es (fr + n + 1))) x) <;> simp [cnt_nil, cnt_cons, insB, hlt]

theorem laid_good {L : Nat} {es : List Nat} (g : Good L es) {fr n : Nat} (hn : 0 < n) (hl : fr + n ≤ L) (inn : Bool) : Good L (laidE es fr n inn) := by
  have hb := take_cnt g.rising fr
  have hu := take_cnt g.rising (fr + n + 1)
  have hle : ∀ e ∈ laidE es fr n inn, e ≤ L := by
    intro e he
    unfold laidE at he
    rcases List.mem_append.1 he with he | he
    · exact g.le e (List.mem_of_mem_take he)
    · rcases List.mem_append.1 he with he | he
      · split at he <;> simp at he; omega
      · rcases List.mem_append.1 he with he | he
        · split at he <;> simp at he; omega
        · exact g.le e (List.mem_of_mem_drop he)
  refine ⟨?_, ?_, hle, g.small⟩
  · unfold laidE Rising
    rw [List.pairwise_append, List.pairwise_append, List.pairwise_append]
    refine ⟨g.rising.sublist (List.take_sublist _ _), ⟨by split <;> simp, ⟨by split <;> simp, g.rising.sublist (List.drop_sublist _ _), ?_⟩, ?_⟩, ?_⟩
    · intro a ha b hb'
      have := hu.2 b hb'
      split at ha <;> simp at ha; omega
    · intro a ha b hb'
      rcases List.mem_append.1 hb' with hb' | hb'
      · split at ha <;> simp at ha; split at hb' <;> simp at hb'; omega
      · have := hu.2 b hb'
        split at ha <;> simp at ha; omega
    · intro a ha b hb'
      have h1 := hb.1 a ha
      rcases List.mem_append.1 hb' with hb' | hb'
      · split at hb' <;> simp at hb'; omega
      · rcases List.mem_append.1 hb' with hb' | hb'
        · split at hb' <;> simp at hb'; omega
        · have := hu.2 b hb'; omega
  · have e := cnt_laid g.rising fr n inn (L + 1)
    rw [cnt_all fun e he => by have := hle e he; omega, if_neg (by omega), if_neg (by omega), cnt_all fun e he => by have := g.le e he; omega, insB_even g.even] at e
    exact even_of e

theorem mem_laid {es : List Nat} (h : Rising es) (fr n : Nat) (inn : Bool) (i : Int) :
    mem (laidE es fr n inn) i = if fr ≤ i ∧ i < fr + n then inn else mem es i := by
  unfold mem
  rw [cnt_laid h]
  by_cases h1 : i + 1 ≤ fr
  · rw [if_pos h1, if_neg (by omega)]
  · rw [if_neg h1]
    by_cases h2 : i + 1 ≤ fr + n
    · rw [if_pos h2, if_pos (by omega)]
    · rw [if_neg h2, if_neg (by omega)]

theorem good_len {L : Nat} {es : List Nat} (g : Good L es) : es.length ≤ 1048577 := by
  have key : ∀ (r : List Nat) (m : Nat), Rising r → (∀ e ∈ r, m ≤ e) → (∀ e ∈ r, e ≤ 1048576) → r.length + m ≤ 1048577 ∨ r = [] := by
    intro r
    induction r with
    | nil => intro m _ _ _; right; rfl
    | cons a t ih =>
      intro m hr hm hle
      left
      have ha := (List.pairwise_cons.1 hr).1
      have h1 := hm a (by simp)
      have h2 := hle a (by simp)
      rcases ih (a + 1) (List.pairwise_cons.1 hr).2 (fun e he => ha e he) (fun e he => hle e (by simp [he])) with h | h
      · simp; omega
      · subst h; simp; omega
  rcases key es 0 g.rising (fun _ _ => Nat.zero_le _) (fun e he => by have := g.le e he; have := g.small; omega) with h | h
  · omega
  · subst h; simp

theorem laid_len (es : List Nat) (fr n : Nat) (inn : Bool) : (laidE es fr n inn).length ≤ es.length + 2 := by
  unfold laidE
  have h1 := cnt_le es fr
  have h2 := cnt_mono es (show (fr : Int) ≤ (fr : Int) + n + 1 by omega)
  have h3 := cnt_le es (fr + n + 1)
  simp only [List.length_append, List.length_take, List.length_drop]
  split <;> split <;> simp <;> omega

/-- one set has one form alone -/
theorem rising_ext : ∀ {a b : List Nat}, Rising a → Rising b → (∀ e, e ∈ a ↔ e ∈ b) → a = b := by
  intro a
  induction a with
  | nil => intro b _ _ h; cases b with
    | nil => rfl
    | cons x t => have := (h x).2 (by simp); simp at this
  | cons x t ih =>
    intro b ha hb h
    cases b with
    | nil => have := (h x).1 (by simp); simp at this
    | cons y u =>
      have hx := (List.pairwise_cons.1 ha).1
      have hy := (List.pairwise_cons.1 hb).1
      have hxy : x = y := by
        rcases List.mem_cons.1 ((h x).1 (by simp)) with e | e
        · exact e
        · rcases List.mem_cons.1 ((h y).2 (by simp)) with e' | e'
          · exact e'.symm
          · have := hx y e'; have := hy x e; omega
      subst hxy
      rw [ih (List.pairwise_cons.1 ha).2 (List.pairwise_cons.1 hb).2 fun e => ?_]
      constructor
      · intro he
        rcases List.mem_cons.1 ((h e).1 (by simp [he])) with e' | e'
        · have := hx e he; omega
        · exact e'
      · intro he
        rcases List.mem_cons.1 ((h e).2 (by simp [he])) with e' | e'
        · have := hy e he; omega
        · exact e'
theorem mem_iff_jump : ∀ {es : List Nat}, Rising es → ∀ (e : Nat), e ∈ es ↔ insB (cnt es (e + 1)) ≠ insB (cnt es e) := by
  intro es
  induction es with
  | nil => intro _ e; simp [cnt_nil]
  | cons a t ih =>
    intro h e
    have ha := (List.pairwise_cons.1 h).1
    have ht := (List.pairwise_cons.1 h).2
    rw [cnt_cons, cnt_cons, insB_add, insB_add, List.mem_cons]
    by_cases hae : e = a
    · subst hae
      have z1 : cnt t (e + 1) = 0 := cnt_none fun x hx => by have := ha x hx; omega
      have z2 : cnt t e = 0 := cnt_none fun x hx => by have := ha x hx; omega
      rw [z1, z2, if_pos (by omega), if_neg (by omega)]; simp [insB]
    · have e1 : (if (a : Int) < (e : Int) + 1 then 1 else 0) = (if (a : Int) < (e : Int) then 1 else 0) := by
        by_cases h1 : (a : Int) < e
        · rw [if_pos h1, if_pos (by omega)]
        · rw [if_neg h1, if_neg (by omega)]
      rw [e1]
      have := ih ht e
      constructor
      · intro hh
        rcases hh with hh | hh
        · omega
        · have h2 := this.1 hh
          intro h3; apply h2
          revert h3; cases insB (cnt t (e + 1)) <;> cases insB (cnt t e) <;> simp
      · intro hh
        right; apply this.2; intro h3; apply hh; rw [h3]
theorem good_ext {L : Nat} {a b : List Nat} (ga : Good L a) (gb : Good L b) (h : ∀ i : Nat, i < L → mem a i = mem b i) : a = b := by
  have hp : ∀ x : Int, insB (cnt a x) = insB (cnt b x) := by
    intro x
    by_cases h0 : x ≤ 0
    · rw [cnt_none fun e he => by omega, cnt_none fun e he => by omega]
    · by_cases h1 : x ≤ L
      · have := h (x - 1).toNat (by omega)
        unfold mem at this
        rwa [show (((x - 1).toNat : Nat) : Int) + 1 = x from by omega] at this
      · rw [cnt_all fun e he => by have := ga.le e he; omega, cnt_all fun e he => by have := gb.le e he; omega, insB_even ga.even, insB_even gb.even]
  exact rising_ext ga.rising gb.rising fun e => by rw [mem_iff_jump ga.rising, mem_iff_jump gb.rising, hp, hp]
end Go.Proofs.YtmnhpmgffhpoeaaGreat.Bt
