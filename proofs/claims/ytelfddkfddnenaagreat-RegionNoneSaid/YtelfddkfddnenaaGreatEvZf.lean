/- the orders of a region: what is listed. -/
import Derived.Test.YtelfddkfddnenaaGreatEvZe
namespace Ev
open Go Go.RowKit
set_option linter.unusedVariables false
set_option linter.unusedSimpArgs false
def Down (ops : Array Oper) (L : Array Bool) : Prop := ∀ i, L.getD i false = true → ∀ j ∈ aft ops i, L.getD j false = true
section
variable {ops : Array Oper} {L : Array Bool}
theorem ready_aft {i : Nat} (h : i ∈ Region.ready .any ops L) : i < ops.size ∧ L.getD i true = false ∧ ∀ j ∈ aft ops i, L.getD j false = true := by
  unfold Region.ready at h
  rw [List.mem_filter] at h
  obtain ⟨h1, h2⟩ := h
  simp only [Bool.and_eq_true, Bool.not_eq_true'] at h2
  obtain ⟨h3, h4⟩ := h2
  refine ⟨by simpa using h1, h3, fun j hj => ?_⟩
  unfold aft at hj
  cases ho : ops[i]? with
  | none => rw [ho] at hj; cases hj
  | some o =>
    rw [ho] at hj h4
    simp only [Option.map_some, Option.getD_some, Array.all_eq_true'] at h4
    obtain ⟨e, he, rfl⟩ := List.mem_map.1 hj
    obtain ⟨he1, he2⟩ := List.mem_filter.1 he
    have := h4 e (by simpa using he1)
    simpa [he2] using this
theorem getD_set {i j : Nat} (hi : i < L.size) : (L.setIfInBounds i true).getD j false = if j = i then true else L.getD j false := by
  rw [Array.getD_eq_getD_getElem?, Array.getD_eq_getD_getElem?]
  by_cases h : j = i
  · subst h; simp [hi]
  · rw [if_neg h, Array.getElem?_setIfInBounds_ne (Ne.symm h)]
theorem Down.add {i : Nat} (h : Down ops L) (hs : L.size = ops.size) (hi : i ∈ Region.ready .any ops L) : Down ops (L.setIfInBounds i true) := by
  obtain ⟨h1, h2, h3⟩ := ready_aft hi
  intro k hk j hj
  rw [getD_set (by omega)] at hk ⊢
  split
  · rfl
  · split at hk
    · rename_i e; subst e; exact h3 j hj
    · exact h k hk j hj
/-- none may come up: all have -/
theorem all_listed (ht : ∀ i, i < ops.size → ∀ j ∈ aft ops i, j < i) (hs : L.size = ops.size) (h : Region.ready .any ops L = []) : ∀ i, i < ops.size → L.getD i false = true := by
  intro i
  induction i using Nat.strongRecOn with
  | _ i ih =>
    intro hi
    cases hb : L.getD i false with
    | true => rfl
    | false =>
      exfalso
      have hmem : i ∈ Region.ready .any ops L := by
        unfold Region.ready
        rw [List.mem_filter]
        refine ⟨by simpa using hi, ?_⟩
        have hL : L.getD i true = false := by
          rw [Array.getD_eq_getD_getElem?] at hb ⊢
          rw [Array.getElem?_eq_getElem (by omega)] at hb ⊢
          simpa using hb
        rw [hL]
        have ho : ops[i]? = some ops[i] := Array.getElem?_eq_getElem hi
        simp only [ho, Option.map_some, Option.getD_some, Bool.not_false, Bool.true_and, Array.all_eq_true']
        intro e he
        cases hbd : Region.binds .any e with
        | false => rfl
        | true =>
          have hj : e.on ∈ aft ops i := by
            unfold aft
            rw [ho]
            exact List.mem_map.2 ⟨e, List.mem_filter.2 ⟨by simpa using he, hbd⟩, rfl⟩
          simp only [Bool.not_true, Bool.false_or]
          exact ih e.on (ht i hi _ hj) (by have := ht i hi _ hj; omega)
      rw [h] at hmem
      cases hmem
def cnt (L : Array Bool) : Nat := L.toList.countP (! ·)
theorem cnt_rep (n : Nat) : cnt (Array.replicate n false) = n := by simp [cnt, List.countP_replicate]
theorem cnt_set {i : Nat} (hi : i < L.size) (h : L.getD i true = false) : cnt (L.setIfInBounds i true) + 1 = cnt L := by
  have hget : L.toList[i]? = some false := by
    rw [Array.getD_eq_getD_getElem?, Array.getElem?_eq_getElem hi] at h
    simp only [Option.getD_some] at h
    rw [Array.getElem?_toList, Array.getElem?_eq_getElem hi, h]
  unfold cnt
  rw [Array.toList_setIfInBounds]
  generalize L.toList = l at hget
  clear hi h
  induction l generalizing i with
  | nil => simp at hget
  | cons b l ih =>
    cases i with
    | zero => simp at hget; subst hget; simp
    | succ i =>
      simp only [List.getElem?_cons_succ] at hget
      simp only [List.set_cons_succ, List.countP_cons]
      have := ih hget
      omega
theorem cnt_zero (hs : L.size = ops.size) (h : cnt L = 0) : Region.ready .any ops L = [] := by
  rw [List.eq_nil_iff_forall_not_mem]
  intro i hi
  obtain ⟨h1, h2, _⟩ := ready_aft hi
  have := cnt_set (L := L) (i := i) (by omega) h2
  omega
/-- a region in whatever order, by what stands between two of its operations -/
theorem any_of {F : Fence} {n : Nat} {P : Program} {Q : Exit → Act → World → Prop} (ht : ∀ i, i < ops.size → ∀ j ∈ aft ops i, j < i) (I : Array Bool → Act → World → Prop)
    (fin : ∀ L a w, L.size = ops.size → (∀ i, i < ops.size → L.getD i false = true) → I L a w → Q .normal a w)
    (go : ∀ L a w i, L.size = ops.size → Down ops L → I L a w → i ∈ Region.ready .any ops L → wpOpIn F n P ops Q i (fun a' w' => I (L.setIfInBounds i true) a' w') a w) :
    ∀ (fuel : Nat) (L : Array Bool) (a : Act) (w : World), cnt L ≤ fuel → L.size = ops.size → Down ops L → I L a w → wpAnyIn F n P .any ops Q fuel L a w
  | 0, L, a, w, hc, hs, hd, hi => by
    have hr := cnt_zero hs (by omega : cnt L = 0)
    exact ⟨hr, fin L a w hs (all_listed ht hs hr) hi⟩
  | fuel + 1, L, a, w, hc, hs, hd, hi => by
    refine ⟨fun hr => fin L a w hs (all_listed ht hs hr) hi, fun i hm => wpOpIn_mono (fun a' w' h' => ?_) (go L a w i hs hd hi hm)⟩
    obtain ⟨h1, h2, _⟩ := ready_aft hm
    have := cnt_set (L := L) (i := i) (by omega) h2
    exact any_of ht I fin go fuel _ a' w' (by omega) (by simpa using hs) (hd.add hs hm) h'
end
end Ev
