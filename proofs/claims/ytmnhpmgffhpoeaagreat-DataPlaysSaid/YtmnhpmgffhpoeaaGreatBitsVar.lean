/- A variable that holds a set, in memory; how an act turns it. -/
import Derived.Test.YtmnhpmgffhpoeaaGreatBitsLay
namespace Go.Proofs.YtmnhpmgffhpoeaaGreat.Bt
open Go Go.RowKit

/-- what a law comes to -/
def TrueAt (w : World) (e : Ending) (w' : World) : Prop := e = .returned (.bool true) ∧ Below w.heap.size w w'
/-- the variable in block S holds a set of length L with those edges -/
def VarAt (S L : Nat) (es : List Nat) (x : World) : Prop :=
  ∃ p n cap, Good L es ∧ x.cell? ⟨S, 0, none⟩ = some (.int .i64 (L : Int)) ∧ x.cell? ⟨S, 1, none⟩ = some (.slice p n cap) ∧ x.frozen? ⟨S, 0, none⟩ = false ∧ x.frozen? ⟨S, 1, none⟩ = false ∧
    RowAt x p es ∧ n = es.length ∧ n ≤ cap ∧ (p = none → cap = 0) ∧ (∀ b off, p = some ⟨b, off, none⟩ → b ≠ S)
theorem VarAt.lt {S L : Nat} {es : List Nat} {x : World} (h : VarAt S L es x) : S < x.heap.size := by
  obtain ⟨p, n, cap, _, c0, _⟩ := h
  exact World.block_lt_of_cell? _ _ c0
theorem VarAt.below {S L : Nat} {es : List Nat} {x y : World} (h : VarAt S L es x) (hb : Below x.heap.size x y) : VarAt S L es y := by
  have hlt := h.lt
  obtain ⟨p, n, cap, g, c0, c1, z0, z1, hr, hn, hc, hp, hne⟩ := h
  exact ⟨p, n, cap, g, (hb.cell (p := ⟨S, 0, none⟩) hlt).trans c0, (hb.cell (p := ⟨S, 1, none⟩) hlt).trans c1, (hb.frozen (p := ⟨S, 0, none⟩) hlt).trans z0, (hb.frozen (p := ⟨S, 1, none⟩) hlt).trans z1, hr.below hb, hn, hc, hp, hne⟩
/-- a store of another set into it, made since -/
theorem VarAt.store {S L : Nat} {es es' : List Nat} {x y : World} {p p' : Option Addr} {n' cap' : Nat} (h : VarAt S L es y) (g : Good L es') (hr : RowAt y p' es') (hn : n' = es'.length) (hc : n' ≤ cap') (hp : p' = none → cap' = 0)
    (hpp : p' = p ∨ ∃ a, p' = some a ∧ x.heap.size ≤ a.block) (hne : ∀ b off, p = some ⟨b, off, none⟩ → b ≠ S) (hS : S < x.heap.size) :
    VarAt S L es' ((y.setCell ⟨S, 0, none⟩ (.int .i64 (L : Int))).setCell ⟨S, 1, none⟩ (.slice p' n' cap')) := by
  obtain ⟨q, m, cq, _, c0, c1, z0, z1, _⟩ := h
  have hne' : ∀ b off, p' = some ⟨b, off, none⟩ → b ≠ S := fun b off e => by
    rcases hpp with h2 | ⟨a, h2, h3⟩
    · rw [h2] at e; exact hne b off e
    · rw [e] at h2; cases h2; have h4 : x.heap.size ≤ b := h3; omega
  refine ⟨p', n', cap', g, (two_set c0 c1 _ _).1, (two_set c0 c1 _ _).2, by rw [World.frozen?_setCell, World.frozen?_setCell]; exact z0, by rw [World.frozen?_setCell, World.frozen?_setCell]; exact z1, hr.keep fun b off e => heap_two _ _ _ _ _ (hne' b off e), hn, hc, hp, hne'⟩

/-- a set's variable as it is made -/
theorem VarAt.new (w : World) (L : Nat) (hL : L ≤ 1048576) : VarAt w.heap.size L [] (w.alloc (.cells #[.int .i64 (L : Int), .slice none 0 0] 73)) :=
  ⟨none, 0, 0, ⟨List.Pairwise.nil, rfl, (fun e h => by cases h), hL⟩, by simp, by simp, by simp, by simp, .inl ⟨rfl, rfl⟩, rfl, Nat.le_refl _, fun _ => rfl, fun _ _ h => by cases h⟩
theorem lenN_le (x : Int) : lenN x ≤ 1048576 := by unfold lenN; omega

/-- behind k acts -/
def RunRel (S L : Nat) (w : World) (len : Nat) (i : Value) (x : World) : Prop := ∃ (k : Nat) (es : List Nat), k ≤ len ∧ i = .int .i64 k ∧ VarAt S L es x ∧ Below w.heap.size w x

theorem first_true {L : Nat} {es : List Nat} (g : Good L es) {fr : Int} {inn : Bool} (h : firstB L es fr inn = true) :
    hasB L es (firstV L es fr inn) = inn ∧ fr ≤ firstV L es fr inn ∧ 0 ≤ firstV L es fr inn ∧ firstV L es fr inn < L ∧ ∀ j : Int, fI fr ≤ j → j < firstV L es fr inn → hasB L es j = !inn := by
  have hf0 : 0 ≤ fI fr ∧ fr ≤ fI fr := by unfold fI; split <;> omega
  unfold firstV
  rw [h]
  unfold firstB at h
  have hcl := cnt_le es (fI fr + 1)
  by_cases hi : (insB (cnt es (fI fr + 1)) == inn) = true
  · rw [hi]
    have hlt : fI fr < L := by simpa [hi] using h
    have hi' : insB (cnt es (fI fr + 1)) = inn := by simpa using hi
    exact ⟨by simp only [if_true]; unfold hasB mem; rw [hi']; simp; omega, by simp only [if_true]; omega, by simp only [if_true]; omega, by simp only [if_true]; omega, fun j h1 h2 => by simp only [if_true] at h2; omega⟩
  · have hi' : insB (cnt es (fI fr + 1)) = !inn := by revert hi; cases insB (cnt es (fI fr + 1)) <;> cases inn <;> simp
    rw [hi'] at h
    have h' : fI fr < L ∧ cnt es (fI fr + 1) < es.length ∧ es.getD (cnt es (fI fr + 1)) 0 < L := by
      revert h; cases inn <;> simp
    obtain ⟨h1, h2, h3⟩ := h'
    generalize hc : cnt es (fI fr + 1) = c at *
    have hge := get_ge g.rising (x := fI fr + 1) (i := c) (by omega) h2
    -- between, the count stays c; one further it is one more
    have hmid : ∀ y : Int, fI fr + 1 ≤ y → y ≤ (es.getD c 0 : Int) → cnt es y = c := fun y y1 y2 => by
      refine cnt_of (Nat.le_of_lt h2) (fun i hi => ?_) (fun i hi hl => ?_)
      · have := get_lt g.rising (x := fI fr + 1) (i := i) (by omega); omega
      · by_cases e : i = c
        · subst e; exact y2
        · have := rising_get g.rising (show c < i by omega) hl; omega
    have hnext : cnt es ((es.getD c 0 : Int) + 1) = c + 1 := by
      refine cnt_of (by omega) (fun i hi => ?_) (fun i hi hl => ?_)
      · by_cases e : i = c
        · subst e; omega
        · have := rising_get g.rising (show i < c by omega) h2; omega
      · have := rising_get g.rising (show c < i by omega) hl; omega
    rw [hi']
    have hne : ((!inn) == inn) = false := by cases inn <;> rfl
    simp only [hne, if_true, Bool.false_eq_true, if_false]
    refine ⟨?_, by omega, by omega, by omega, fun j j1 j2 => ?_⟩
    · unfold hasB mem
      rw [hnext, insB_add, hi']
      have : decide (0 ≤ (es.getD c 0 : Int) ∧ (es.getD c 0 : Int) < L) = true := decide_eq_true ⟨by omega, by omega⟩
      rw [this]; cases inn <;> rfl
    · unfold hasB mem
      rw [hmid (j + 1) (by omega) (by omega), hi']
      have : decide (0 ≤ j ∧ j < (L : Int)) = true := by simp; omega
      rw [this]; cases inn <;> rfl
theorem first_false {L : Nat} {es : List Nat} (g : Good L es) {fr : Int} {inn : Bool} (h : firstB L es fr inn = false) :
    firstV L es fr inn = 0 ∧ ∀ j : Int, fI fr ≤ j → j < L → hasB L es j = !inn := by
  have hf0 : 0 ≤ fI fr ∧ fr ≤ fI fr := by unfold fI; split <;> omega
  refine ⟨by unfold firstV; rw [h]; rfl, fun j j1 j2 => ?_⟩
  unfold firstB at h
  have hlt : fI fr < L := by omega
  have hd : decide (fI fr < (L : Int)) = true := by simpa using hlt
  rw [hd] at h
  have hi' : insB (cnt es (fI fr + 1)) = !inn := by
    revert h; cases insB (cnt es (fI fr + 1)) <;> cases inn <;> simp
  have hcl := cnt_le es (fI fr + 1)
  have hlast : ∀ i, cnt es (fI fr + 1) ≤ i → i < es.length → (L : Int) ≤ es.getD i 0 := fun i hi hl => by
    have hcond : ¬ (cnt es (fI fr + 1) < es.length ∧ es.getD (cnt es (fI fr + 1)) 0 < L) := by
      intro hh; revert h; rw [hi', decide_eq_true hh.1, decide_eq_true hh.2]; cases inn <;> simp
    by_cases e : i = cnt es (fI fr + 1)
    · subst e; omega
    · have := rising_get g.rising (show cnt es (fI fr + 1) < i by omega) hl
      have h3 : ¬ es.getD (cnt es (fI fr + 1)) 0 < L := fun hh => hcond ⟨by omega, hh⟩
      omega
  have hmid : cnt es (j + 1) = cnt es (fI fr + 1) := by
    refine cnt_of hcl (fun i hi => ?_) (fun i hi hl => ?_)
    · have := get_lt g.rising (x := fI fr + 1) (i := i) hi; omega
    · have := hlast i hi hl; omega
  unfold hasB mem
  rw [hmid, hi']
  have : decide (0 ≤ j ∧ j < (L : Int)) = true := by simp; omega
  rw [this]; cases inn <;> rfl
end Go.Proofs.YtmnhpmgffhpoeaaGreat.Bt
