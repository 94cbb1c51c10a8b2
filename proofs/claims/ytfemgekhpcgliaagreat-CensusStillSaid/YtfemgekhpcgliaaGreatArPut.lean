/- The contract of Put: what it returns, and what it turns. -/
import Derived.Test.YtfemgekhpcgliaaGreatArBytes
import Derived.Test.YtfemgekhpcgliaaGreatRoundHeld
namespace Go.Proofs.YtfemgekhpcgliaaGreat.Bt
open Go Go.RowKit Go.Shelf
set_option linter.unusedVariables false
set_option linter.unusedSimpArgs false

attribute [local go_sem] Oper.semAt_some

/-- the arena's bytes where the pieces so far have been laid -/
def covM {a n : Nat} (m : Nat → UInt8) (str : List UInt8) (l : List (Pc a n)) : Nat → UInt8 := fun k => if a ≤ k ∧ k < a + n ∧ cov l (k - a) = true then str.getD (k - a) 0 else m k
theorem covM_nil {a n : Nat} (m : Nat → UInt8) (str : List UInt8) : covM (a := a) (n := n) m str [] = m := by
  funext k; unfold covM; rw [if_neg (by rintro ⟨_, _, h⟩; cases h)]
theorem covM_all {a n : Nat} (m : Nat → UInt8) (str : List UInt8) (hs : str.length = n) (l : List (Pc a n)) (h : ∀ i, i < n → cov l i = true) : covM m str l = putM m a str := by
  funext k; unfold covM putM
  by_cases hk : a ≤ k ∧ k < a + n
  · rw [if_pos ⟨hk.1, hk.2, h _ (by omega)⟩, if_pos (by omega)]
  · rw [if_neg (by rintro ⟨x, y, _⟩; exact hk ⟨x, y⟩), if_neg (by omega)]
theorem covM_snoc {a n : Nat} (m : Nat → UInt8) (str : List UInt8) (l : List (Pc a n)) (x : Pc a n) (k : Nat) :
    covM m str (l ++ [x]) k = if a + x.1.1 ≤ k ∧ k < a + x.1.1 + x.1.2 then str.getD (k - a) 0 else covM m str l k := by
  have hx := x.2
  unfold covM
  rw [cov_snoc]
  by_cases h1 : a + x.1.1 ≤ k ∧ k < a + x.1.1 + x.1.2
  · rw [if_pos h1, if_pos ⟨by omega, by omega, by rw [decide_eq_true (by omega), Bool.or_true]⟩]
  · rw [if_neg h1]
    by_cases h2 : a ≤ k ∧ k < a + n ∧ cov l (k - a) = true
    · rw [if_pos h2, if_pos ⟨h2.1, h2.2.1, by rw [h2.2.2, Bool.true_or]⟩]
    · rw [if_neg h2, if_neg]
      rintro ⟨x1, x2, x3⟩
      rw [Bool.or_eq_true, decide_eq_true_iff] at x3
      rcases x3 with x3 | x3
      · exact h2 ⟨x1, x2, x3⟩
      · omega
theorem own_not {A P n cap : Nat} {s : ASt} {ps : List (Option Nat)} {p : Option Addr} {x : World} (h : ArX A s P ps p n cap x) {k : Nat} {c : Array Value} {T : TypeId} {fr : Nat × Nat} (hk : x.heap[k]? = some (.cells c T fr))
    (h1 : T ≠ 86) (h2 : T ≠ 96) (h3 : T ≠ 98) : ¬ Own A P ps k := by
  rintro (rfl | rfl | ⟨i, hi⟩)
  · rw [h.hd] at hk; simp only [Option.some.injEq, Obj.cells.injEq] at hk; exact h1 hk.2.1.symm
  · rw [h.row] at hk; simp only [Option.some.injEq, Obj.cells.injEq] at hk; exact h2 hk.2.1.symm
  · rw [h.pg i k hi] at hk; simp only [Option.some.injEq, Obj.cells.injEq] at hk; exact h3 hk.2.1.symm
theorem own_cells {A P n cap : Nat} {s : ASt} {ps : List (Option Nat)} {p : Option Addr} {x : World} (h : ArX A s P ps p n cap x) {k : Nat} {o : Obj} (hk : x.heap[k]? = some o) (ho : o.isCells = false) : ¬ Own A P ps k := by
  rintro (rfl | rfl | ⟨i, hi⟩)
  · rw [h.hd] at hk; simp only [Option.some.injEq] at hk; rw [← hk] at ho; cases ho
  · rw [h.row] at hk; simp only [Option.some.injEq] at hk; rw [← hk] at ho; cases ho
  · rw [h.pg i k hi] at hk; simp only [Option.some.injEq] at hk; rw [← hk] at ho; cases ho
theorem Step.others {A P n cap : Nat} {s : ASt} {ps ps' : List (Option Nat)} {p : Option Addr} {x y : World} (h : ArX A s P ps p n cap x) (st : Step A P ps ps' x y) : KeepsOthers x y :=
  ⟨st.size, fun k o hk ho => (st.block k (Array.getElem?_eq_some_iff.1 hk).1 (own_cells h hk ho)).trans hk⟩
theorem Step.setRow {A P n cap : Nat} {s : ASt} {ps : List (Option Nat)} {p : Option Addr} {x : World} {i b : Nat} (hb : ps[i]? = some (some b)) (c : Array Value) : Step A P ps ps x (x.setRow b c) :=
  ⟨rfl, rfl, rfl, by rw [setRow_size]; exact Nat.le_refl _, fun k _ hn => setRow_other _ _ _ _ (fun e => hn (.inr (.inr ⟨i, by rw [e]; exact hb⟩))), fun _ _ e => .inl e⟩
theorem ArX.grown {A P n cap : Nat} {s : ASt} {ps : List (Option Nat)} {p : Option Addr} {x y : World} {row : Option Nat} (h : ArX A s P ps p n cap x) (hg : x.grownBy y row) (hr : ∀ r, row = some r → ∃ o : Obj, x.heap[r]? = some o ∧ o.isCells = false) : ArX A s P ps p n cap y := by
  exact { h with
    hd := (grownBy_keeps_cells hg hr h.hd rfl).trans h.hd
    row := (grownBy_keeps_cells hg hr h.row rfl).trans h.row
    pg := fun i b hb => (grownBy_keeps_cells hg hr (h.pg i b hb) rfl).trans (h.pg i b hb)
    edges := by
      rcases h.edges with he | ⟨b, off, he, hlt, hc⟩
      · exact .inl he
      · exact .inr ⟨b, off, he, Nat.lt_of_lt_of_le hlt hg.size, fun k hk => cell_kept (hc k hk) hg hr⟩ }
theorem Step.grown {A P : Nat} {ps ps' : List (Option Nat)} {w x y : World} {row : Option Nat} (h : Step A P ps ps' w x) (hg : x.grownBy y row) (hr : ∀ r, row = some r → w.heap.size ≤ r) : Step A P ps ps' w y :=
  ⟨hg.os.trans h.os, hg.tape.trans h.tape, hg.output.trans h.output, Nat.le_trans h.size hg.size, fun k hk hn => (hg.block k (Nat.lt_of_lt_of_le hk h.size) (fun e => by have := hr k e.symm; omega)).trans (h.block k hk hn), h.news⟩

section
variable {A P n cap : Nat} {s : ASt} {ps : List (Option Nat)} {p : Option Addr} {w : World}
end
end Go.Proofs.YtfemgekhpcgliaaGreat.Bt
