/- Moves of a drawn region, in short. -/
import Derived.Deep.RegionHeld3
import Derived.Deep.RegionWith
import Derived.WalkKit
import Derived.Lib.Hide
namespace Go.Proofs.YtgcidfenjlmljaaGreat.Bt
open Go Go.RowKit
abbrev iV (x : Int) : Value := .int .i64 x
abbrev aD (b k : Nat) : Addr := ⟨b, k, none⟩
abbrev pT (b : Nat) : Value := .pointer (some ⟨b, 0, none⟩)
theorem eX {α : Sort _} (a : α) : ∃ x, a = x := ⟨a, rfl⟩
theorem hid {p : Prop} (h : p) : Hid p := Lib.hid h
theorem apu {α : Type} : type_of% (@List.getElem_toArray α) ∧ type_of% (@List.getElem_cons_zero α) ∧ type_of% (@List.getElem_cons_succ α) ∧ type_of% (@List.setIfInBounds_toArray α) ∧ type_of% (@List.set_cons_zero α) ∧ type_of% (@List.set_cons_succ α) := ⟨@List.getElem_toArray α, @List.getElem_cons_zero α, @List.getElem_cons_succ α, @List.setIfInBounds_toArray α, @List.set_cons_zero α, @List.set_cons_succ α⟩
theorem tk {P : Program} {ops : Array Oper} {Q : Exit → Act → World → Prop} {md : Region.Mode} {S : World → Prop} {oi : Oper} {fuel : Nat} {listed l' : Array Bool} {a a' : Act} {w : World} (i : Nat) (v : Value) (hi : ops[i]? = some oi)
    (hS : S w) (hy : ∀ w, S w → (execOp a.eval oi).run P w = .ok (.value v) w) (h : wpAnyH P md ops Q S fuel l' a' w)
    (hs : Region.noSelect ops = true := by kernel_rfl) (hf : Region.free md ops listed i = true := by kernel_rfl) (hr : (Region.ready md ops listed).contains i = true := by kernel_rfl)
    (hQ : ∀ c a w, Q (.panic c) (a.put oi.dst v) w → Q (.panic c) a w := by exact fun _ _ _ h => h) (hw : Region.wanted oi (yielded ops a.tmps) = true := by rfl) (hl : listed.setIfInBounds i true = l' := by rfl)
    (he : a.put oi.dst v = a' := by ((simp only [Act.put, List.getElem_toArray, List.getElem_cons_zero, List.getElem_cons_succ, List.setIfInBounds_toArray, List.set_cons_zero, List.set_cons_succ]) <;> rfl)) : wpAnyH P md ops Q S (fuel + 1) listed a w :=
  wpAnyH_take hi hs hf hr hQ (Or.inl ⟨hw, hy⟩) hS (by rw [hl, he]; exact h)
theorem tu {P : Program} {ops : Array Oper} {Q : Exit → Act → World → Prop} {md : Region.Mode} {S : World → Prop} {oi : Oper} {fuel : Nat} {listed l' : Array Bool} {a a' : Act} {w : World} (i : Nat) (hi : ops[i]? = some oi)
    (hS : S w) (h : wpAnyH P md ops Q S fuel l' a' w)
    (hs : Region.noSelect ops = true := by kernel_rfl) (hf : Region.free md ops listed i = true := by kernel_rfl) (hr : (Region.ready md ops listed).contains i = true := by kernel_rfl)
    (hQ : ∀ c a w, Q (.panic c) (a.put oi.dst undef) w → Q (.panic c) a w := by exact fun _ _ _ h => h) (hw : Region.wanted oi (yielded ops a.tmps) = false := by rfl) (hl : listed.setIfInBounds i true = l' := by rfl)
    (he : a.put oi.dst undef = a' := by ((simp only [Act.put, List.getElem_toArray, List.getElem_cons_zero, List.getElem_cons_succ, List.setIfInBounds_toArray, List.set_cons_zero, List.set_cons_succ]) <;> rfl)) : wpAnyH P md ops Q S (fuel + 1) listed a w :=
  wpAnyH_take hi hs hf hr hQ (Or.inr ⟨hw, rfl⟩) hS (by rw [hl, he]; exact h)
theorem rd {P : Program} {ops : Array Oper} {Q : Exit → Act → World → Prop} {md : Region.Mode} {S : World → Prop} {fuel : Nat} {listed : Array Bool} {a : Act} {w : World} (rs : List Nat)
    (h : AllReadyH P md ops Q S fuel listed a w rs) (hr : Region.ready md ops listed = rs := by kernel_rfl) (hne : rs ≠ [] := by simp) : wpAnyH P md ops Q S (fuel + 1) listed a w := wpAnyH_ready hr hne h
end Go.Proofs.YtgcidfenjlmljaaGreat.Bt
