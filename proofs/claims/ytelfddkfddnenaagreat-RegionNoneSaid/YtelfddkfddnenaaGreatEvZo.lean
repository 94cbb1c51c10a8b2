/- functions that are known to tell true. -/
import Derived.Test.YtelfddkfddnenaaGreatEvZn
namespace Ev
open Go Go.RowKit
set_option linter.unusedVariables false
set_option linter.unusedSimpArgs false
noncomputable def okR (r : R) : Bool := R.rec (motive := fun _ => Bool) (fun _ => false) (fun v _ _ => V.rec (motive_1 := fun _ => Bool) (motive_2 := fun _ => Unit) false false false false (fun _ => false) (fun _ _ => false) (fun _ => false) (fun _ _ _ _ _ => false) (fun _ _ => false) (fun _ _ => false) (fun _ => false) (fun _ _ _ _ _ => false) (fun _ _ => false) (fun b => b) (fun _ _ => false) (fun _ _ => false) () (fun _ _ _ _ => ()) v) r
theorem okR_fin {r : R} (h : okR r = true) : ∃ hh c, r = .fin (.b true) hh c := by
  cases r with
  | bad n => cases h
  | fin v hh c =>
    cases v with
    | b x => cases x with | true => exact ⟨hh, c, rfl⟩ | false => cases h
    | _ => cases h
section
variable {P : Program}
/-- the functions with those of a list known; strings.Join (jn) -/
noncomputable def ftK (P : Program) (jn : Nat) : List Nat → T CF
  | [] => T.setK .no .jn (table P) jn fun t => t
  | g :: l => T.setK .no (.kn (.b true)) (ftK P jn l) g fun t => t
theorem ftK_ok {jn : Nat} (hj : JnOK P jn) : ∀ {l : List Nat}, (∀ g ∈ l, KnOK P g (.b true)) → FTok P (ftK P jn l)
  | [], _ => fun j => by
    have ih := table_ok P j
    show (∀ rs b r, T.get CF.no (T.setK .no .jn (table P) jn fun t => t) j = .fn rs b r → _) ∧ (∀ v, T.get CF.no (T.setK .no .jn (table P) jn fun t => t) j = .kn v → _) ∧ (T.get CF.no (T.setK .no .jn (table P) jn fun t => t) j = .jn → _)
    rw [get_setK]
    split
    · rename_i e
      subst e
      exact ⟨fun _ _ _ hh => (by cases hh), fun v hh => (by cases hh), fun _ => hj⟩
    · exact ih
  | g :: l, h => fun j => by
    have ih := ftK_ok hj (l := l) (fun x hx => h x (List.mem_cons_of_mem _ hx)) j
    show (∀ rs b r, T.get CF.no (T.setK .no (.kn (.b true)) (ftK P jn l) g fun t => t) j = .fn rs b r → _) ∧ (∀ v, T.get CF.no (T.setK .no (.kn (.b true)) (ftK P jn l) g fun t => t) j = .kn v → _) ∧ (T.get CF.no (T.setK .no (.kn (.b true)) (ftK P jn l) g fun t => t) j = .jn → _)
    rw [get_setK]
    split
    · rename_i e
      subst e
      exact ⟨fun _ _ _ hh => (by cases hh), fun v hh => (by cases hh; exact h _ (by simp)), fun hh => (by cases hh)⟩
    · exact ih
/-- a run that tells true -/
theorem kn_of {jn : Nat} (hj : JnOK P jn) (hm : P.follows .mixedOrders = true) {l : List Nat} (hl : ∀ g ∈ l, KnOK P g (.b true)) {n f : Nat} (e : okR (run (ftK P jn l) (n + 1) f) = true) : KnOK P f (.b true) := by
  obtain ⟨hh, c, e⟩ := okR_fin e
  have hD := drawn_ok noX_no hm
  have hft := ftK_ok hj hl
  obtain ⟨fn, bd, hfn, hname, hb, _⟩ := callE_ok hD hft (callN_ok hD hft n) (show callE slots (ftK P jn l) (callN slots (ftK P jn l) n) f [] h0 0 (fun v h c => .fin v h c) = .fin (.b true) hh c from e)
  exact ⟨fn, bd, .bool true, hfn, hname, hb, fun ρ => by simp [den], fun w => run_ok hD hft (x := .bool true) e (fun ρ => by simp [den]) w⟩
/-- what that says of its calls -/
theorem KnOK.calls {g : Nat} (h : KnOK P g (.b true)) (w : World) : Calls P g #[] w fun e w' => e = .returned (.bool true) ∧ Below w.heap.size w w' := by
  obtain ⟨fn, bd, x, h1, h2, h3, h4, h5⟩ := h
  have := h4 fun _ => none
  simp only [den, Option.some.injEq] at this
  subst this
  exact h5 w
end
end Ev
