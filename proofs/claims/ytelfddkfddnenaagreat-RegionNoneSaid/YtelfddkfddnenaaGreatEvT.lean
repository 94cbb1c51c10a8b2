/- equality's operations, calls, guards. -/
import Derived.Test.YtelfddkfddnenaaGreatEvS
namespace Ev
open Go Go.RowKit
set_option linter.unusedVariables false
set_option linter.unusedSimpArgs false
section
variable {X : Spx} {P : Program} {nt : Nat}
def Cmp (a : Value) : Prop := (∃ x, a = .bool x) ∨ (∃ x, a = .pointer x) ∨ ∃ x, a = .agg x
theorem run_eqs {T : TypeId} {a b : Value} {r : Bool} {w : World} (ha : Cmp a) (hg : P.eqGuardType P.depth T = false) (h : (Op.equalIn 10000 T a b).run P w = .ok r w) (s t : Operand) :
    (do eqGuard .eql T s t a b; binOp .eql T a b : Sem Value).run P w = .ok (.bool r) w ∧ (do eqGuard .neq T s t a b; binOp .neq T a b : Sem Value).run P w = .ok (.bool !r) w := by
  have g : ∀ op, (eqGuard op T s t a b).run P w = .ok () w := by
    intro op
    rcases ha with ⟨x, rfl⟩ | ⟨x, rfl⟩ | ⟨x, rfl⟩
    · cases op <;> cases b <;> rfl
    · cases op <;> cases b <;> rfl
    · cases b
      case agg ys => exact run_eqGuard_agg w op T s t x ys hg
      all_goals cases op <;> rfl
  have e1 : binOp .eql T a b = (do pure (.bool (← Op.equal T a b))) := by
    rcases ha with ⟨x, rfl⟩ | ⟨x, rfl⟩ | ⟨x, rfl⟩ <;> cases b <;> rfl
  have e2 : binOp .neq T a b = (do pure (.bool (!(← Op.equal T a b)))) := by
    rcases ha with ⟨x, rfl⟩ | ⟨x, rfl⟩ | ⟨x, rfl⟩ <;> cases b <;> rfl
  have h' : (Op.equal T a b).run P w = .ok r w := h
  constructor
  · rw [Sem.run_bind, g, Result.andThen_ok, e1, Sem.run_bind, h', Result.andThen_ok]; rfl
  · rw [Sem.run_bind, g, Result.andThen_ok, e2, Sem.run_bind, h', Result.andThen_ok]; rfl
theorem eq_cmp {f T : Nat} {q : Q} {D : TypeDesc} (hc : cQ P (types P) f T = some q) (hD : und (types P) T = some D) (h1 : ∀ k, D ≠ .int k) (h2 : D ≠ .string) {h : HP} {x y : V} {k : Bool → R} {v' : V} {h' : HP} {c' : Nat} (H : eQ q h x y k = .fin v' h' c')
    {ρ : Rho} {a : Value} (ha : den ρ x = some a) : Cmp a := by
  cases f with
  | zero => simp [cQ] at hc
  | succ f =>
    unfold cQ at hc
    rw [hD] at hc
    cases D <;> simp only at hc <;> first | cases hc | skip
    · obtain ⟨m, e1, e2⟩ := asB_fin H
      exact .inl ⟨_, bool_den e1 ha⟩
    · exact absurd rfl (h1 _)
    · exact absurd rfl h2
    · rename_i e
      cases hb : Nat.beq (siz (types P) e) 0 with
      | true => rw [hb] at hc; cases hc
      | false =>
        rw [hb] at hc; cases hc
        rcases asQ_fin H with ⟨e1, e2⟩ | ⟨b, o, e1, e2⟩
        · subst e1; simp only [den, Option.some.injEq] at ha; exact .inr (.inl ⟨_, ha.symm⟩)
        · obtain ⟨p, _, d2⟩ := ptr_den e1 ha; exact .inr (.inl ⟨_, d2⟩)
    · cases hb : P.stoodInHeld T with
      | true => rw [hb] at hc; cases hc
      | false =>
        rw [hb] at hc
        simp only [cond_false, Option.map_eq_some_iff] at hc
        obtain ⟨l, _, rfl⟩ := hc
        rw [eQ_st] at H
        obtain ⟨l1, e1, e2⟩ := asA_fin H
        obtain ⟨r1, _, d2⟩ := agg_den e1 ha
        exact .inr (.inr ⟨_, d2⟩)
variable {o : Oper} {d : DS}
theorem snd_eq {T : TypeId} {x y : Operand} {D : TypeDesc} {q : Q} {y1 y2 : OP} {p : TypeId} (hop : o.op = .binOp .eql T x y p) (hd : cDst nt o.dst = .mk d) (h1 : cOpd nt x = .mk y1) (h2 : cOpd nt y = .mk y2) (hD : und (types P) T = some D) (hi : ∀ k, D ≠ .int k) (hs : D ≠ .string)
    (hg : P.eqGuardType P.depth T = false) (hq : cQ P (types P) 10 T = some q) : VSnd X P nt d (fEq d q y1 y2) o := by
  refine VSnd.of (by rw [hop]; simp) hd fun cal t h c df k v' h' c' e => ?_
  obtain ⟨r, e1, _, _, e4⟩ := eQ_ok hq e
  rw [bol_eq] at e1
  refine ⟨_, e1, fun w0 ρ a w hR hTR => ⟨.bool r, by simp [den], ?_⟩⟩
  have := (run_eqs (eq_cmp hq hD hi hs e (opd_den h1 hTR)) hg ((e4 hR (opd_den h1 hTR) (opd_den h2 hTR)).1 10000 (by omega)) x y).1
  simp only [execOp, hop, Sem.run_bind] at this ⊢
  rw [this]; rfl
theorem snd_ne {T : TypeId} {x y : Operand} {D : TypeDesc} {q : Q} {y1 y2 : OP} {p : TypeId} (hop : o.op = .binOp .neq T x y p) (hd : cDst nt o.dst = .mk d) (h1 : cOpd nt x = .mk y1) (h2 : cOpd nt y = .mk y2) (hD : und (types P) T = some D) (hi : ∀ k, D ≠ .int k) (hs : D ≠ .string)
    (hg : P.eqGuardType P.depth T = false) (hq : cQ P (types P) 10 T = some q) : VSnd X P nt d (fNe d q y1 y2) o := by
  refine VSnd.of (by rw [hop]; simp) hd fun cal t h c df k v' h' c' e => ?_
  obtain ⟨r, e1, _, _, e4⟩ := eQ_ok hq e
  rw [nbl_eq] at e1
  refine ⟨_, e1, fun w0 ρ a w hR hTR => ⟨.bool !r, by simp [den], ?_⟩⟩
  have := (run_eqs (eq_cmp hq hD hi hs e (opd_den h1 hTR)) hg ((e4 hR (opd_den h1 hTR) (opd_den h2 hTR)).1 10000 (by omega)) x y).2
  simp only [execOp, hop, Sem.run_bind] at this ⊢
  rw [this]; rfl
theorem snd_bad {n : Nat} : OSnd X P nt (badO n) o := fun cal _ t h c df k v' h' c' e => (by cases e)
end
end Ev
