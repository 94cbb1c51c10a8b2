/- a light operation, guard and all, in a drawn region. -/
import Derived.Test.YtelfddkfddnenaaGreatEvZf
namespace Ev
open Go Go.RowKit
set_option linter.unusedVariables false
set_option linter.unusedSimpArgs false
/-- what a light operation yields, in whatever world that the memory stands for -/
def FL (X : Spx) (P : Program) (nt : Nat) (ops : Array Oper) (o : Oper) (t : TM) (h : HP) (c : Nat) (v : V) : Prop := ∀ b ρ w (a : Act), HR X P b ρ h c w → TR ρ nt t a.tmps → ∃ x, den ρ v = some x ∧
  ((Region.wanted o (yielded ops a.tmps) = true ∧ (execOp a.eval o).run P w = .ok (.value x) w) ∨ (Region.wanted o (yielded ops a.tmps) = false ∧ x = undef))
section
variable {X : Spx} {P : Program} {nt : Nat} {o : Oper} {ops : Array Oper}
/-- a guard's word -/
theorem guard_ok {j : Nat} {want : Bool} (hg : o.guard = some (j, want)) {t0 : Nat} (ht0 : (ops[j]?).bind (·.dst) = some t0) {g : OP} (hgo : cOpd nt (.tmp t0) = .mk g) {t : TM} {ρ : Rho} {a : Act} (hT : TR ρ nt t a.tmps) :
    (∀ b, g t = .b b → Region.wanted o (yielded ops a.tmps) = (b == want)) ∧ ((∀ b, g t ≠ .b b) → Region.wanted o (yielded ops a.tmps) = false) := by
  have hv := opd_den hgo hT
  have he : a.eval (.tmp t0) = a.tmps.getD t0 undef := rfl
  rw [he] at hv
  constructor
  · intro b hb
    have hx := bool_den hb hv
    have hget : a.tmps[t0]? = some (.bool b) := by
      rw [Array.getD_eq_getD_getElem?] at hx
      cases hq : a.tmps[t0]? with
      | none => rw [hq] at hx; simp [undef] at hx
      | some y => rw [hq] at hx; simp at hx; rw [hx]
    simp [Region.wanted, hg, yielded, ht0, hget]
  · intro hb
    have hno : yielded ops a.tmps j = none := by
      unfold yielded
      rw [ht0]
      simp only [Option.bind_some]
      split
      · rename_i b hq
        exfalso
        rw [Array.getD_eq_getD_getElem?, hq] at hv
        exact hb b (den_b hv)
      · rfl
    simp [Region.wanted, hg, hno]
theorem cGO_light {f : OC} (hl : isLight o.op = true) (h : cGO P (types P) nt ops o = .mk f) : ∀ cal t hh c df k v' h' c', f cal t hh c df k = .fin v' h' c' → ∃ v t1, dT o.dst t v t1 ∧ (∀ n, o.dst = some n → n < nt ∧ n < 256) ∧ k t1 hh c df = .fin v' h' c' ∧ FL X P nt ops o t hh c v := by
  intro cal t hh c df k v' h' c' e
  unfold cGO at h
  split at h
  · rename_i hg
    obtain ⟨v, t1, h1, h2, h3, h4⟩ := (cOp_both (X := X) h).2 hl cal t hh c df k v' h' c' e
    refine ⟨v, t1, h1, h2, h3, fun b ρ w a hR hT => ?_⟩
    obtain ⟨x, g1, g2⟩ := h4 b ρ a w hR hT
    exact ⟨x, g1, .inl ⟨by simp [Region.wanted, hg], g2⟩⟩
  · rename_i j want hg
    split at h
    · rename_i t0 ht0
      rcases bx_cases h with ⟨g, hgo, h⟩ | rfl
      case inr => exact (by cases e)
      rcases bx_cases h with ⟨d, hd, h⟩ | rfl
      case inr => exact (by cases e)
      rcases bx_cases h with ⟨f0, hf, h⟩ | rfl
      case inr => exact (by cases e)
      cases h
      have hdn : ∀ n, o.dst = some n → n < nt ∧ n < 256 := fun n hn => by
        rw [hn] at hd
        simp only [cDst] at hd
        cases hb : okT nt n with
        | false => rw [hb] at hd; cases hd
        | true => exact okT_iff.1 hb
      have skip : (d .u t fun t => k t hh c df) = .fin v' h' c' → (∀ {ρ : Rho} {a : Act}, TR ρ nt t a.tmps → Region.wanted o (yielded ops a.tmps) = false) →
          ∃ v t1, dT o.dst t v t1 ∧ (∀ n, o.dst = some n → n < nt ∧ n < 256) ∧ k t1 hh c df = .fin v' h' c' ∧ FL X P nt ops o t hh c v := by
        intro e2 hw
        obtain ⟨t1, ht1, e3⟩ := dst_eq hd .u t fun t => k t hh c df
        rw [e3] at e2
        exact ⟨.u, t1, ht1, hdn, e2, fun b ρ w a hR hT => ⟨undef, by simp [den], .inr ⟨hw hT, rfl⟩⟩⟩
      have go : f0 cal t hh c df k = .fin v' h' c' → (∀ {ρ : Rho} {a : Act}, TR ρ nt t a.tmps → Region.wanted o (yielded ops a.tmps) = true) →
          ∃ v t1, dT o.dst t v t1 ∧ (∀ n, o.dst = some n → n < nt ∧ n < 256) ∧ k t1 hh c df = .fin v' h' c' ∧ FL X P nt ops o t hh c v := by
        intro e2 hw
        obtain ⟨v, t1, h1, h2, h3, h4⟩ := (cOp_both (X := X) hf).2 hl cal t hh c df k v' h' c' e2
        refine ⟨v, t1, h1, h2, h3, fun b ρ w a hR hT => ?_⟩
        obtain ⟨x, g1, g2⟩ := h4 b ρ a w hR hT
        exact ⟨x, g1, .inl ⟨hw hT, g2⟩⟩
      rcases asW_fin e with ⟨b, e1, e2⟩ | ⟨e1, e2⟩
      · cases b <;> cases want
        · exact go e2 fun hT => by rw [(guard_ok hg ht0 hgo hT).1 _ e1]; rfl
        · exact skip e2 fun hT => by rw [(guard_ok hg ht0 hgo hT).1 _ e1]; rfl
        · exact skip e2 fun hT => by rw [(guard_ok hg ht0 hgo hT).1 _ e1]; rfl
        · exact go e2 fun hT => by rw [(guard_ok hg ht0 hgo hT).1 _ e1]; rfl
      · exact skip e2 fun hT => (guard_ok hg ht0 hgo hT).2 e1
    · cases h; exact (by cases e)
theorem isLight_ne (hl : isLight o.op = true) : (∀ cs b, o.op ≠ .select cs b) ∧ ∀ c, o.op ≠ .defer c := ⟨fun _ _ hh => (by rw [hh] at hl; cases hl), fun _ hh => (by rw [hh] at hl; cases hl)⟩
/-- .. where the program comes to it -/
theorem FL.go {i : Nat} {t : TM} {h : HP} {c : Nat} {v : V} (H : FL X P nt ops o t h c v) (hi : ops[i]? = some o) (hl : isLight o.op = true) {b : Base} {ρ : Rho} {w : World} {a a' : Act} (hR : HR X P b ρ h c w) (hT : TR ρ nt t a'.tmps) (hA : Agrees ops o a a')
    {r : Option Nat} {n : Nat} {Q : Exit → Act → World → Prop} {K : Act → World → Prop} (hK : ∀ x, den ρ v = some x → K (a.put o.dst x) w) : wpOpIn (Fr r) n P ops Q i K a w := by
  obtain ⟨x, g1, g2⟩ := H b ρ w a' hR hT
  unfold wpOpIn
  simp only [hi]
  rcases g2 with ⟨g2, g3⟩ | ⟨g2, rfl⟩
  · rw [hA.wanted, g2]
    simp only [if_true]
    refine ⟨fun _ _ => trivial, ?_⟩
    rw [Oper.semAt_eq _ _ _ (isLight_ne hl).2, hA.exec (isLight_ne hl).1, g3]
    exact hK x g1
  · rw [hA.wanted, g2]
    exact ⟨fun _ _ => trivial, hK _ g1⟩
end
end Ev
