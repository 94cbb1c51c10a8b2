/- guards, regions that are not drawn. -/
import Derived.Test.YtelfddkfddnenaaGreatEvU
namespace Ev
open Go Go.RowKit
set_option linter.unusedVariables false
set_option linter.unusedSimpArgs false
section
variable (X : Spx) (P : Program)
def GSnd (nt : Nat) (ops : Array Oper) (f : OC) (o : Oper) : Prop := ∀ cal, CalOK X P cal → ∀ t h c df k v' h' c', f cal t h c df k = .fin v' h' c' →
  ∃ t1 h1 c1, k t1 h1 c1 df = .fin v' h' c' ∧ ∀ w0 ρ a w r n Q K, HR X P w0 ρ h c w → TR ρ nt t a.tmps →
    (∀ ρ' a' w', Le ρ ρ' → HR X P w0 ρ' h1 c1 w' → TR ρ' nt t1 a'.tmps → Kp h h1 c → c ≤ c1 → a'.defers = a.defers → K a' w') →
    if Region.wanted o (yielded ops a.tmps) = true then o.wpIn (Fr r) n P a w K Q else K (a.put o.dst undef) w
def RSnd (nt : Nat) (ops : Array Oper) (f : OC) (is : List Nat) : Prop := ∀ cal, CalOK X P cal → ∀ t h c df k v' h' c', f cal t h c df k = .fin v' h' c' →
  ∃ t1 h1 c1, k t1 h1 c1 df = .fin v' h' c' ∧ ∀ w0 ρ a w r n Q, HR X P w0 ρ h c w → TR ρ nt t a.tmps →
    (∀ ρ' a' w', Le ρ ρ' → HR X P w0 ρ' h1 c1 w' → TR ρ' nt t1 a'.tmps → Kp h h1 c → c ≤ c1 → a'.defers = a.defers → Q .normal a' w') → wpOpsIn (Fr r) n P ops Q is a w
end
section
variable {X : Spx} {P : Program} {nt : Nat} {o : Oper} {d : DS} {ops : Array Oper}
theorem den_b {ρ : Rho} {v : V} {b : Bool} (h : den ρ v = some (.bool b)) : v = .b b := by
  cases v <;> simp only [den, Option.map_eq_some_iff, Option.bind_eq_some_iff, Option.some.injEq, reduceCtorEq, and_false, exists_false, Value.bool.injEq] at h
  · cases h
  · rw [h]
theorem cGO_ok {f : OC} (h : cGO P (types P) nt ops o = .mk f) : GSnd X P nt ops f o := by
  unfold cGO at h
  split at h
  · rename_i hg
    intro cal hcal t hh c df k v' h' c' e
    obtain ⟨t1, h1, c1, e1, hw⟩ := cOp_ok h cal hcal t hh c df k v' h' c' e
    refine ⟨t1, h1, c1, e1, fun w0 ρ a w r n Q K hR hT hK => ?_⟩
    rw [if_pos (by simp [Region.wanted, hg])]
    exact hw w0 ρ a w r n Q K hR hT hK
  · rename_i j want hg
    split at h
    · rename_i t0 ht0
      rcases bx_cases h with ⟨g, hgo, h⟩ | rfl
      case inr => intro cal _ t hh c df k v' h' c' e; exact (by cases e)
      rcases bx_cases h with ⟨d, hd, h⟩ | rfl
      case inr => intro cal _ t hh c df k v' h' c' e; exact (by cases e)
      rcases bx_cases h with ⟨f0, hf, h⟩ | rfl
      case inr => intro cal _ t hh c df k v' h' c' e; exact (by cases e)
      cases h
      intro cal hcal t hh c df k v' h' c' e
      have hwant : ∀ {ρ : Rho} {a : Act}, TR ρ nt t a.tmps → (∀ b, g t = .b b → Region.wanted o (yielded ops a.tmps) = (b == want)) ∧ ((∀ b, g t ≠ .b b) → Region.wanted o (yielded ops a.tmps) = false) := by
        intro ρ a hT
        have hv := opd_den hgo hT
        have he : a.eval (.tmp t0) = a.tmps.getD t0 undef := rfl
        rw [he] at hv
        constructor
        · intro b hb
          have hx := bool_den hb hv
          have hget : a.tmps[t0]? = some (.bool b) := by
            rw [Array.getD_eq_getD_getElem?] at hx
            cases hq : a.tmps[t0]? with
            | none => rw [hq] at hx; simp [undef] at hx
            | some y => rw [hq] at hx; simp at hx; rw [hx]
          simp [Region.wanted, hg, yielded, ht0, hget]
        · intro hb
          have hno : yielded ops a.tmps j = none := by
            unfold yielded
            rw [ht0]
            simp only [Option.bind_some]
            split
            · rename_i b hq
              exfalso
              rw [Array.getD_eq_getD_getElem?, hq] at hv
              exact hb b (den_b hv)
            · rfl
          simp [Region.wanted, hg, hno]
      have skip : (d .u t fun t => k t hh c df) = .fin v' h' c' → (∀ {ρ : Rho} {a : Act}, TR ρ nt t a.tmps → Region.wanted o (yielded ops a.tmps) = false) →
          ∃ t1 h1 c1, k t1 h1 c1 df = .fin v' h' c' ∧ ∀ w0 ρ a w r n Q K, HR X P w0 ρ hh c w → TR ρ nt t a.tmps →
            (∀ ρ' a' w', Le ρ ρ' → HR X P w0 ρ' h1 c1 w' → TR ρ' nt t1 a'.tmps → Kp hh h1 c → c ≤ c1 → a'.defers = a.defers → K a' w') →
            if Region.wanted o (yielded ops a.tmps) = true then o.wpIn (Fr r) n P a w K Q else K (a.put o.dst undef) w := by
        intro e2 hw
        obtain ⟨t1, ht1, e3⟩ := dst_eq hd .u t fun t => k t hh c df
        rw [e3] at e2
        refine ⟨t1, hh, c, e2, fun w0 ρ a w r n Q K hR hT hK => ?_⟩
        rw [if_neg (by rw [hw hT]; simp)]
        obtain ⟨g7, g8⟩ := dst_ok hd ht1 hT (x := undef) (by simp [den])
        exact hK ρ _ w (Le.refl _) hR g7 (Kp.refl _ _) (Nat.le_refl _) g8
      have go : f0 cal t hh c df k = .fin v' h' c' → (∀ {ρ : Rho} {a : Act}, TR ρ nt t a.tmps → Region.wanted o (yielded ops a.tmps) = true) →
          ∃ t1 h1 c1, k t1 h1 c1 df = .fin v' h' c' ∧ ∀ w0 ρ a w r n Q K, HR X P w0 ρ hh c w → TR ρ nt t a.tmps →
            (∀ ρ' a' w', Le ρ ρ' → HR X P w0 ρ' h1 c1 w' → TR ρ' nt t1 a'.tmps → Kp hh h1 c → c ≤ c1 → a'.defers = a.defers → K a' w') →
            if Region.wanted o (yielded ops a.tmps) = true then o.wpIn (Fr r) n P a w K Q else K (a.put o.dst undef) w := by
        intro e2 hw
        obtain ⟨t1, h1, c1, e1, hw2⟩ := cOp_ok hf cal hcal t hh c df k v' h' c' e2
        refine ⟨t1, h1, c1, e1, fun w0 ρ a w r n Q K hR hT hK => ?_⟩
        rw [if_pos (hw hT)]
        exact hw2 w0 ρ a w r n Q K hR hT hK
      rcases asW_fin e with ⟨b, e1, e2⟩ | ⟨e1, e2⟩
      · cases b <;> cases want
        · exact go e2 fun hT => by rw [(hwant hT).1 _ e1]; rfl
        · exact skip e2 fun hT => by rw [(hwant hT).1 _ e1]; rfl
        · exact skip e2 fun hT => by rw [(hwant hT).1 _ e1]; rfl
        · exact go e2 fun hT => by rw [(hwant hT).1 _ e1]; rfl
      · exact skip e2 fun hT => (hwant hT).2 e1
    · cases h; intro cal _ t hh c df k v' h' c' e; exact (by cases e)
theorem cReg_ok : ∀ (l : List Oper) (i : Nat) (f : OC), ops.toList.drop i = l → cReg P (types P) nt ops l = .mk f → RSnd X P nt ops f (List.range' i l.length)
  | [], i, f, hl, h => by
    cases h
    intro cal _ t hh c df k v' h' c' e
    exact ⟨t, hh, c, e, fun w0 ρ a w r n Q hR hT hK => hK ρ a w (Le.refl _) hR hT (Kp.refl _ _) (Nat.le_refl _) rfl⟩
  | o :: l, i, f, hl, h => by
    unfold cReg at h
    rcases bx_cases h with ⟨f1, h1, h⟩ | rfl
    case inr => intro cal _ t hh c df k v' h' c' e; exact (by cases e)
    rcases bx_cases h with ⟨f2, h2, h⟩ | rfl
    case inr => intro cal _ t hh c df k v' h' c' e; exact (by cases e)
    cases h
    have hlt : i < ops.toList.length := by
      have := congrArg List.length hl; simp only [List.length_drop, List.length_cons] at this; omega
    have hget : ops[i]? = some o := by
      have e := congrArg (·[0]?) hl
      simpa [List.getElem?_drop] using e
    have hnext : ops.toList.drop (i + 1) = l := by
      have := congrArg List.tail hl
      simpa [List.tail_drop] using this
    have ih := cReg_ok l (i + 1) f2 hnext h2
    intro cal hcal t hh c df k v' h' c' e
    obtain ⟨t1, hh1, c1, e1, w1⟩ := cGO_ok h1 cal hcal t hh c df (fun t h c df => f2 cal t h c df k) v' h' c' e
    obtain ⟨t2, hh2, c2, e2, w2⟩ := ih cal hcal t1 hh1 c1 df k v' h' c' e1
    refine ⟨t2, hh2, c2, e2, fun w0 ρ a w r n Q hR hT hK => ?_⟩
    have := w1 w0 ρ a w r n Q (wpOpsIn (Fr r) n P ops Q (List.range' (i + 1) l.length)) hR hT fun ρ' a' w' l1 r1 r2 r3 r4 r5 =>
      w2 w0 ρ' a' w' r n Q r1 r2 fun ρ2 a2 w2' l2 q1 q2 q3 q4 q5 => hK ρ2 a2 w2' (l1.trans l2) q1 q2 (r3.trans q3 r4) (Nat.le_trans r4 q4) (q5.trans r5)
    simp only [List.length_cons, List.range'_succ, wpOpsIn, hget]
    split
    · rename_i hw; rw [if_pos hw] at this; exact this
    · rename_i hw; rw [if_neg hw] at this; exact ⟨fun _ _ => trivial, this⟩
end
end Ev
