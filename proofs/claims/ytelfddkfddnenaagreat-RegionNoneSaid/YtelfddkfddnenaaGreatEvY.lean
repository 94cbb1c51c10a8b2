/- all code; results; arguments. -/
import Derived.Test.YtelfddkfddnenaaGreatEvX
namespace Ev
open Go Go.RowKit
set_option linter.unusedVariables false
set_option linter.unusedSimpArgs false
section
variable (X : Spx) (P : Program)
/-- what is asked of the regions whose order is drawn -/
def DrawnOK : Prop := ∀ nt one id ops f, cDrawn P (types P) nt ops = .mk f → CSnd X P nt one f (.region id ops true)
end
section
variable {X : Spx} {P : Program}
theorem bc_cases {α : Type} {z : Nat} {b : Bx α} {g : α → Bx CC} {f : CC} (h : bc z b g = .mk f) : (∃ a, b = .mk a ∧ g a = .mk f) ∨ f = badC z := by
  cases b with
  | mk a => exact .inl ⟨a, rfl, h⟩
  | no => cases h; exact .inr rfl
theorem cC_ok (hD : DrawnOK X P) {g : Nat} {fn : Func} {bd : Code} {one : Bool} (hg : one = true → P.funcs[g]? = some fn ∧ fn.body = some bd) : ∀ (c : Code) (F : CC), cC P (types P) one g fn.ntmps c = .mk F → (one = true → ∀ x ∈ findR c, findR bd = [x]) → CSnd X P fn.ntmps one F c
  | .skip, F, h, _ => by unfold cC at h; cases h; exact csnd_skip
  | .ret, F, h, _ => by unfold cC at h; cases h; exact csnd_ret
  | .exit i, F, h, _ => by unfold cC at h; cases h; exact csnd_exit
  | .scope c, F, h, _ => by unfold cC at h; cases h; exact csnd_bad
  | .label c, F, h, _ => by unfold cC at h; cases h; exact csnd_bad
  | .goto c, F, h, _ => by unfold cC at h; cases h; exact csnd_bad
  | .refuse c, F, h, _ => by unfold cC at h; cases h; exact csnd_bad
  | .region id ops d, F, h, _ => by
    unfold cC at h
    cases d with
    | true => exact hD _ _ _ _ _ h
    | false =>
      rcases bc_cases h with ⟨f, h1, h⟩ | rfl
      · cases h
        have := cReg_ok (X := X) ops.toList 0 f (by simp) h1
        refine csnd_region ?_
        rw [List.range_eq_range']
        simpa using this
      · exact csnd_bad
  | .seq a b, F, h, hf => by
    unfold cC at h
    rcases bc_cases h with ⟨f1, h1, h⟩ | rfl
    case inr => exact csnd_bad
    rcases bc_cases h with ⟨f2, h2, h⟩ | rfl
    case inr => exact csnd_bad
    cases h
    exact csnd_seq (cC_ok hD hg a f1 h1 fun ho x hx => hf ho x (by unfold findR; exact List.mem_append_left _ hx)) (cC_ok hD hg b f2 h2 fun ho x hx => hf ho x (by unfold findR; exact List.mem_append_right _ hx))
  | .cond c a b, F, h, hf => by
    unfold cC at h
    rcases bc_cases h with ⟨f0, h0, h⟩ | rfl
    case inr => exact csnd_bad
    rcases bc_cases h with ⟨f1, h1, h⟩ | rfl
    case inr => exact csnd_bad
    rcases bc_cases h with ⟨f2, h2, h⟩ | rfl
    case inr => exact csnd_bad
    cases h
    exact csnd_cond h0 (cC_ok hD hg a f1 h1 fun ho x hx => hf ho x (by unfold findR; exact List.mem_append_left _ hx)) (cC_ok hD hg b f2 h2 fun ho x hx => hf ho x (by unfold findR; exact List.mem_append_right _ hx))
  | .block i c, F, h, hf => by
    unfold cC at h
    rcases bc_cases h with ⟨f1, h1, h⟩ | rfl
    case inr => exact csnd_bad
    cases h
    exact csnd_block (cC_ok hD hg c f1 h1 fun ho x hx => hf ho x (by unfold findR; exact hx))
  | .loop c, F, h, hf => by
    unfold cC at h
    rcases bc_cases h with ⟨f1, h1, h⟩ | rfl
    case inr => exact csnd_bad
    cases h
    exact csnd_loop (cC_ok hD hg c f1 h1 fun ho x hx => hf ho x (by unfold findR; exact hx))
  | .rangeFunc o ps a b, F, h, hf => by
    unfold cC at h
    rcases bif_cases h with ⟨hb, h⟩ | ⟨_, h⟩
    · rcases bc_cases h with ⟨f1, h1, h⟩ | rfl
      · cases h
        exact csnd_rf (hg hb).1 (hg hb).2 (hf hb _ (by unfold findR; simp)) h1 hb
      · exact csnd_bad
    · cases h; exact csnd_bad
/-! results -/
def resV (m : Array Value) : ResultVar → Sem Value
  | .tmp t => pure (m.getD t undef)
  | .cell a t => do loadVar t (← asAddr (m.getD a undef))
theorem results_eq (fn : Func) (m : Array Value) : results fn m = (do let l ← fn.results.toList.mapM (resV m); pure (if h : l.toArray.size = 1 then l.toArray[0] else .tuple l.toArray)) := by
  unfold results
  rw [Array.mapM_eq_mapM_toList]
  have key : ∀ F : ResultVar → Sem Value, (∀ r, F r = resV m r) → (do let vs ← List.toArray <$> List.mapM F fn.results.toList; pure (if h : vs.size = 1 then vs[0] else .tuple vs)) = (do let l ← fn.results.toList.mapM (resV m); pure (if h : l.toArray.size = 1 then l.toArray[0] else .tuple l.toArray)) := by
    intro F hF
    rw [show F = resV m from funext hF]
    simp
  exact key _ fun r => by cases r <;> rfl
/-- what a result is -/
def RVok (X : Spx) (P : Program) (nt : Nat) (f : RS) (r : ResultVar) : Prop := ∀ t h k v' h' c', f t h k = .fin v' h' c' → ∃ v, k v = .fin v' h' c' ∧ ∀ w0 ρ c w m, HR X P w0 ρ h c w → TR ρ nt t m → ∃ x, den ρ v = some x ∧ (resV m r).run P w = .ok x w
theorem cRV_ok {nt : Nat} {r : ResultVar} {f : RS} (h : cRV (types P) nt r = .mk f) : RVok X P nt f r := by
  cases r with
  | tmp s =>
    simp only [cRV] at h
    split at h
    · rename_i o ho
      cases h
      intro t h k v' h' c' e
      have e' : fV (o t) k = .fin v' h' c' := e
      rw [fV_eq] at e'
      refine ⟨_, e', fun w0 ρ c w m hR hT => ⟨_, opd_den (a := ⟨m, []⟩) ho hT, rfl⟩⟩
    · cases h
  | cell s T =>
    simp only [cRV] at h
    split at h
    · rename_i o D ho hT
      rcases bif_cases h with ⟨hg, h⟩ | ⟨hg, h⟩
      · cases h
        intro t h k v' h' c' e
        obtain ⟨b, r, e1, e2⟩ := asP_fin e
        obtain ⟨ty, m', q, z, u, e3, e4, e5⟩ := ldK_fin e2
        refine ⟨_, e5, fun w0 ρ c w m hR hTR => ?_⟩
        obtain ⟨p, d1, d2⟩ := ptr_den e1 (opd_den (a := ⟨m, []⟩) ho hTR)
        obtain ⟨vs, c1, c2, c3, c4⟩ := hR.cells (P := P) d1 e3 e4
        obtain ⟨i, hi, hs, _⟩ := (und_under hT).2
        refine ⟨.agg vs.toArray, by simp [den, c2], ?_⟩
        have d3 : m.getD s undef = .pointer (some ⟨p.1, r, none⟩) := d2
        rw [hs] at c4
        simp [resV, d3, asAddr, loadVar, run_isAgg P hT, hg, run_sizeOf P hi, c4]
      · cases h
        intro t h k v' h' c' e
        obtain ⟨b, r, e1, e2⟩ := asP_fin e
        obtain ⟨ty, m', q, z, u, e3, e4⟩ := blk_fin e2
        obtain ⟨e5, e6⟩ := ifT_fin e4
        rw [fV_eq] at e6
        refine ⟨_, e6, fun w0 ρ c w m hR hTR => ?_⟩
        obtain ⟨p, d1, d2⟩ := ptr_den e1 (opd_den (a := ⟨m, []⟩) ho hTR)
        obtain ⟨v, c1, c2⟩ := hR.cell d1 e3 (by simpa [Nat.blt_eq] using e5)
        refine ⟨v, c2, ?_⟩
        have d3 : m.getD s undef = .pointer (some ⟨p.1, r, none⟩) := d2
        simp [resV, d3, asAddr, loadVar, run_isAgg P hT, hg, load, Sem.run, c1]
    · cases h
theorem cRVs_ok {nt : Nat} : ∀ {l : List ResultVar} {f : TM → HP → (List V → R) → R}, cRVs (types P) nt l = .mk f → ∀ t h k v' h' c', f t h k = .fin v' h' c' → ∃ vs, vs.length = l.length ∧ k vs = .fin v' h' c' ∧
    ∀ w0 ρ c w m, HR X P w0 ρ h c w → TR ρ nt t m → ∃ xs, denL ρ vs = some xs ∧ (l.mapM (resV m)).run P w = .ok xs w
  | [], f, hf => by
    cases hf
    intro t h k v' h' c' e
    exact ⟨[], rfl, e, fun w0 ρ c w m _ _ => ⟨[], rfl, by simp⟩⟩
  | r :: l, f, hf => by
    unfold cRVs at hf
    split at hf
    · rename_i f1 f2 h1 h2
      cases hf
      intro t h k v' h' c' e
      obtain ⟨v, e1, w1⟩ := cRV_ok (X := X) h1 t h _ v' h' c' e
      obtain ⟨vs, hl, e2, w2⟩ := cRVs_ok h2 t h _ v' h' c' e1
      refine ⟨v :: vs, by simp [hl], e2, fun w0 ρ c w m hR hT => ?_⟩
      obtain ⟨x, d1, r1⟩ := w1 w0 ρ c w m hR hT
      obtain ⟨xs, d2, r2⟩ := w2 w0 ρ c w m hR hT
      exact ⟨x :: xs, denL_cons.2 ⟨x, xs, rfl, d1, d2⟩, by simp [List.mapM_cons, r1, r2]⟩
    · cases hf
theorem cRs_ok {fn : Func} {f : RS} (hf : cRs (types P) fn.ntmps fn.results.toList = .mk f) : ∀ t h k v' h' c', f t h k = .fin v' h' c' → ∃ v, k v = .fin v' h' c' ∧ ∀ w0 ρ c w m, HR X P w0 ρ h c w → TR ρ fn.ntmps t m → ∃ x, den ρ v = some x ∧ (results fn m).run P w = .ok x w := by
  unfold cRs at hf
  split at hf
  · rename_i hr
    cases hf
    intro t h k v' h' c' e
    exact ⟨_, e, fun w0 ρ c w m _ _ => ⟨.tuple #[], by simp [den, denL], by rw [results_eq, hr]; simp⟩⟩
  · rename_i r hr
    intro t h k v' h' c' e
    obtain ⟨v, e1, w1⟩ := cRV_ok (X := X) hf t h k v' h' c' e
    refine ⟨v, e1, fun w0 ρ c w m hR hT => ?_⟩
    obtain ⟨x, d1, r1⟩ := w1 w0 ρ c w m hR hT
    exact ⟨x, d1, by rw [results_eq, hr]; simp [r1]⟩
  · rename_i l h0 h1
    split at hf
    · rename_i g hg
      cases hf
      intro t h k v' h' c' e
      obtain ⟨vs, hl, e1, w1⟩ := cRVs_ok (X := X) hg t h _ v' h' c' e
      refine ⟨_, e1, fun w0 ρ c w m hR hT => ?_⟩
      obtain ⟨xs, d1, r1⟩ := w1 w0 ρ c w m hR hT
      refine ⟨.tuple xs.toArray, by simp [den, d1], ?_⟩
      have hlen : xs.length ≠ 1 := by
        rw [denL_length d1, hl]
        intro hh
        obtain ⟨r, hr⟩ := List.length_eq_one_iff.1 hh
        exact h1 r hr
      rw [results_eq]
      simp [r1, hlen]
    · cases hf
end
end Ev
