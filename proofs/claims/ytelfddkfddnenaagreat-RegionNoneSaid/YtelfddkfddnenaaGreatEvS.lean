/- equality. -/
import Derived.Test.YtelfddkfddnenaaGreatEvR
namespace Ev
open Go Go.RowKit
set_option linter.unusedVariables false
set_option linter.unusedSimpArgs false
noncomputable def eQL (l : QL) : HP → List V → List V → (Bool → R) → R := QL.rec (motive_1 := fun _ => EF) (motive_2 := fun _ => HP → List V → List V → (Bool → R) → R) eI eB eS eP (fun _ ih h x y k => asA x fun a => asA y fun b => ih h a b k)
  (fun _ _ _ k => k true) (fun o n q _ ih1 ih2 h a b k => ih1 h (partV q o n a) (partV q o n b) fun r => Bool.rec (motive := fun _ => R) (k false) (ih2 h a b k) r) l
theorem eQ_st (l : QL) : eQ (.st l) = fun h x y k => asA x fun a => asA y fun b => eQL l h a b k := rfl
theorem eQL_c (o n : Nat) (q : Q) (l : QL) : eQL (.c o n q l) = fun h a b k => eQ q h (partV q o n a) (partV q o n b) fun r => Bool.rec (motive := fun _ => R) (k false) (eQL l h a b k) r := rfl
/-- two values are no two nil interfaces -/
def NI (a : Value) : Prop := a ≠ .nilIface
section
variable (P : Program)
theorem siz_info {E : Nat} (h : siz (types P) E ≠ 0) : ∃ i, P.info? E = some i ∧ i.size ≠ 0 := by
  unfold siz at h
  cases hi : tyI (types P) E with
  | none => rw [hi] at h; exact absurd rfl h
  | some i => rw [hi] at h; exact ⟨i, tyI_info hi, h⟩
/-- what a comparison comes to -/
def EqOk (T : TypeId) (g : EF) (f : Nat) : Prop := ∀ ⦃h x y k v' h' c'⦄, g h x y k = .fin v' h' c' → ∃ r, k r = .fin v' h' c' ∧ x ≠ .u ∧ y ≠ .u ∧
  ∀ {X : Spx} {w0 : Base} {ρ : Rho} {c : Nat} {w : World} {a b : Value}, HR X P w0 ρ h c w → den ρ x = some a → den ρ y = some b →
    (∀ d, f ≤ d → (Op.equalIn d T a b).run P w = .ok r w) ∧ a ≠ .nilIface
theorem eI_ok {T f : Nat} {k : IntKind} (hT : und (types P) T = some (.int k)) : EqOk P T eI (f + 1) := by
  intro h x y q v' h' c' H
  obtain ⟨i, m, e1, e2⟩ := asI_fin H
  obtain ⟨j, n, e3, e4⟩ := asI_fin e2
  obtain ⟨e5, e6⟩ := ifT_fin e4
  rw [fB_eq, ieq_eq] at e6
  have hk : i = j := Nat.eq_of_beq_eq_true e5
  subst hk
  refine ⟨_, e6, (by rintro rfl; cases e1), (by rintro rfl; cases e3), fun {X w0 ρ c w a b} hR hX hY => ?_⟩
  rw [int_den e1] at hX; rw [int_den e3] at hY
  cases hX; cases hY
  refine ⟨fun d hd => ?_, by simp⟩
  obtain ⟨d, rfl⟩ : ∃ e, d = e + 1 := ⟨d - 1, by omega⟩
  exact run_equalIn_int w d T (kd i) k m n (und_under hT).1
theorem eB_ok {T f : Nat} (hT : und (types P) T = some .bool) : EqOk P T eB (f + 1) := by
  intro h x y q v' h' c' H
  obtain ⟨m, e1, e2⟩ := asB_fin H
  obtain ⟨n, e3, e4⟩ := asB_fin e2
  refine ⟨m == n, by cases m <;> cases n <;> exact e4, (by rintro rfl; cases e1), (by rintro rfl; cases e3), fun {X w0 ρ c w a b} hR hX hY => ?_⟩
  have hX := bool_den e1 hX
  have hY := bool_den e3 hY
  subst hX; subst hY
  refine ⟨fun d hd => ?_, by simp⟩
  obtain ⟨d, rfl⟩ : ∃ e, d = e + 1 := ⟨d - 1, by omega⟩
  exact run_equalIn_bool' w d T m n (und_under hT).1
theorem eS_ok {T f : Nat} (hT : und (types P) T = some .string) : EqOk P T eS (f + 1) := by
  intro h x y q v' h' c' H
  obtain ⟨m, e1, e2⟩ := asS_fin H
  obtain ⟨n, e3, e4⟩ := asS_fin e2
  rw [fB_eq, seq_str] at e4
  refine ⟨_, e4, (by rintro rfl; cases e1), (by rintro rfl; cases e3), fun {X w0 ρ c w a b} hR hX hY => ?_⟩
  have hX := str_den e1 hX
  have hY := str_den e3 hY
  subst hX; subst hY
  refine ⟨fun d hd => ?_, by simp⟩
  obtain ⟨d, rfl⟩ : ∃ e, d = e + 1 := ⟨d - 1, by omega⟩
  exact run_equalIn_string w d T (str m) (str n) (und_under hT).1
theorem eP_ok {T E f : Nat} (hT : und (types P) T = some (.pointer E)) (hE : siz (types P) E ≠ 0) : EqOk P T eP (f + 1) := by
  have hu := (und_under hT).1
  obtain ⟨i, hi, hn⟩ := siz_info P hE
  intro h x y q v' h' c' H
  rcases asQ_fin H with ⟨e1, e2⟩ | ⟨b, o, e1, e2⟩
  · rcases asQ_fin e2 with ⟨e3, e4⟩ | ⟨b', o', e3, e4⟩
    · refine ⟨_, e4, (by rintro rfl; cases e1), (by rintro rfl; cases e3), fun {X w0 ρ c w a b} hR hX hY => ?_⟩
      subst e1; subst e3
      simp only [den, Option.some.injEq] at hX hY
      subst hX; subst hY
      refine ⟨fun d hd => ?_, by simp⟩
      obtain ⟨d, rfl⟩ : ∃ e, d = e + 1 := ⟨d - 1, by omega⟩
      simp [Op.equalIn, run_underlying hu]
    · refine ⟨_, e4, (by rintro rfl; cases e1), (by rintro rfl; cases e3), fun {X w0 ρ c w a b} hR hX hY => ?_⟩
      obtain ⟨p, d1, d2⟩ := ptr_den e3 hY
      subst e1; subst d2
      simp only [den, Option.some.injEq] at hX
      subst hX
      refine ⟨fun d hd => ?_, by simp⟩
      obtain ⟨d, rfl⟩ : ∃ e, d = e + 1 := ⟨d - 1, by omega⟩
      simp [Op.equalIn, run_underlying hu]
  · rcases asQ_fin e2 with ⟨e3, e4⟩ | ⟨b', o', e3, e4⟩
    · refine ⟨_, e4, (by rintro rfl; cases e1), (by rintro rfl; cases e3), fun {X w0 ρ c w a b} hR hX hY => ?_⟩
      obtain ⟨p, d1, d2⟩ := ptr_den e1 hX
      subst e3; subst d2
      simp only [den, Option.some.injEq] at hY
      subst hY
      refine ⟨fun d hd => ?_, by simp⟩
      obtain ⟨d, rfl⟩ : ∃ e, d = e + 1 := ⟨d - 1, by omega⟩
      simp [Op.equalIn, run_underlying hu]
    · cases hbe : Nat.beq b b' with
      | true =>
        rw [hbe, ifT_true rfl, fB_eq] at e4
        have hbb : b = b' := Nat.eq_of_beq_eq_true hbe
        subst hbb
        refine ⟨_, e4, (by rintro rfl; cases e1), (by rintro rfl; cases e3), fun {X w0 ρ c w a b} hR hX hY => ?_⟩
        obtain ⟨p, d1, d2⟩ := ptr_den e1 hX
        obtain ⟨p', d3, d4⟩ := ptr_den e3 hY
        rw [d1] at d3; cases d3
        subst d2; subst d4
        refine ⟨fun d hd => ?_, by simp⟩
        obtain ⟨d, rfl⟩ : ∃ e, d = e + 1 := ⟨d - 1, by omega⟩
        simp [Op.equalIn, run_underlying hu, run_sizeOf P hi, hn, sameAddr]
        rw [Bool.eq_iff_iff]
        simp [Nat.beq_eq]
      | false =>
        rw [hbe, ifT_false rfl] at e4
        obtain ⟨ty, m, q1, z, u, f1, f2⟩ := blk_fin e4
        obtain ⟨ty', m', q1', z', u', f3, f4⟩ := blk_fin f2
        refine ⟨_, f4, (by rintro rfl; cases e1), (by rintro rfl; cases e3), fun {X w0 ρ c w a b} hR hX hY => ?_⟩
        obtain ⟨p, d1, d2⟩ := ptr_den e1 hX
        obtain ⟨p', d3, d4⟩ := ptr_den e3 hY
        subst d2; subst d4
        obtain ⟨cs, g1, _⟩ := hR.row d1 f1
        obtain ⟨cs', g2, _⟩ := hR.row d3 f3
        have hne : p.1 ≠ p'.1 := fun hh => by
          have := hR.inj _ _ _ _ d1 d3 (by rw [f1]; simp) (by rw [f3]; simp) hh
          subst this
          simp at hbe
        refine ⟨fun d hd => ?_, by simp⟩
        obtain ⟨d, rfl⟩ : ∃ e, d = e + 1 := ⟨d - 1, by omega⟩
        simp only [Op.equalIn, Sem.run_bind, run_underlying hu, Result.andThen_ok, run_sizeOf P hi, hn, ne_eq, not_false_eq_true, if_true]
        exact run_sameAddr_other w (fun hh => hne (congrArg Addr.block hh)) g1 g2
variable {P}
theorem partV_ok {q : Q} {T : Nat} {D : TypeDesc} (hT : und (types P) T = some D) (hq : isSt q = agg (types P) T) {ρ : Rho} {l : List V} {r : List Value} {o : Nat} (hl : denL ρ l = some r) (hne : partV q o (siz (types P) T) l ≠ .u) (w : World) :
    ∃ a, den ρ (partV q o (siz (types P) T) l) = some a ∧ (part T r.toArray o).run P w = .ok a w := by
  obtain ⟨i, hi, hs, _⟩ := (und_under hT).2
  unfold partV at hne ⊢
  cases hs2 : isSt q with
  | true =>
    rw [ifT_true rfl, take_eq, drop_eq]
    rw [hs2] at hq
    refine ⟨.agg ((r.drop o).take i.size).toArray, by rw [hs]; simp [den, denL_take _ (denL_drop _ hl)], ?_⟩
    simp [part, run_isAgg P hT, ← hq, run_sizeOf P hi, extract_list]
  | false =>
    rw [hs2, ifT_false rfl] at hne
    rw [ifT_false rfl]
    rw [hs2] at hq
    by_cases hlt : o < l.length
    · obtain ⟨x, g1, g2⟩ := nth_den hl hlt
      exact ⟨x, g2, by simp [part, run_isAgg P hT, ← hq, g1]⟩
    · exfalso; apply hne; rw [nth_eq]; simp [List.getD, List.getElem?_eq_none (Nat.le_of_not_lt hlt)]
def agD : TypeDesc → Bool | .struct _ => true | .array _ _ => true | _ => false
theorem agg_of {T : Nat} {D : TypeDesc} (hT : und (types P) T = some D) : agg (types P) T = agD D := by
  unfold agg; rw [hT]; cases D <;> rfl
theorem cQ_st : ∀ {f T : Nat} {q : Q}, cQ P (types P) f T = some q → ∃ D, und (types P) T = some D ∧ isSt q = agg (types P) T
  | 0, _, _, h => by simp [cQ] at h
  | f + 1, T, q, h => by
    unfold cQ at h
    cases hD : und (types P) T with
    | none => rw [hD] at h; cases h
    | some D =>
      rw [hD] at h
      refine ⟨D, rfl, ?_⟩
      rw [agg_of hD]
      cases D <;> simp only at h <;> first | cases h | skip
      all_goals first | rfl | skip
      · rename_i e
        cases hb : Nat.beq (siz (types P) e) 0 with
        | true => rw [hb] at h; cases h
        | false => rw [hb] at h; cases h; rfl
      · cases hb : P.stoodInHeld T with
        | true => rw [hb] at h; cases h
        | false =>
          rw [hb] at h
          simp only [cond_false, Option.map_eq_some_iff] at h
          obtain ⟨l, _, rfl⟩ := h
          rfl
theorem eQ_ok : ∀ {f T : Nat} {q : Q}, cQ P (types P) f T = some q → EqOk P T (eQ q) f
  | 0, _, _, h => by simp [cQ] at h
  | f + 1, T, q, h => by
    unfold cQ at h
    cases hD : und (types P) T with
    | none => rw [hD] at h; cases h
    | some D =>
      rw [hD] at h
      cases D <;> simp only at h <;> first | cases h | skip
      · exact eB_ok P hD
      · exact eI_ok P hD
      · exact eS_ok P hD
      · rename_i e
        cases hb : Nat.beq (siz (types P) e) 0 with
        | true => rw [hb] at h; cases h
        | false => rw [hb] at h; cases h; exact eP_ok P hD (fun hh => by rw [hh] at hb; cases hb)
      · rename_i fs
        cases hb : P.stoodInHeld T with
        | true => rw [hb] at h; cases h
        | false =>
          rw [hb] at h
          simp only [cond_false, Option.map_eq_some_iff] at h
          obtain ⟨ql, hl, rfl⟩ := h
          have hfs : P.fieldsOf T = fs := by unfold Program.fieldsOf; rw [(und_under hD).1]
          have hu : P.underlying T = some (.struct (P.fieldsOf T)) := by rw [hfs]; exact (und_under hD).1
          have key : ∀ (fl : List Field) (ql : QL), (fl.foldr (fun g l => match l, cQ P (types P) f g.type with
              | some l, some q => bif g.name == "_" then none else some (QL.c g.offset (siz (types P) g.type) q l)
              | _, _ => none) (some QL.e)) = some ql → ∀ {h : HP} {l1 l2 : List V} {k : Bool → R} {v' : V} {h' : HP} {c' : Nat}, eQL ql h l1 l2 k = .fin v' h' c' → ∃ r, k r = .fin v' h' c' ∧
              ∀ {X : Spx} {w0 : Base} {ρ : Rho} {c : Nat} {w : World} {r1 r2 : List Value}, HR X P w0 ρ h c w → denL ρ l1 = some r1 → denL ρ l2 = some r2 →
                ∀ d, f ≤ d → (Op.eqFields d r1.toArray r2.toArray fl).run P w = .ok r w := by
            intro fl
            induction fl with
            | nil =>
              intro ql hq h l1 l2 k v' h' c' H
              cases hq
              exact ⟨true, H, fun _ _ _ d _ => by simp [Op.eqFields]⟩
            | cons g fl ih =>
              intro ql hq h l1 l2 k v' h' c' H
              rw [List.foldr_cons] at hq
              split at hq
              · rename_i l q hl' hcq
                cases hn : g.name == "_" with
                | true => rw [hn] at hq; cases hq
                | false =>
                  rw [hn] at hq
                  simp only [cond_false, Option.some.injEq] at hq
                  subst hq
                  rw [eQL_c] at H
                  obtain ⟨r, f1, f2, f3, f4⟩ := eQ_ok hcq H
                  obtain ⟨D', hD', hst⟩ := cQ_st hcq
                  have hn' : g.name ≠ "_" := by simpa using hn
                  cases r with
                  | false =>
                    refine ⟨false, f1, fun {X w0 ρ c w r1 r2} hR d1 d2 d hd => ?_⟩
                    obtain ⟨a, g1, g2⟩ := partV_ok hD' hst d1 f2 w
                    obtain ⟨b, g3, g4⟩ := partV_ok hD' hst d2 f3 w
                    obtain ⟨g5, _⟩ := f4 hR g1 g3
                    simp [Op.eqFields, hn', g2, g4, g5 d hd]
                  | true =>
                    obtain ⟨r, j1, j2⟩ := ih l hl' (f1 : eQL l h l1 l2 k = _)
                    refine ⟨r, j1, fun {X w0 ρ c w r1 r2} hR d1 d2 d hd => ?_⟩
                    obtain ⟨a, g1, g2⟩ := partV_ok hD' hst d1 f2 w
                    obtain ⟨b, g3, g4⟩ := partV_ok hD' hst d2 f3 w
                    obtain ⟨g5, _⟩ := f4 hR g1 g3
                    simp [Op.eqFields, hn', g2, g4, g5 d hd, j2 hR d1 d2 d hd]
              · cases hq
          intro h x y k v' h' c' H
          rw [eQ_st] at H
          obtain ⟨l1, e1, e2⟩ := asA_fin H
          obtain ⟨l2, e3, e4⟩ := asA_fin e2
          obtain ⟨r, j1, j2⟩ := key _ _ hl e4
          refine ⟨r, j1, (by rintro rfl; cases e1), (by rintro rfl; cases e3), fun {X w0 ρ c w a b} hR hX hY => ?_⟩
          obtain ⟨r1, d1, d2⟩ := agg_den e1 hX
          obtain ⟨r2, d3, d4⟩ := agg_den e3 hY
          subst d2; subst d4
          refine ⟨fun d hd => ?_, by simp⟩
          obtain ⟨d, rfl⟩ : ∃ e, d = e + 1 := ⟨d - 1, by omega⟩
          rw [run_equalIn_agg w d T _ _ hu hb, hfs]
          exact j2 hR d1 d3 d (by omega)
end
end Ev
