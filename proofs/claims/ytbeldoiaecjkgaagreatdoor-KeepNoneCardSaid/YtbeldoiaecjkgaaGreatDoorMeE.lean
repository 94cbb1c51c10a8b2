/- EvS, EvT, EvTm, EvU, EvV, EvW, EvX. -/
import Derived.Test.YtbeldoiaecjkgaaGreatDoorMeD
import Derived.RangeFuncLeaves
import Derived.RangeFuncRecord
section
namespace Ev
open Go Go.RowKit
set_option linter.unusedVariables false
set_option linter.unusedSimpArgs false
noncomputable def eQL (l : QL) : HP → List V → List V → (Bool → R) → R := QL.rec (motive_1 := fun _ => EF) (motive_2 := fun _ => HP → List V → List V → (Bool → R) → R) eI eB eS eP (fun _ ih h x y k => asA x fun a => asA y fun b => ih h a b k)
  (fun _ _ _ k => k true) (fun o n q _ ih1 ih2 h a b k => ih1 h (partV q o n a) (partV q o n b) fun r => Bool.rec (motive := fun _ => R) (k false) (ih2 h a b k) r) l
theorem eQ_st (l : QL) : eQ (.st l) = fun h x y k => asA x fun a => asA y fun b => eQL l h a b k := rfl
theorem eQL_c (o n : Nat) (q : Q) (l : QL) : eQL (.c o n q l) = fun h a b k => eQ q h (partV q o n a) (partV q o n b) fun r => Bool.rec (motive := fun _ => R) (k false) (eQL l h a b k) r := rfl
/-- two values are no two nil interfaces -/
def NI (a : Value) : Prop := a ≠ .nilIface
section
variable (P : Program)
theorem siz_info {E : Nat} (h : siz (types P) E ≠ 0) : ∃ i, P.info? E = some i ∧ i.size ≠ 0 := by
  unfold siz at h
  cases hi : tyI (types P) E with
  | none => rw [hi] at h; exact absurd rfl h
  | some i => rw [hi] at h; exact ⟨i, tyI_info hi, h⟩
/-- what a comparison comes to -/
def EqOk (T : TypeId) (g : EF) (f : Nat) : Prop := ∀ ⦃h x y k v' h' c'⦄, g h x y k = .fin v' h' c' → ∃ r, k r = .fin v' h' c' ∧ x ≠ .u ∧ y ≠ .u ∧
  ∀ {X : Spx} {w0 : Base} {ρ : Rho} {c : Nat} {w : World} {a b : Value}, HR X P w0 ρ h c w → den ρ x = some a → den ρ y = some b →
    (∀ d, f ≤ d → (Op.equalIn d T a b).run P w = .ok r w) ∧ a ≠ .nilIface
theorem eI_ok {T f : Nat} {k : IntKind} (hT : und (types P) T = some (.int k)) : EqOk P T eI (f + 1) := by
  intro h x y q v' h' c' H
  obtain ⟨i, m, e1, e2⟩ := asI_fin H
  obtain ⟨j, n, e3, e4⟩ := asI_fin e2
  obtain ⟨e5, e6⟩ := ifT_fin e4
  rw [fB_eq, ieq_eq] at e6
  have hk : i = j := Nat.eq_of_beq_eq_true e5
  subst hk
  refine ⟨_, e6, (by rintro rfl; cases e1), (by rintro rfl; cases e3), fun {X w0 ρ c w a b} hR hX hY => ?_⟩
  rw [int_den e1] at hX; rw [int_den e3] at hY
  cases hX; cases hY
  refine ⟨fun d hd => ?_, by simp⟩
  obtain ⟨d, rfl⟩ : ∃ e, d = e + 1 := ⟨d - 1, by omega⟩
  exact run_equalIn_int w d T (kd i) k m n (und_under hT).1
theorem eB_ok {T f : Nat} (hT : und (types P) T = some .bool) : EqOk P T eB (f + 1) := by
  intro h x y q v' h' c' H
  obtain ⟨m, e1, e2⟩ := asB_fin H
  obtain ⟨n, e3, e4⟩ := asB_fin e2
  refine ⟨m == n, by cases m <;> cases n <;> exact e4, (by rintro rfl; cases e1), (by rintro rfl; cases e3), fun {X w0 ρ c w a b} hR hX hY => ?_⟩
  have hX := bool_den e1 hX
  have hY := bool_den e3 hY
  subst hX; subst hY
  refine ⟨fun d hd => ?_, by simp⟩
  obtain ⟨d, rfl⟩ : ∃ e, d = e + 1 := ⟨d - 1, by omega⟩
  exact run_equalIn_bool' w d T m n (und_under hT).1
theorem eS_ok {T f : Nat} (hT : und (types P) T = some .string) : EqOk P T eS (f + 1) := by
  intro h x y q v' h' c' H
  obtain ⟨m, e1, e2⟩ := asS_fin H
  obtain ⟨n, e3, e4⟩ := asS_fin e2
  rw [fB_eq, seq_str] at e4
  refine ⟨_, e4, (by rintro rfl; cases e1), (by rintro rfl; cases e3), fun {X w0 ρ c w a b} hR hX hY => ?_⟩
  have hX := str_den e1 hX
  have hY := str_den e3 hY
  subst hX; subst hY
  refine ⟨fun d hd => ?_, by simp⟩
  obtain ⟨d, rfl⟩ : ∃ e, d = e + 1 := ⟨d - 1, by omega⟩
  exact run_equalIn_string w d T (str m) (str n) (und_under hT).1
theorem eP_ok {T E f : Nat} (hT : und (types P) T = some (.pointer E)) (hE : siz (types P) E ≠ 0) : EqOk P T eP (f + 1) := by
  have hu := (und_under hT).1
  obtain ⟨i, hi, hn⟩ := siz_info P hE
  intro h x y q v' h' c' H
  rcases asQ_fin H with ⟨e1, e2⟩ | ⟨b, o, e1, e2⟩
  · rcases asQ_fin e2 with ⟨e3, e4⟩ | ⟨b', o', e3, e4⟩
    · refine ⟨_, e4, (by rintro rfl; cases e1), (by rintro rfl; cases e3), fun {X w0 ρ c w a b} hR hX hY => ?_⟩
      subst e1; subst e3
      simp only [den, Option.some.injEq] at hX hY
      subst hX; subst hY
      refine ⟨fun d hd => ?_, by simp⟩
      obtain ⟨d, rfl⟩ : ∃ e, d = e + 1 := ⟨d - 1, by omega⟩
      simp [Op.equalIn, run_underlying hu]
    · refine ⟨_, e4, (by rintro rfl; cases e1), (by rintro rfl; cases e3), fun {X w0 ρ c w a b} hR hX hY => ?_⟩
      obtain ⟨p, d1, d2⟩ := ptr_den e3 hY
      subst e1; subst d2
      simp only [den, Option.some.injEq] at hX
      subst hX
      refine ⟨fun d hd => ?_, by simp⟩
      obtain ⟨d, rfl⟩ : ∃ e, d = e + 1 := ⟨d - 1, by omega⟩
      simp [Op.equalIn, run_underlying hu]
  · rcases asQ_fin e2 with ⟨e3, e4⟩ | ⟨b', o', e3, e4⟩
    · refine ⟨_, e4, (by rintro rfl; cases e1), (by rintro rfl; cases e3), fun {X w0 ρ c w a b} hR hX hY => ?_⟩
      obtain ⟨p, d1, d2⟩ := ptr_den e1 hX
      subst e3; subst d2
      simp only [den, Option.some.injEq] at hY
      subst hY
      refine ⟨fun d hd => ?_, by simp⟩
      obtain ⟨d, rfl⟩ : ∃ e, d = e + 1 := ⟨d - 1, by omega⟩
      simp [Op.equalIn, run_underlying hu]
    · cases hbe : Nat.beq b b' with
      | true =>
        rw [hbe, ifT_true rfl, fB_eq] at e4
        have hbb : b = b' := Nat.eq_of_beq_eq_true hbe
        subst hbb
        refine ⟨_, e4, (by rintro rfl; cases e1), (by rintro rfl; cases e3), fun {X w0 ρ c w a b} hR hX hY => ?_⟩
        obtain ⟨p, d1, d2⟩ := ptr_den e1 hX
        obtain ⟨p', d3, d4⟩ := ptr_den e3 hY
        rw [d1] at d3; cases d3
        subst d2; subst d4
        refine ⟨fun d hd => ?_, by simp⟩
        obtain ⟨d, rfl⟩ : ∃ e, d = e + 1 := ⟨d - 1, by omega⟩
        simp [Op.equalIn, run_underlying hu, run_sizeOf P hi, hn, sameAddr]
        rw [Bool.eq_iff_iff]
        simp [Nat.beq_eq]
      | false =>
        rw [hbe, ifT_false rfl] at e4
        obtain ⟨ty, m, q1, z, u, f1, f2⟩ := blk_fin e4
        obtain ⟨ty', m', q1', z', u', f3, f4⟩ := blk_fin f2
        refine ⟨_, f4, (by rintro rfl; cases e1), (by rintro rfl; cases e3), fun {X w0 ρ c w a b} hR hX hY => ?_⟩
        obtain ⟨p, d1, d2⟩ := ptr_den e1 hX
        obtain ⟨p', d3, d4⟩ := ptr_den e3 hY
        subst d2; subst d4
        obtain ⟨cs, g1, _⟩ := hR.row d1 f1
        obtain ⟨cs', g2, _⟩ := hR.row d3 f3
        have hne : p.1 ≠ p'.1 := fun hh => by
          have := hR.inj _ _ _ _ d1 d3 (by rw [f1]; simp) (by rw [f3]; simp) hh
          subst this
          simp at hbe
        refine ⟨fun d hd => ?_, by simp⟩
        obtain ⟨d, rfl⟩ : ∃ e, d = e + 1 := ⟨d - 1, by omega⟩
        simp only [Op.equalIn, Sem.run_bind, run_underlying hu, Result.andThen_ok, run_sizeOf P hi, hn, ne_eq, not_false_eq_true, if_true]
        exact run_sameAddr_other w (fun hh => hne (congrArg Addr.block hh)) g1 g2
variable {P}
theorem partV_ok {q : Q} {T : Nat} {D : TypeDesc} (hT : und (types P) T = some D) (hq : isSt q = agg (types P) T) {ρ : Rho} {l : List V} {r : List Value} {o : Nat} (hl : denL ρ l = some r) (hne : partV q o (siz (types P) T) l ≠ .u) (w : World) :
    ∃ a, den ρ (partV q o (siz (types P) T) l) = some a ∧ (part T r.toArray o).run P w = .ok a w := by
  obtain ⟨i, hi, hs, _⟩ := (und_under hT).2
  unfold partV at hne ⊢
  cases hs2 : isSt q with
  | true =>
    rw [ifT_true rfl, take_eq, drop_eq]
    rw [hs2] at hq
    refine ⟨.agg ((r.drop o).take i.size).toArray, by rw [hs]; simp [den, denL_take _ (denL_drop _ hl)], ?_⟩
    simp [part, run_isAgg P hT, ← hq, run_sizeOf P hi, extract_list]
  | false =>
    rw [hs2, ifT_false rfl] at hne
    rw [ifT_false rfl]
    rw [hs2] at hq
    by_cases hlt : o < l.length
    · obtain ⟨x, g1, g2⟩ := nth_den hl hlt
      exact ⟨x, g2, by simp [part, run_isAgg P hT, ← hq, g1]⟩
    · exfalso; apply hne; rw [nth_eq]; simp [List.getD, List.getElem?_eq_none (Nat.le_of_not_lt hlt)]
def agD : TypeDesc → Bool | .struct _ => true | .array _ _ => true | _ => false
theorem agg_of {T : Nat} {D : TypeDesc} (hT : und (types P) T = some D) : agg (types P) T = agD D := by
  unfold agg; rw [hT]; cases D <;> rfl
theorem cQ_st : ∀ {f T : Nat} {q : Q}, cQ P (types P) f T = some q → ∃ D, und (types P) T = some D ∧ isSt q = agg (types P) T
  | 0, _, _, h => by simp [cQ] at h
  | f + 1, T, q, h => by
    unfold cQ at h
    cases hD : und (types P) T with
    | none => rw [hD] at h; cases h
    | some D =>
      rw [hD] at h
      refine ⟨D, rfl, ?_⟩
      rw [agg_of hD]
      cases D <;> simp only at h <;> first | cases h | skip
      all_goals first | rfl | skip
      · rename_i e
        cases hb : Nat.beq (siz (types P) e) 0 with
        | true => rw [hb] at h; cases h
        | false => rw [hb] at h; cases h; rfl
      · cases hb : P.stoodInHeld T with
        | true => rw [hb] at h; cases h
        | false =>
          rw [hb] at h
          simp only [cond_false, Option.map_eq_some_iff] at h
          obtain ⟨l, _, rfl⟩ := h
          rfl
theorem eQ_ok : ∀ {f T : Nat} {q : Q}, cQ P (types P) f T = some q → EqOk P T (eQ q) f
  | 0, _, _, h => by simp [cQ] at h
  | f + 1, T, q, h => by
    unfold cQ at h
    cases hD : und (types P) T with
    | none => rw [hD] at h; cases h
    | some D =>
      rw [hD] at h
      cases D <;> simp only at h <;> first | cases h | skip
      · exact eB_ok P hD
      · exact eI_ok P hD
      · exact eS_ok P hD
      · rename_i e
        cases hb : Nat.beq (siz (types P) e) 0 with
        | true => rw [hb] at h; cases h
        | false => rw [hb] at h; cases h; exact eP_ok P hD (fun hh => by rw [hh] at hb; cases hb)
      · rename_i fs
        cases hb : P.stoodInHeld T with
        | true => rw [hb] at h; cases h
        | false =>
          rw [hb] at h
          simp only [cond_false, Option.map_eq_some_iff] at h
          obtain ⟨ql, hl, rfl⟩ := h
          have hfs : P.fieldsOf T = fs := by unfold Program.fieldsOf; rw [(und_under hD).1]
          have hu : P.underlying T = some (.struct (P.fieldsOf T)) := by rw [hfs]; exact (und_under hD).1
          have key : ∀ (fl : List Field) (ql : QL), (fl.foldr (fun g l => match l, cQ P (types P) f g.type with
              | some l, some q => bif g.name == "_" then none else some (QL.c g.offset (siz (types P) g.type) q l)
              | _, _ => none) (some QL.e)) = some ql → ∀ {h : HP} {l1 l2 : List V} {k : Bool → R} {v' : V} {h' : HP} {c' : Nat}, eQL ql h l1 l2 k = .fin v' h' c' → ∃ r, k r = .fin v' h' c' ∧
              ∀ {X : Spx} {w0 : Base} {ρ : Rho} {c : Nat} {w : World} {r1 r2 : List Value}, HR X P w0 ρ h c w → denL ρ l1 = some r1 → denL ρ l2 = some r2 →
                ∀ d, f ≤ d → (Op.eqFields d r1.toArray r2.toArray fl).run P w = .ok r w := by
            intro fl
            induction fl with
            | nil =>
              intro ql hq h l1 l2 k v' h' c' H
              cases hq
              exact ⟨true, H, fun _ _ _ d _ => by simp [Op.eqFields]⟩
            | cons g fl ih =>
              intro ql hq h l1 l2 k v' h' c' H
              rw [List.foldr_cons] at hq
              split at hq
              · rename_i l q hl' hcq
                cases hn : g.name == "_" with
                | true => rw [hn] at hq; cases hq
                | false =>
                  rw [hn] at hq
                  simp only [cond_false, Option.some.injEq] at hq
                  subst hq
                  rw [eQL_c] at H
                  obtain ⟨r, f1, f2, f3, f4⟩ := eQ_ok hcq H
                  obtain ⟨D', hD', hst⟩ := cQ_st hcq
                  have hn' : g.name ≠ "_" := by simpa using hn
                  cases r with
                  | false =>
                    refine ⟨false, f1, fun {X w0 ρ c w r1 r2} hR d1 d2 d hd => ?_⟩
                    obtain ⟨a, g1, g2⟩ := partV_ok hD' hst d1 f2 w
                    obtain ⟨b, g3, g4⟩ := partV_ok hD' hst d2 f3 w
                    obtain ⟨g5, _⟩ := f4 hR g1 g3
                    simp [Op.eqFields, hn', g2, g4, g5 d hd]
                  | true =>
                    obtain ⟨r, j1, j2⟩ := ih l hl' (f1 : eQL l h l1 l2 k = _)
                    refine ⟨r, j1, fun {X w0 ρ c w r1 r2} hR d1 d2 d hd => ?_⟩
                    obtain ⟨a, g1, g2⟩ := partV_ok hD' hst d1 f2 w
                    obtain ⟨b, g3, g4⟩ := partV_ok hD' hst d2 f3 w
                    obtain ⟨g5, _⟩ := f4 hR g1 g3
                    simp [Op.eqFields, hn', g2, g4, g5 d hd, j2 hR d1 d2 d hd]
              · cases hq
          intro h x y k v' h' c' H
          rw [eQ_st] at H
          obtain ⟨l1, e1, e2⟩ := asA_fin H
          obtain ⟨l2, e3, e4⟩ := asA_fin e2
          obtain ⟨r, j1, j2⟩ := key _ _ hl e4
          refine ⟨r, j1, (by rintro rfl; cases e1), (by rintro rfl; cases e3), fun {X w0 ρ c w a b} hR hX hY => ?_⟩
          obtain ⟨r1, d1, d2⟩ := agg_den e1 hX
          obtain ⟨r2, d3, d4⟩ := agg_den e3 hY
          subst d2; subst d4
          refine ⟨fun d hd => ?_, by simp⟩
          obtain ⟨d, rfl⟩ : ∃ e, d = e + 1 := ⟨d - 1, by omega⟩
          rw [run_equalIn_agg w d T _ _ hu hb, hfs]
          exact j2 hR d1 d3 d (by omega)
end
end Ev
end
section
namespace Ev
open Go Go.RowKit
set_option linter.unusedVariables false
set_option linter.unusedSimpArgs false
section
variable {X : Spx} {P : Program} {nt : Nat}
def Cmp (a : Value) : Prop := (∃ x, a = .bool x) ∨ (∃ x, a = .pointer x) ∨ ∃ x, a = .agg x
theorem run_eqs {T : TypeId} {a b : Value} {r : Bool} {w : World} (ha : Cmp a) (hg : P.eqGuardType P.depth T = false) (h : (Op.equalIn 10000 T a b).run P w = .ok r w) (s t : Operand) :
    (do eqGuard .eql T s t a b; binOp .eql T a b : Sem Value).run P w = .ok (.bool r) w ∧ (do eqGuard .neq T s t a b; binOp .neq T a b : Sem Value).run P w = .ok (.bool !r) w := by
  have g : ∀ op, (eqGuard op T s t a b).run P w = .ok () w := by
    intro op
    rcases ha with ⟨x, rfl⟩ | ⟨x, rfl⟩ | ⟨x, rfl⟩
    · cases op <;> cases b <;> rfl
    · cases op <;> cases b <;> rfl
    · cases b
      case agg ys => exact run_eqGuard_agg w op T s t x ys hg
      all_goals cases op <;> rfl
  have e1 : binOp .eql T a b = (do pure (.bool (← Op.equal T a b))) := by
    rcases ha with ⟨x, rfl⟩ | ⟨x, rfl⟩ | ⟨x, rfl⟩ <;> cases b <;> rfl
  have e2 : binOp .neq T a b = (do pure (.bool (!(← Op.equal T a b)))) := by
    rcases ha with ⟨x, rfl⟩ | ⟨x, rfl⟩ | ⟨x, rfl⟩ <;> cases b <;> rfl
  have h' : (Op.equal T a b).run P w = .ok r w := h
  constructor
  · rw [Sem.run_bind, g, Result.andThen_ok, e1, Sem.run_bind, h', Result.andThen_ok]; rfl
  · rw [Sem.run_bind, g, Result.andThen_ok, e2, Sem.run_bind, h', Result.andThen_ok]; rfl
theorem eq_cmp {f T : Nat} {q : Q} {D : TypeDesc} (hc : cQ P (types P) f T = some q) (hD : und (types P) T = some D) (h1 : ∀ k, D ≠ .int k) (h2 : D ≠ .string) {h : HP} {x y : V} {k : Bool → R} {v' : V} {h' : HP} {c' : Nat} (H : eQ q h x y k = .fin v' h' c')
    {ρ : Rho} {a : Value} (ha : den ρ x = some a) : Cmp a := by
  cases f with
  | zero => simp [cQ] at hc
  | succ f =>
    unfold cQ at hc
    rw [hD] at hc
    cases D <;> simp only at hc <;> first | cases hc | skip
    · obtain ⟨m, e1, e2⟩ := asB_fin H
      exact .inl ⟨_, bool_den e1 ha⟩
    · exact absurd rfl (h1 _)
    · exact absurd rfl h2
    · rename_i e
      cases hb : Nat.beq (siz (types P) e) 0 with
      | true => rw [hb] at hc; cases hc
      | false =>
        rw [hb] at hc; cases hc
        rcases asQ_fin H with ⟨e1, e2⟩ | ⟨b, o, e1, e2⟩
        · subst e1; simp only [den, Option.some.injEq] at ha; exact .inr (.inl ⟨_, ha.symm⟩)
        · obtain ⟨p, _, d2⟩ := ptr_den e1 ha; exact .inr (.inl ⟨_, d2⟩)
    · cases hb : P.stoodInHeld T with
      | true => rw [hb] at hc; cases hc
      | false =>
        rw [hb] at hc
        simp only [cond_false, Option.map_eq_some_iff] at hc
        obtain ⟨l, _, rfl⟩ := hc
        rw [eQ_st] at H
        obtain ⟨l1, e1, e2⟩ := asA_fin H
        obtain ⟨r1, _, d2⟩ := agg_den e1 ha
        exact .inr (.inr ⟨_, d2⟩)
variable {o : Oper} {d : DS}
theorem snd_eq {T : TypeId} {x y : Operand} {D : TypeDesc} {q : Q} {y1 y2 : OP} {p : TypeId} (hop : o.op = .binOp .eql T x y p) (hd : cDst nt o.dst = .mk d) (h1 : cOpd nt x = .mk y1) (h2 : cOpd nt y = .mk y2) (hD : und (types P) T = some D) (hi : ∀ k, D ≠ .int k) (hs : D ≠ .string)
    (hg : P.eqGuardType P.depth T = false) (hq : cQ P (types P) 10 T = some q) : VSnd X P nt d (fEq d q y1 y2) o := by
  refine VSnd.of (by rw [hop]; simp) hd fun cal t h c df k v' h' c' e => ?_
  obtain ⟨r, e1, _, _, e4⟩ := eQ_ok hq e
  rw [bol_eq] at e1
  refine ⟨_, e1, fun w0 ρ a w hR hTR => ⟨.bool r, by simp [den], ?_⟩⟩
  have := (run_eqs (eq_cmp hq hD hi hs e (opd_den h1 hTR)) hg ((e4 hR (opd_den h1 hTR) (opd_den h2 hTR)).1 10000 (by omega)) x y).1
  simp only [execOp, hop, Sem.run_bind] at this ⊢
  rw [this]; rfl
theorem snd_ne {T : TypeId} {x y : Operand} {D : TypeDesc} {q : Q} {y1 y2 : OP} {p : TypeId} (hop : o.op = .binOp .neq T x y p) (hd : cDst nt o.dst = .mk d) (h1 : cOpd nt x = .mk y1) (h2 : cOpd nt y = .mk y2) (hD : und (types P) T = some D) (hi : ∀ k, D ≠ .int k) (hs : D ≠ .string)
    (hg : P.eqGuardType P.depth T = false) (hq : cQ P (types P) 10 T = some q) : VSnd X P nt d (fNe d q y1 y2) o := by
  refine VSnd.of (by rw [hop]; simp) hd fun cal t h c df k v' h' c' e => ?_
  obtain ⟨r, e1, _, _, e4⟩ := eQ_ok hq e
  rw [nbl_eq] at e1
  refine ⟨_, e1, fun w0 ρ a w hR hTR => ⟨.bool !r, by simp [den], ?_⟩⟩
  have := (run_eqs (eq_cmp hq hD hi hs e (opd_den h1 hTR)) hg ((e4 hR (opd_den h1 hTR) (opd_den h2 hTR)).1 10000 (by omega)) x y).2
  simp only [execOp, hop, Sem.run_bind] at this ⊢
  rw [this]; rfl
theorem snd_bad {n : Nat} : OSnd X P nt (badO n) o := fun cal _ t h c df k v' h' c' e => (by cases e)
end
end Ev
end
section
namespace Ev
open Go Go.RowKit
set_option linter.unusedVariables false
set_option linter.unusedSimpArgs false
theorem asM_fin {v w : V} {h : HP} {c : Nat} {q : Nat → R} (H : asM v q = .fin w h c) : ∃ a, v = .mp a ∧ q a = .fin w h c := by cases v <;> first | exact ⟨_, rfl, H⟩ | cases H
theorem mbk_fin {h : HP} {a : Nat} {k : Nat → Nat → Nat → List Me → R} {v : V} {h' : HP} {c' : Nat} (e : mbk h a k = .fin v h' c') : ∃ kt et n l, hget h a = .mp kt et n l ∧ k kt et n l = .fin v h' c' := by
  unfold mbk at e
  cases hb : hget h a with
  | mp kt et n l => rw [hb] at e; exact ⟨kt, et, n, l, rfl, e⟩
  | _ => rw [hb] at e; cases e
theorem wfI_ok {n : Int} (h : wfI n = true) : (Lit.int .i64 n).wf = true := by
  have h2 : -9223372036854775808 ≤ n ∧ n ≤ 9223372036854775807 := by
    cases n with
    | ofNat m =>
      have : m < 9223372036854775808 := by simpa [wfI, Nat.blt_eq] using h
      simp only [Int.ofNat_eq_natCast]; omega
    | negSucc m =>
      have : m < 9223372036854775808 := by simpa [wfI, Nat.blt_eq] using h
      omega
  show (decide (IntKind.i64.min ≤ n) && decide (n ≤ IntKind.i64.max)) = true
  rw [show IntKind.i64.min = -9223372036854775808 by decide, show IntKind.i64.max = 9223372036854775807 by decide]
  simp [h2.1, h2.2]
theorem mlk_cons (x : Int) (y : Bool) (l : List Me) (n : Int) : mlk (.mk x y :: l) n = if x = n then y else mlk l n := by
  show ifT (ieq x n) y (mlk l n) = _
  by_cases h : x = n
  · rw [if_pos h, ifT_true (by rw [ieq_eq]; simpa using h)]
  · rw [if_neg h, ifT_false]
    cases hb : ieq x n with
    | false => rfl
    | true => rw [ieq_eq] at hb; exact absurd (by simpa using hb) h
theorem plainElem_bool_inv {P : Program} {e : TypeId} (he : P.underlying e = some .bool) {v : Value} {z : DataW Unit × List MemPlace} (h : plainElem P e v = some z) : ∃ x, v = .bool x ∧ z = (.lit (.bool x), []) := by
  unfold plainElem at h
  rw [he] at h
  cases v <;> simp at h
  exact ⟨_, rfl, h.symm⟩
section
variable {X : Spx} {P : Program} {nt : Nat} {o : Oper} {d : DS}
theorem zB_zero {t : Nat} (h : zB (types P) t = true) (w : World) : (zeroValue t).run P w = .ok (.bool false) w := by
  unfold zB at h
  cases hi : tyI (types P) t with
  | none => rw [hi] at h; cases h
  | some i =>
    rw [hi] at h
    simp only at h
    split at h
    · rename_i hz
      simp [zeroValue, typeInfo, tyI_info hi, hz]
    · cases h
theorem snd_mm {T kt et : Nat} (hop : o.op = .makeMap T none) (hd : cDst nt o.dst = .mk d) (hk : und (types P) kt = some (.int .i64)) (he : und (types P) et = some .bool) : OSnd X P nt (fMm d kt et) o := by
  refine OSnd.mem (by rw [hop]; simp) hd fun cal _ t h c df k v' h' c' e => ?_
  obtain ⟨e1, e2⟩ := newK_fin e
  refine ⟨_, _, _, e2, fun w0 ρ a w hR hT => ?_⟩
  refine ⟨_, .map (some w.heap.size), _, hR.le_up _, hR.new e1 (.map #[] 0) 0 (by simp) (by simp) ?_, by simp [den, up_self], Kp.new hR e1, by omega, ?_⟩
  · exact ⟨(w.heap.size, 0), .map [], up_self _ _ _, World.ownsMap_made w P kt _, (und_under hk).1, (und_under he).1, fun m _ => rfl⟩
  · simp only [execOp, hop]
    rfl
theorem snd_lk {T kt et : Nat} {x y : Operand} {y1 y2 : OP} (hop : o.op = .lookup T x y false) (hd : cDst nt o.dst = .mk d) (h1 : cOpd nt x = .mk y1) (h2 : cOpd nt y = .mk y2) (hT : und (types P) T = some (.map kt et)) (hz : zB (types P) et = true) : OSnd X P nt (fLk d kt et y1 y2) o := by
  refine OSnd.val (by rw [hop]; simp) hd fun cal t h c df k v' h' c' e => ?_
  obtain ⟨a0, e1, e2⟩ := asM_fin e
  obtain ⟨kt', et', n, l, e3, e4⟩ := mbk_fin e2
  obtain ⟨e5, e6⟩ := ifT_fin e4
  obtain ⟨e7, e8⟩ := ifT_fin e6
  have := Nat.eq_of_beq_eq_true e5; subst this
  have := Nat.eq_of_beq_eq_true e7; subst this
  obtain ⟨kd0, m, e9, e10⟩ := asI_fin e8
  obtain ⟨e11, e12⟩ := ifT_fin e10
  obtain ⟨e13, e14⟩ := ifT_fin e12
  rw [fB_eq] at e14
  refine ⟨_, e14, fun w0 ρ a w hR hTR => ⟨.bool (mlk l m), by simp [den], ?_⟩⟩
  have hx := opd_den h1 hTR
  rw [e1] at hx
  simp only [den, Option.map_eq_some_iff] at hx
  obtain ⟨p, hp, hx⟩ := hx
  have hy := Option.some.inj ((opd_den h2 hTR).symm.trans (int_den e9))
  have hkd := Nat.eq_of_beq_eq_true e11
  subst hkd
  have hb := hR.blk a0 (hR.dom _ _ hp).1
  rw [e3] at hb
  obtain ⟨p', D, q1, q2, q3, q4, q5⟩ := hb
  rw [hp] at q1; cases q1
  have hwf := wfI_ok e13
  obtain ⟨v, ps, r1, r2⟩ := q2.lookup (Maps.int_keyed q3) (und_under hT).1 (zB_zero hz w) (plainElem_bool q4 false) (Maps.keyOf_int_mk q3 hwf)
  obtain ⟨b, rfl, r3⟩ := plainElem_bool_inv q4 r2
  simp only [Prod.mk.injEq] at r3
  have r4 := r3.1
  rw [q5 m hwf] at r4
  simp only [DataW.lit.injEq, Lit.bool.injEq] at r4
  simp only [execOp, hop]
  rw [← hx, hy]
  show (do let v ← Instr.lookup T (.map (some p.1)) (.int .i64 m) false; pure (Next.value v) : Sem Next).run P w = _
  rw [Sem.run_bind, r1, ← r4]; rfl
theorem snd_mu {T kt et : Nat} {x y z : Operand} {y1 y2 y3 : OP} (hop : o.op = .mapUpdate T x y z) (hdst : o.dst = none) (h1 : cOpd nt x = .mk y1) (h2 : cOpd nt y = .mk y2) (h3 : cOpd nt z = .mk y3) (hT : und (types P) T = some (.map kt et)) : OSnd X P nt (fMu kt et y1 y2 y3) o := by
  intro cal hcal t h c df k v' h' c' e
  obtain ⟨a0, e1, e2⟩ := asM_fin e
  obtain ⟨kt', et', n, l, e3, e4⟩ := mbk_fin e2
  obtain ⟨e5, e6⟩ := ifT_fin e4
  obtain ⟨e7, e8⟩ := ifT_fin e6
  have := Nat.eq_of_beq_eq_true e5; subst this
  have := Nat.eq_of_beq_eq_true e7; subst this
  obtain ⟨kd0, m, e9, e10⟩ := asI_fin e8
  obtain ⟨e11, e12⟩ := ifT_fin e10
  obtain ⟨e13, e14⟩ := ifT_fin e12
  obtain ⟨b, e15, e16⟩ := asB_fin e14
  obtain ⟨e17, e18⟩ := ifT_fin e16
  rw [hset_eq] at e18
  have hkd := Nat.eq_of_beq_eq_true e11
  subst hkd
  refine ⟨t, _, c, e18, fun w0 ρ a w rr n' Q K hR hTR hK => ?_⟩
  have hx := opd_den h1 hTR
  rw [e1] at hx
  simp only [den, Option.map_eq_some_iff] at hx
  obtain ⟨p, hp, hx⟩ := hx
  have hy := Option.some.inj ((opd_den h2 hTR).symm.trans (int_den e9))
  have hzv := bool_den e15 (opd_den h3 hTR)
  have hb := hR.blk a0 (hR.dom _ _ hp).1
  rw [e3] at hb
  obtain ⟨p', D, q1, q2, q3, q4, q5⟩ := hb
  rw [hp] at q1; cases q1
  have hwf := wfI_ok e13
  have hn : n < 1000000 := by simpa [Nat.blt_eq] using e17
  obtain ⟨w1, r1, r2, r3⟩ := q2.update (Maps.int_keyed q3) (und_under hT).1 (by unfold maxLen; omega) (Maps.keyOf_int_mk q3 hwf) (plainElem_bool q4 b)
  have hsame : w1.heap.size = w.heap.size := by
    obtain ⟨es, clock, hbk, F, hsz, _⟩ := q2
    obtain ⟨es', clock', s1, _⟩ := Maps.fit_store (R' := plainElem P et') (Maps.int_keyed q3) (und_under hT).1 hbk F (by unfold maxLen; omega) (fun _ _ _ _ hz => hz) (Maps.keyOf_int_mk q3 hwf) (plainElem_bool q4 b)
    rw [r1] at s1
    cases s1
    simp [ChangeMaps.setBlock]
  refine ⟨fun _ _ => trivial, ?_⟩
  rw [Oper.semAt_eq _ _ _ (by rw [hop]; simp)]
  have hrun : (execOp a.eval o).run P w = .ok .skip w1 := by
    simp only [execOp, hop]
    rw [← hx, hy, hzv]
    show (do Instr.mapUpdate T (.map (some p.1)) (.int .i64 m) (.bool b); pure Next.skip : Sem Next).run P w = _
    rw [Sem.run_bind, r1]; rfl
  rw [hrun]
  show K (a.put o.dst undef) w1
  rw [hdst]
  have hlt := (hR.dom _ _ hp).1
  have hle := hR.le
  refine hK ρ a w1 (Le.refl _) (hR.set hp (by rw [e3]; exact Blk.noConfusion) (fun s hs => by rw [e3] at hs; cases hs) (fun s hs => by cases hs) hsame r3.os r3.tape r3.output (fun j hj => ?_) ?_) hTR (Kp.hs hle (by omega) fun _ hh => by rw [e3] at hh; cases hh) (Nat.le_refl _) rfl
  · by_cases hjl : j < w.heap.size
    · exact r3.block j hjl (fun e => hj (by cases e; rfl))
    · rw [Array.getElem?_eq_none (by omega), Array.getElem?_eq_none (by omega)]
  · refine ⟨p, _, hp, r2, q3, q4, fun m' hm' => ?_⟩
    rw [mlk_cons]
    by_cases hmm : m = m'
    · subst hmm
      rw [if_pos rfl, Maps.atKey_put_same q2.isMap (show WideAt.IsKeyLit (.int .i64 m) from trivial)]
    · rw [if_neg hmm, Maps.atKey_put_other (fun e => hmm (by cases e; rfl)), q5 m' hm']
end
end Ev
end
section
namespace Ev
open Go Go.RowKit
set_option linter.unusedVariables false
set_option linter.unusedSimpArgs false
section
variable {X : Spx} {P : Program} {nt : Nat} {o : Oper} {d : DS}
theorem calls_in {r : Option Nat} {n : Nat} {f : FuncId} {args : Array Value} {w : World} {R : Ending → World → Prop} (h : Calls P f args w R) : CallsIn (Fr r) n P f args w R := by
  have h' : CallsIn Fence.wide n P f args w R := callsIn_wide.2 h
  exact ⟨trivial, fun cs hr => h'.2 cs (room_wide _)⟩
theorem round_in {r : Option Nat} {n i : Nat} {f : FuncId} {tmps : Array Value} {x y : Code} {w : World} {R : Ending → World → Prop} (h : RoundIn Fence.wide 0 P i f tmps x y w R) : RoundIn (Fr r) n P i f tmps x y w R :=
  ⟨trivial, fun c cs _ => h.2 c cs (room_wide _)⟩
theorem snd_call {g : Operand} {y : OP} {ys : List OP} {cc : Call} (hop : o.op = .call cc) (hcc : cc.callee = .value g) (hd : cDst nt o.dst = .mk d) (h1 : cOpd nt g = .mk y) (h2 : cOpds nt cc.args.toList = .mk ys) : OSnd X P nt (fCall d y ys) o := by
  intro cal hcal t h c df k v' h' c' e
  have e0 : rdL t ys (fun l => cal (y t) l h c fun v h c => d v t fun t => k t h c df) = .fin v' h' c' := e
  rw [rdL_eq] at e0
  obtain ⟨v, h1', c1, e1, hw⟩ := hcal _ _ _ _ _ _ _ _ e0
  obtain ⟨t1, ht1, e2⟩ := dst_eq hd v t fun t => k t h1' c1 df
  rw [e2] at e1
  refine ⟨t1, h1', c1, e1, fun w0 ρ a w r n Q K hR hT hK => ?_⟩
  have hres : execOp a.eval o = (do let d ← Deferred.ofValue (a.eval g) (cc.args.map a.eval); invoke d.target d.args) := by
    simp [execOp, hop, resolve, hcc]
  have hl : (cc.args.toList.map a.eval).toArray = cc.args.map a.eval := by apply Array.ext'; simp
  have fin : ∀ x w', (∃ ρ', Le ρ ρ' ∧ HR X P w0 ρ' h1' c1 w' ∧ den ρ' v = some x ∧ Kp h h1' c ∧ c ≤ c1) → K (a.put o.dst x) w' := by
    rintro x w' ⟨ρ', g1, g2, g3, g4, g5⟩
    obtain ⟨g7, g8⟩ := dst_ok hd ht1 (hT.mono g1) g3
    exact hK ρ' _ w' g1 g2 g7 g4 g5 g8
  refine ⟨fun _ _ => trivial, ?_⟩
  rw [Oper.semAt_eq _ _ _ (by rw [hop]; simp), hres]
  rcases hw w0 ρ w _ _ hR (opd_den h1 hT) (opds_den h2 hT) with ⟨f, args, r1, r2⟩ | ⟨_, i, f, tmps, x, b, r1, r2⟩
  · rw [hl] at r1
    rw [r1]
    refine ⟨fun hh => by simp [Fr, Fence.wide] at hh, calls_in (r2.mono ?_)⟩
    rintro e w' ⟨x, rfl, hx⟩
    exact fin x w' hx
  · rw [hl] at r1
    rw [r1]
    refine ⟨fun hh => by simp [Fr, Fence.wide] at hh, round_in (r2.mono ?_)⟩
    rintro e w' ⟨x, rfl, hx⟩
    exact fin x w' hx
def LSnd (X : Spx) (P : Program) (nt : Nat) (f : OC) (o : Oper) : Prop := ∀ cal t h c df k v' h' c', f cal t h c df k = .fin v' h' c' → ∃ v t1, dT o.dst t v t1 ∧ (∀ n, o.dst = some n → n < nt ∧ n < 256) ∧ k t1 h c df = .fin v' h' c' ∧
  ∀ w0 ρ (a : Act) w, HR X P w0 ρ h c w → TR ρ nt t a.tmps → ∃ x, den ρ v = some x ∧ (execOp a.eval o).run P w = .ok (.value x) w
theorem VSnd.l {f : OC} {o : Oper} {d : DS} (h : VSnd X P nt d f o) : LSnd X P nt f o := by
  intro cal t hh c df k v' h' c' e
  obtain ⟨v, e1, w1⟩ := h.2.2 cal t hh c df k v' h' c' e
  obtain ⟨t1, ht1, e2⟩ := dst_eq h.2.1 v t fun t => k t hh c df
  rw [e2] at e1
  refine ⟨v, t1, ht1, fun n hn => ?_, e1, w1⟩
  have hd := h.2.1
  rw [hn] at hd
  simp only [cDst] at hd
  cases hb : okT nt n with
  | false => rw [hb] at hd; cases hd
  | true => exact okT_iff.1 hb
def OB (X : Spx) (P : Program) (nt : Nat) (f : OC) (o : Oper) : Prop := OSnd X P nt f o ∧ (isLight o.op = true → LSnd X P nt f o)
theorem VSnd.b {f : OC} {o : Oper} {d : DS} (h : VSnd X P nt d f o) : OB X P nt f o := ⟨h.o, fun _ => h.l⟩
theorem OSnd.b {f : OC} {o : Oper} (h : OSnd X P nt f o) (hl : isLight o.op = false) : OB X P nt f o := ⟨h, fun hh => by rw [hl] at hh; cases hh⟩
theorem bad_b {n : Nat} : OB X P nt (badO n) o := ⟨snd_bad, fun _ cal t h c df k v' h' c' e => (by cases e)⟩
theorem bx_cases {α : Type} {z : Nat} {b : Bx α} {g : α → Bx OC} {f : OC} (h : bx z b g = .mk f) : (∃ a, b = .mk a ∧ g a = .mk f) ∨ f = badO z := by
  cases b with
  | mk a => exact .inl ⟨a, rfl, h⟩
  | no => cases h; exact .inr rfl
theorem bif_cases {α : Type} {b : Bool} {x y z : α} (h : (bif b then x else y) = z) : (b = true ∧ x = z) ∨ (b = false ∧ y = z) := by cases b; exact .inr ⟨rfl, h⟩; exact .inl ⟨rfl, h⟩
theorem opds1 {l : List Operand} {y : OP} (h : cOpds nt l = .mk [y]) : ∃ x, l = [x] ∧ cOpd nt x = .mk y := by
  cases l with
  | nil => cases h
  | cons a l =>
    unfold cOpds at h
    split at h
    · rename_i x' y' h1 h2
      cases h
      cases l with
      | nil => exact ⟨a, rfl, h1⟩
      | cons b l =>
        unfold cOpds at h2
        split at h2 <;> cases h2
    · cases h
theorem opds2 {l : List Operand} {y y' : OP} (h : cOpds nt l = .mk [y, y']) : ∃ x x', l = [x, x'] ∧ cOpd nt x = .mk y ∧ cOpd nt x' = .mk y' := by
  cases l with
  | nil => cases h
  | cons a l =>
    unfold cOpds at h
    split at h
    · rename_i x1 y1 h1 h2
      cases h
      obtain ⟨b, rfl, h3⟩ := opds1 h2
      exact ⟨a, b, rfl, h1, h3⟩
    · cases h
theorem cOp_both {f : OC} (h : cOp P (types P) nt o = .mk f) : OB X P nt f o := by
  unfold cOp at h
  rcases bx_cases h with ⟨d, hd, h⟩ | rfl
  case inr => exact bad_b
  cases hop : o.op <;> simp only [hop] at h
  case move x =>
    rcases bx_cases h with ⟨y, hy, h⟩ | rfl
    · cases h; exact (snd_mv (.inl hop) hd hy).b
    · exact bad_b
  case assign x =>
    rcases bx_cases h with ⟨y, hy, h⟩ | rfl
    · cases h; exact (snd_mv (.inr hop) hd hy).b
    · exact bad_b
  case pick c x y =>
    rcases bx_cases h with ⟨y1, h1, h⟩ | rfl
    case inr => exact bad_b
    rcases bx_cases h with ⟨y2, h2, h⟩ | rfl
    case inr => exact bad_b
    rcases bx_cases h with ⟨y3, h3, h⟩ | rfl
    case inr => exact bad_b
    cases h; exact (snd_pick hop hd h1 h2 h3).b
  case alloc t =>
    split at h
    · rename_i l hl
      split at h
      · rename_i z hz
        rcases bif_cases h with ⟨hb, h⟩ | ⟨_, h⟩
        · cases h; exact (snd_alloc hop hd hl hz (Nat.eq_of_beq_eq_true hb)).b (by simp [isLight, hop, *])
        · cases h; exact bad_b
      · cases h; exact bad_b
    · cases h; exact bad_b
  case box t x =>
    rcases bx_cases h with ⟨y, hy, h⟩ | rfl
    · cases h; exact (snd_box hop hd hy).b (by simp [isLight, hop, *])
    · exact bad_b
  case build t ps =>
    split at h
    · rename_i z fs hz hT
      obtain ⟨l, hz1, hz2⟩ := Option.bind_eq_some_iff.1 hz
      rcases bif_cases h with ⟨_, h⟩ | ⟨hb, h⟩
      · cases h; exact bad_b
      · simp only [Bool.or_eq_false_iff, Bool.not_eq_false'] at hb
        rcases bx_cases h with ⟨os, ho, h⟩ | rfl
        · cases h; exact (snd_build hop hd hz1 hz2 hb.2 ho (.inl ⟨_, hT, hb.1, rfl⟩)).b
        · exact bad_b
    · rename_i z n e hz hT
      obtain ⟨l, hz1, hz2⟩ := Option.bind_eq_some_iff.1 hz
      rcases bif_cases h with ⟨_, h⟩ | ⟨hb, h⟩
      · cases h; exact bad_b
      · simp only [Bool.or_eq_false_iff, Bool.not_eq_false'] at hb
        rcases bx_cases h with ⟨os, ho, h⟩ | rfl
        · cases h; exact (snd_build hop hd hz1 hz2 hb.2 ho (.inr ⟨_, _, hT, hb.1, rfl⟩)).b
        · exact bad_b
    · cases h; exact bad_b
  case buildSlice t n ps =>
    split at h
    · rename_i e hT
      split at h
      · rename_i z hz
        obtain ⟨l, hz1, hz2⟩ := Option.bind_eq_some_iff.1 hz
        rcases bif_cases h with ⟨hb, h⟩ | ⟨_, h⟩
        · simp only [Bool.and_eq_true] at hb
          rcases bx_cases h with ⟨os, ho, h⟩ | rfl
          · cases h; exact (snd_bsl hop hd hT hz1 hz2 (Nat.eq_of_beq_eq_true hb.1.1) (by simpa using hb.1.2) (Nat.le_of_ble_eq_true hb.2) ho).b (by simp [isLight, hop, *])
          · exact bad_b
        · cases h; exact bad_b
      · cases h; exact bad_b
    · cases h; exact bad_b
  case load t x =>
    rcases bx_cases h with ⟨y, hy, h⟩ | rfl
    case inr => exact bad_b
    split at h
    · rename_i D hT
      rcases bif_cases h with ⟨hb, h⟩ | ⟨hb, h⟩
      · cases h; exact (snd_lda hop hd hy hT hb).b
      · cases h; exact (snd_ld hop hd hy hT hb).b
    · cases h; exact bad_b
  case store t x y =>
    rcases bx_cases h with ⟨y1, h1, h⟩ | rfl
    case inr => exact bad_b
    rcases bx_cases h with ⟨y2, h2, h⟩ | rfl
    case inr => exact bad_b
    split at h
    · rename_i D hdst hT
      cases h; exact (snd_st hop hdst h1 h2 hT).b (by simp [isLight, hop, *])
    · cases h; exact bad_b
  case nilCheck x =>
    rcases bx_cases h with ⟨y, hy, h⟩ | rfl
    · cases h; exact (snd_nck hop hd hy).b
    · exact bad_b
  case binOp op t x y p =>
    rcases bx_cases h with ⟨y1, h1, h⟩ | rfl
    case inr => exact bad_b
    rcases bx_cases h with ⟨y2, h2, h⟩ | rfl
    case inr => exact bad_b
    split at h
    · rename_i k hT
      rcases bx_cases h with ⟨g, hg, h⟩ | rfl
      · cases h; exact (snd_ar hop hd h1 h2 (cAr_ok hg)).b
      · exact bad_b
    · rename_i hT
      rcases bx_cases h with ⟨g, hg, h⟩ | rfl
      · cases h; exact (snd_ar hop hd h1 h2 (cSr_ok hg)).b
      · exact bad_b
    · rename_i hn1 hn2
      split at h
      · rcases bif_cases h with ⟨_, h⟩ | ⟨hb, h⟩
        · cases h; exact bad_b
        · split at h
          · rename_i q hq
            cases h
            obtain ⟨D, hD, _⟩ := cQ_st hq
            exact (snd_eq hop hd h1 h2 hD (fun k hk => hn1 k (by rw [hD, hk])) (fun hk => hn2 (by rw [hD, hk])) hb hq).b
          · cases h; exact bad_b
      · rcases bif_cases h with ⟨_, h⟩ | ⟨hb, h⟩
        · cases h; exact bad_b
        · split at h
          · rename_i q hq
            cases h
            obtain ⟨D, hD, _⟩ := cQ_st hq
            exact (snd_ne hop hd h1 h2 hD (fun k hk => hn1 k (by rw [hD, hk])) (fun hk => hn2 (by rw [hD, hk])) hb hq).b
          · cases h; exact bad_b
      · cases h; exact bad_b
  case unOp op t x =>
    rcases bx_cases h with ⟨y, hy, h⟩ | rfl
    case inr => exact bad_b
    split at h
    · cases h; exact (snd_no hop hd hy).b
    · cases h; exact (snd_ng hop hd hy).b
    · cases h; exact bad_b
  case convert s t x =>
    rcases bx_cases h with ⟨y, hy, h⟩ | rfl
    case inr => exact bad_b
    split at h
    · rename_i hs hT; cases h; exact (snd_cv hop hd hy hs hT).b
    · rename_i hs hT; cases h; exact (snd_cs hop hd hy hs hT).b
    · rename_i hs hT
      split at h
      · rename_i hE; cases h; exact (snd_bs hop hd hy hs hE hT).b
      · cases h; exact bad_b
    · cases h; exact bad_b
  case makeFunc g fs cs =>
    cases g <;> simp only at h
    case func g =>
      rcases bx_cases h with ⟨y1, h1, h⟩ | rfl
      case inr => exact bad_b
      rcases bx_cases h with ⟨y2, h2, h⟩ | rfl
      case inr => exact bad_b
      cases h; exact (snd_mkf hop hd h1 h2).b
    all_goals (cases h; exact bad_b)
  case makeSlice t x y =>
    rcases bx_cases h with ⟨y1, h1, h⟩ | rfl
    case inr => exact bad_b
    rcases bx_cases h with ⟨y2, h2, h⟩ | rfl
    case inr => exact bad_b
    split at h
    · rename_i e hT
      split at h
      · rename_i zl hz
        split at h
        · rename_i z hzz
          rcases bif_cases h with ⟨hb, h⟩ | ⟨_, h⟩
          · simp only [Bool.and_eq_true] at hb
            cases h; exact (snd_mks hop hd h1 h2 hT hz hzz (Nat.eq_of_beq_eq_true hb.2) (by simpa using hb.1)).b (by simp [isLight, hop, *])
          · cases h; exact bad_b
        · cases h; exact bad_b
      · cases h; exact bad_b
    · cases h; exact bad_b
  case slice t x lo hi mx =>
    rcases bx_cases h with ⟨y, h1, h⟩ | rfl
    case inr => exact bad_b
    rcases bx_cases h with ⟨ol, h2, h⟩ | rfl
    case inr => exact bad_b
    rcases bx_cases h with ⟨oh, h3, h⟩ | rfl
    case inr => exact bad_b
    rcases bx_cases h with ⟨om, h4, h⟩ | rfl
    case inr => exact bad_b
    rcases bif_cases h with ⟨_, h⟩ | ⟨hb, h⟩
    · cases h; exact bad_b
    split at h
    · rename_i hT
      split at h
      · have hm := cOpt_none h4; rw [hm] at hop; cases h; exact (snd_sls hop hd h1 h2 h3 hT).b
      · cases h; exact bad_b
    · rename_i e hT
      rcases bif_cases h with ⟨hk, h⟩ | ⟨_, h⟩
      · cases h; exact (snd_sli hop hd h1 h2 h3 h4 hb hT hk).b
      · cases h; exact bad_b
    · rename_i n e hT
      rcases bif_cases h with ⟨hk, h⟩ | ⟨_, h⟩
      · cases h; exact (snd_slp hop hd h1 h2 h3 h4 hb hT hk).b
      · cases h; exact bad_b
    · cases h; exact bad_b
  case fieldAddr t x g =>
    rcases bx_cases h with ⟨y, h1, h⟩ | rfl
    case inr => exact bad_b
    split at h
    · rename_i fs hT
      split at h
      · rename_i g hg
        rcases bif_cases h with ⟨_, h⟩ | ⟨hb, h⟩
        · cases h; exact bad_b
        · cases h; exact (snd_fa hop hd h1 hT hg hb).b
      · cases h; exact bad_b
    · cases h; exact bad_b
  case field t x g =>
    rcases bx_cases h with ⟨y, h1, h⟩ | rfl
    case inr => exact bad_b
    split at h
    · rename_i fs hT
      split at h
      · rename_i g hg
        rcases bif_cases h with ⟨_, h⟩ | ⟨hb, h⟩
        · cases h; exact bad_b
        · rcases bif_cases h with ⟨ha, h⟩ | ⟨ha, h⟩
          · cases h; exact (snd_fla hop hd h1 hT hg (by simpa using hb) ha).b
          · cases h; exact (snd_fl hop hd h1 hT hg (by simpa using hb) ha).b
      · cases h; exact bad_b
    · cases h; exact bad_b
  case indexAddr t x i =>
    rcases bx_cases h with ⟨y1, h1, h⟩ | rfl
    case inr => exact bad_b
    rcases bx_cases h with ⟨y2, h2, h⟩ | rfl
    case inr => exact bad_b
    split at h
    · rename_i e hT
      rcases bif_cases h with ⟨hb, h⟩ | ⟨_, h⟩
      · cases h; exact (snd_ia hop hd h1 h2 hT hb).b
      · cases h; exact bad_b
    · rename_i n e hT
      rcases bif_cases h with ⟨hb, h⟩ | ⟨_, h⟩
      · cases h; exact (snd_iaa hop hd h1 h2 hT hb).b
      · cases h; exact bad_b
    · cases h; exact bad_b
  case index t x i =>
    rcases bx_cases h with ⟨y1, h1, h⟩ | rfl
    case inr => exact bad_b
    rcases bx_cases h with ⟨y2, h2, h⟩ | rfl
    case inr => exact bad_b
    split at h
    · rename_i hT; cases h; exact (snd_ixs hop hd h1 h2 hT).b
    · rename_i n e hT
      rcases bif_cases h with ⟨_, h⟩ | ⟨hb, h⟩
      · cases h; exact bad_b
      · rcases bif_cases h with ⟨ha, h⟩ | ⟨ha, h⟩
        · cases h; exact (snd_ixa hop hd h1 h2 hT (by simpa using hb) ha).b
        · cases h; exact (snd_ix hop hd h1 h2 hT (by simpa using hb) ha).b
    · cases h; exact bad_b
  case extract x i =>
    rcases bx_cases h with ⟨y, h1, h⟩ | rfl
    · cases h; exact (snd_ex hop hd h1).b
    · exact bad_b
  case call cc =>
    cases hcc : cc.callee <;> simp only [hcc] at h
    case value g =>
      rcases bx_cases h with ⟨y, h1, h⟩ | rfl
      case inr => exact bad_b
      rcases bx_cases h with ⟨ys, h2, h⟩ | rfl
      case inr => exact bad_b
      cases h; exact (snd_call hop hcc hd h1 h2).b (by simp [isLight, hop, *])
    case builtin b =>
      rcases bx_cases h with ⟨ys, h2, h⟩ | rfl
      case inr => exact bad_b
      split at h
      · rename_i y t hat
        obtain ⟨x, ha, h1⟩ := opds1 h2
        cases b <;> simp only at h
        case len =>
          split at h
          · rename_i hT; cases h; exact (snd_lnS hop hcc ha hat hd h1 hT).b
          · rename_i hT; cases h; exact (snd_lnL hop hcc ha hat hd h1 hT).b
          · rename_i hT; cases h; exact (snd_lna (y := y) hop hcc ha hat hd (.inl ⟨_, hT⟩)).b
          · rename_i r hT
            split at h
            · rename_i hr; cases h; exact (snd_lna (y := y) hop hcc ha hat hd (.inr ⟨_, _, hT, hr⟩)).b
            · cases h; exact bad_b
          · cases h; exact bad_b
        case cap =>
          split at h
          · rename_i hT; cases h; exact (snd_cp hop hcc ha hat hd h1 hT).b
          · cases h; exact bad_b
        all_goals (cases h; exact bad_b)
      · rename_i y1 y2 t u hat
        obtain ⟨x, x', ha, h1, h3⟩ := opds2 h2
        cases b <;> simp only at h
        case append =>
          split at h
          · rename_i e e' hT hU
            split at h
            · rename_i l hz
              rcases bif_cases h with ⟨hb, h⟩ | ⟨_, h⟩
              · simp only [Bool.and_eq_true] at hb
                cases h; exact (snd_app hop hcc ha hat hd h1 h3 hT (.inl ⟨_, hU⟩) hz (by simpa using hb.1.1) (by simpa using hb.1.2) (Nat.eq_of_beq_eq_true hb.2)).b (by simp [isLight, hop, *])
              · cases h; exact bad_b
            · cases h; exact bad_b
          · rename_i e hT hU
            split at h
            · rename_i l hz
              rcases bif_cases h with ⟨hb, h⟩ | ⟨_, h⟩
              · simp only [Bool.and_eq_true] at hb
                cases h; exact (snd_app hop hcc ha hat hd h1 h3 hT (.inr hU) hz (by simpa using hb.1.1) (by simpa using hb.1.2) (Nat.eq_of_beq_eq_true hb.2)).b (by simp [isLight, hop, *])
              · cases h; exact bad_b
            · cases h; exact bad_b
          · cases h; exact bad_b
        case copy =>
          split at h
          · rename_i e hT
            rcases bif_cases h with ⟨hk, h⟩ | ⟨_, h⟩
            · cases h; exact (snd_cpy hop hcc ha hat hd h1 h3 hT hk).b (by simp [isLight, hop, *])
            · cases h; exact bad_b
          · cases h; exact bad_b
        case max => cases h; exact (snd_mx hop hcc ha hd h1 h3).b
        case min => cases h; exact (snd_mn hop hcc ha hd h1 h3).b
        all_goals (cases h; exact bad_b)
      · cases h; exact bad_b
    all_goals (cases h; exact bad_b)
  case makeMap t r =>
    cases r with
    | some r => cases h; exact bad_b
    | none =>
      simp only at h
      split at h
      · rename_i kt et hT
        split at h
        · rename_i hk he
          rcases bif_cases h with ⟨_, h⟩ | ⟨_, h⟩
          · cases h; exact (snd_mm hop hd hk he).b (by simp [isLight, hop, *])
          · cases h; exact bad_b
        · cases h; exact bad_b
      · cases h; exact bad_b
  case lookup t x y q =>
    cases q with
    | true => cases h; exact bad_b
    | false =>
      simp only at h
      rcases bx_cases h with ⟨y1, h1, h⟩ | rfl
      case inr => exact bad_b
      rcases bx_cases h with ⟨y2, h2, h⟩ | rfl
      case inr => exact bad_b
      split at h
      · rename_i kt et hT
        split at h
        · rename_i hk he
          rcases bif_cases h with ⟨hb, h⟩ | ⟨_, h⟩
          · cases h; exact (snd_lk hop hd h1 h2 hT hb).b (by simp [isLight, hop, *])
          · cases h; exact bad_b
        · cases h; exact bad_b
      · cases h; exact bad_b
  case mapUpdate t x y z =>
    rcases bx_cases h with ⟨y1, h1, h⟩ | rfl
    case inr => exact bad_b
    rcases bx_cases h with ⟨y2, h2, h⟩ | rfl
    case inr => exact bad_b
    rcases bx_cases h with ⟨y3, h3, h⟩ | rfl
    case inr => exact bad_b
    split at h
    · rename_i kt et hdst hT
      split at h
      · cases h; exact (snd_mu hop hdst h1 h2 h3 hT).b (by simp [isLight, hop, *])
      · cases h; exact bad_b
    · cases h; exact bad_b
  all_goals (cases h; exact bad_b)
theorem cOp_ok {f : OC} (h : cOp P (types P) nt o = .mk f) : OSnd X P nt f o := (cOp_both h).1
end
end Ev
end
section
namespace Ev
open Go Go.RowKit
set_option linter.unusedVariables false
set_option linter.unusedSimpArgs false
section
variable (X : Spx) (P : Program)
def GSnd (nt : Nat) (ops : Array Oper) (f : OC) (o : Oper) : Prop := ∀ cal, CalOK X P cal → ∀ t h c df k v' h' c', f cal t h c df k = .fin v' h' c' →
  ∃ t1 h1 c1, k t1 h1 c1 df = .fin v' h' c' ∧ ∀ w0 ρ a w r n Q K, HR X P w0 ρ h c w → TR ρ nt t a.tmps →
    (∀ ρ' a' w', Le ρ ρ' → HR X P w0 ρ' h1 c1 w' → TR ρ' nt t1 a'.tmps → Kp h h1 c → c ≤ c1 → a'.defers = a.defers → K a' w') →
    if Region.wanted o (yielded ops a.tmps) = true then o.wpIn (Fr r) n P a w K Q else K (a.put o.dst undef) w
def RSnd (nt : Nat) (ops : Array Oper) (f : OC) (is : List Nat) : Prop := ∀ cal, CalOK X P cal → ∀ t h c df k v' h' c', f cal t h c df k = .fin v' h' c' →
  ∃ t1 h1 c1, k t1 h1 c1 df = .fin v' h' c' ∧ ∀ w0 ρ a w r n Q, HR X P w0 ρ h c w → TR ρ nt t a.tmps →
    (∀ ρ' a' w', Le ρ ρ' → HR X P w0 ρ' h1 c1 w' → TR ρ' nt t1 a'.tmps → Kp h h1 c → c ≤ c1 → a'.defers = a.defers → Q .normal a' w') → wpOpsIn (Fr r) n P ops Q is a w
end
section
variable {X : Spx} {P : Program} {nt : Nat} {o : Oper} {d : DS} {ops : Array Oper}
theorem den_b {ρ : Rho} {v : V} {b : Bool} (h : den ρ v = some (.bool b)) : v = .b b := by
  cases v <;> simp only [den, Option.map_eq_some_iff, Option.bind_eq_some_iff, Option.some.injEq, reduceCtorEq, and_false, exists_false, Value.bool.injEq] at h
  · cases h
  · rw [h]
theorem cGO_ok {f : OC} (h : cGO P (types P) nt ops o = .mk f) : GSnd X P nt ops f o := by
  unfold cGO at h
  split at h
  · rename_i hg
    intro cal hcal t hh c df k v' h' c' e
    obtain ⟨t1, h1, c1, e1, hw⟩ := cOp_ok h cal hcal t hh c df k v' h' c' e
    refine ⟨t1, h1, c1, e1, fun w0 ρ a w r n Q K hR hT hK => ?_⟩
    rw [if_pos (by simp [Region.wanted, hg])]
    exact hw w0 ρ a w r n Q K hR hT hK
  · rename_i j want hg
    split at h
    · rename_i t0 ht0
      rcases bx_cases h with ⟨g, hgo, h⟩ | rfl
      case inr => intro cal _ t hh c df k v' h' c' e; exact (by cases e)
      rcases bx_cases h with ⟨d, hd, h⟩ | rfl
      case inr => intro cal _ t hh c df k v' h' c' e; exact (by cases e)
      rcases bx_cases h with ⟨f0, hf, h⟩ | rfl
      case inr => intro cal _ t hh c df k v' h' c' e; exact (by cases e)
      cases h
      intro cal hcal t hh c df k v' h' c' e
      have hwant : ∀ {ρ : Rho} {a : Act}, TR ρ nt t a.tmps → (∀ b, g t = .b b → Region.wanted o (yielded ops a.tmps) = (b == want)) ∧ ((∀ b, g t ≠ .b b) → Region.wanted o (yielded ops a.tmps) = false) := by
        intro ρ a hT
        have hv := opd_den hgo hT
        have he : a.eval (.tmp t0) = a.tmps.getD t0 undef := rfl
        rw [he] at hv
        constructor
        · intro b hb
          have hx := bool_den hb hv
          have hget : a.tmps[t0]? = some (.bool b) := by
            rw [Array.getD_eq_getD_getElem?] at hx
            cases hq : a.tmps[t0]? with
            | none => rw [hq] at hx; simp [undef] at hx
            | some y => rw [hq] at hx; simp at hx; rw [hx]
          simp [Region.wanted, hg, yielded, ht0, hget]
        · intro hb
          have hno : yielded ops a.tmps j = none := by
            unfold yielded
            rw [ht0]
            simp only [Option.bind_some]
            split
            · rename_i b hq
              exfalso
              rw [Array.getD_eq_getD_getElem?, hq] at hv
              exact hb b (den_b hv)
            · rfl
          simp [Region.wanted, hg, hno]
      have skip : (d .u t fun t => k t hh c df) = .fin v' h' c' → (∀ {ρ : Rho} {a : Act}, TR ρ nt t a.tmps → Region.wanted o (yielded ops a.tmps) = false) →
          ∃ t1 h1 c1, k t1 h1 c1 df = .fin v' h' c' ∧ ∀ w0 ρ a w r n Q K, HR X P w0 ρ hh c w → TR ρ nt t a.tmps →
            (∀ ρ' a' w', Le ρ ρ' → HR X P w0 ρ' h1 c1 w' → TR ρ' nt t1 a'.tmps → Kp hh h1 c → c ≤ c1 → a'.defers = a.defers → K a' w') →
            if Region.wanted o (yielded ops a.tmps) = true then o.wpIn (Fr r) n P a w K Q else K (a.put o.dst undef) w := by
        intro e2 hw
        obtain ⟨t1, ht1, e3⟩ := dst_eq hd .u t fun t => k t hh c df
        rw [e3] at e2
        refine ⟨t1, hh, c, e2, fun w0 ρ a w r n Q K hR hT hK => ?_⟩
        rw [if_neg (by rw [hw hT]; simp)]
        obtain ⟨g7, g8⟩ := dst_ok hd ht1 hT (x := undef) (by simp [den])
        exact hK ρ _ w (Le.refl _) hR g7 (Kp.refl _ _) (Nat.le_refl _) g8
      have go : f0 cal t hh c df k = .fin v' h' c' → (∀ {ρ : Rho} {a : Act}, TR ρ nt t a.tmps → Region.wanted o (yielded ops a.tmps) = true) →
          ∃ t1 h1 c1, k t1 h1 c1 df = .fin v' h' c' ∧ ∀ w0 ρ a w r n Q K, HR X P w0 ρ hh c w → TR ρ nt t a.tmps →
            (∀ ρ' a' w', Le ρ ρ' → HR X P w0 ρ' h1 c1 w' → TR ρ' nt t1 a'.tmps → Kp hh h1 c → c ≤ c1 → a'.defers = a.defers → K a' w') →
            if Region.wanted o (yielded ops a.tmps) = true then o.wpIn (Fr r) n P a w K Q else K (a.put o.dst undef) w := by
        intro e2 hw
        obtain ⟨t1, h1, c1, e1, hw2⟩ := cOp_ok hf cal hcal t hh c df k v' h' c' e2
        refine ⟨t1, h1, c1, e1, fun w0 ρ a w r n Q K hR hT hK => ?_⟩
        rw [if_pos (hw hT)]
        exact hw2 w0 ρ a w r n Q K hR hT hK
      rcases asW_fin e with ⟨b, e1, e2⟩ | ⟨e1, e2⟩
      · cases b <;> cases want
        · exact go e2 fun hT => by rw [(hwant hT).1 _ e1]; rfl
        · exact skip e2 fun hT => by rw [(hwant hT).1 _ e1]; rfl
        · exact skip e2 fun hT => by rw [(hwant hT).1 _ e1]; rfl
        · exact go e2 fun hT => by rw [(hwant hT).1 _ e1]; rfl
      · exact skip e2 fun hT => (hwant hT).2 e1
    · cases h; intro cal _ t hh c df k v' h' c' e; exact (by cases e)
theorem cReg_ok : ∀ (l : List Oper) (i : Nat) (f : OC), ops.toList.drop i = l → cReg P (types P) nt ops l = .mk f → RSnd X P nt ops f (List.range' i l.length)
  | [], i, f, hl, h => by
    cases h
    intro cal _ t hh c df k v' h' c' e
    exact ⟨t, hh, c, e, fun w0 ρ a w r n Q hR hT hK => hK ρ a w (Le.refl _) hR hT (Kp.refl _ _) (Nat.le_refl _) rfl⟩
  | o :: l, i, f, hl, h => by
    unfold cReg at h
    rcases bx_cases h with ⟨f1, h1, h⟩ | rfl
    case inr => intro cal _ t hh c df k v' h' c' e; exact (by cases e)
    rcases bx_cases h with ⟨f2, h2, h⟩ | rfl
    case inr => intro cal _ t hh c df k v' h' c' e; exact (by cases e)
    cases h
    have hlt : i < ops.toList.length := by
      have := congrArg List.length hl; simp only [List.length_drop, List.length_cons] at this; omega
    have hget : ops[i]? = some o := by
      have e := congrArg (·[0]?) hl
      simpa [List.getElem?_drop] using e
    have hnext : ops.toList.drop (i + 1) = l := by
      have := congrArg List.tail hl
      simpa [List.tail_drop] using this
    have ih := cReg_ok l (i + 1) f2 hnext h2
    intro cal hcal t hh c df k v' h' c' e
    obtain ⟨t1, hh1, c1, e1, w1⟩ := cGO_ok h1 cal hcal t hh c df (fun t h c df => f2 cal t h c df k) v' h' c' e
    obtain ⟨t2, hh2, c2, e2, w2⟩ := ih cal hcal t1 hh1 c1 df k v' h' c' e1
    refine ⟨t2, hh2, c2, e2, fun w0 ρ a w r n Q hR hT hK => ?_⟩
    have := w1 w0 ρ a w r n Q (wpOpsIn (Fr r) n P ops Q (List.range' (i + 1) l.length)) hR hT fun ρ' a' w' l1 r1 r2 r3 r4 r5 =>
      w2 w0 ρ' a' w' r n Q r1 r2 fun ρ2 a2 w2' l2 q1 q2 q3 q4 q5 => hK ρ2 a2 w2' (l1.trans l2) q1 q2 (r3.trans q3 r4) (Nat.le_trans r4 q4) (q5.trans r5)
    simp only [List.length_cons, List.range'_succ, wpOpsIn, hget]
    split
    · rename_i hw; rw [if_pos hw] at this; exact this
    · rename_i hw; rw [if_neg hw] at this; exact ⟨fun _ _ => trivial, this⟩
end
end Ev
end
section
namespace Ev
open Go Go.RowKit
set_option linter.unusedVariables false
set_option linter.unusedSimpArgs false
/-- the marks of a frame -/
def DF (ρ : Rho) : List Nat → List Deferred → Prop
  | [], [] => True
  | k :: l, d :: ds => (∃ p, ρ k = some p ∧ d.target = .collected p.1) ∧ DF ρ l ds
  | _, _ => False
def DOK (ρ : Rho) (h : HP) (c : Nat) (df : List Nat) (ds : List Deferred) : Prop := DF ρ df ds ∧ df.Nodup ∧ ∀ k ∈ df, k < c ∧ hget h k = .df
theorem DF.mono {ρ ρ' : Rho} (hl : Le ρ ρ') : ∀ {l : List Nat} {ds : List Deferred}, DF ρ l ds → DF ρ' l ds
  | [], [], _ => trivial
  | k :: l, d :: ds, ⟨⟨p, h1, h2⟩, h3⟩ => ⟨⟨p, hl _ _ h1, h2⟩, DF.mono hl h3⟩
theorem DOK.mono {ρ ρ' : Rho} {h h1 : HP} {c c1 : Nat} {df : List Nat} {ds : List Deferred} (H : DOK ρ h c df ds) (hl : Le ρ ρ') (hk : Kp h h1 c) (hc : c ≤ c1) : DOK ρ' h1 c1 df ds :=
  ⟨H.1.mono hl, H.2.1, fun k hk' => ⟨Nat.lt_of_lt_of_le (H.2.2 k hk').1 hc, hk k (H.2.2 k hk').1 (H.2.2 k hk').2⟩⟩
def exO : Ex → Exit | .nx => .normal | .ex i => .exit i | .rt => .ret
def kx (kn : K) (ke : KE) : Ex → K | .nx => kn | e => ke e
section
variable (X : Spx) (P : Program)
/-- where code has come to -/
structure At (w0 : Base) (ρ : Rho) (nt : Nat) (h : HP) (cc : Nat) (df : List Nat) (ρ' : Rho) (t1 : TM) (h1 : HP) (c1 : Nat) (df1 : List Nat) (a : Act) (w : World) : Prop where
  le : Le ρ ρ'
  hr : HR X P w0 ρ' h1 c1 w
  tr : TR ρ' nt t1 a.tmps
  dk : DOK ρ' h1 c1 df1 a.defers
  kp : Kp h h1 cc
  cl : cc ≤ c1
  nw : ∀ k ∈ df1, k ∈ df ∨ cc ≤ k
/-- the code of a closure -/
def CSnd (nt : Nat) (one : Bool) (F : CC) (c : Code) : Prop := ∀ cal, CalOK X P cal → ∀ t h cc df kn ke v' h' c', F cal t h cc df kn ke = .fin v' h' c' →
  ∃ e t1 h1 c1 df1, kx kn ke e t1 h1 c1 df1 = .fin v' h' c' ∧ ∀ w0 ρ a w r n Q, (one = true → r = none) → HR X P w0 ρ h cc w → TR ρ nt t a.tmps → DOK ρ h cc df a.defers →
    (∀ ρ' a' w', At X P w0 ρ nt h cc df ρ' t1 h1 c1 df1 a' w' → Q (exO e) a' w') → c.wpIn (Fr r) n P Q a w
end
section
variable {X : Spx} {P : Program} {nt : Nat} {one : Bool}
theorem At.refl {w0 : Base} {ρ : Rho} {t : TM} {h : HP} {cc : Nat} {df : List Nat} {a : Act} {w : World} (hR : HR X P w0 ρ h cc w) (hT : TR ρ nt t a.tmps) (hD : DOK ρ h cc df a.defers) : At X P w0 ρ nt h cc df ρ t h cc df a w :=
  ⟨Le.refl _, hR, hT, hD, Kp.refl _ _, Nat.le_refl _, fun k hk => .inl hk⟩
theorem At.trans {w0 : Base} {ρ ρ1 ρ2 : Rho} {t1 t2 : TM} {h h1 h2 : HP} {cc c1 c2 : Nat} {df df1 df2 : List Nat} {a1 a2 : Act} {w1 w2 : World}
    (A : At X P w0 ρ nt h cc df ρ1 t1 h1 c1 df1 a1 w1) (B : At X P w0 ρ1 nt h1 c1 df1 ρ2 t2 h2 c2 df2 a2 w2) : At X P w0 ρ nt h cc df ρ2 t2 h2 c2 df2 a2 w2 :=
  ⟨A.le.trans B.le, B.hr, B.tr, B.dk, A.kp.trans B.kp A.cl, Nat.le_trans A.cl B.cl, fun k hk => by
    rcases B.nw k hk with h | h
    · exact A.nw k h
    · exact .inr (Nat.le_trans A.cl h)⟩
theorem csnd_bad {n : Nat} {c : Code} : CSnd X P nt one (badC n) c := fun cal _ t h cc df kn ke v' h' c' e => (by cases e)
theorem csnd_skip : CSnd X P nt one skC .skip := fun cal _ t h cc df kn ke v' h' c' e =>
  ⟨.nx, t, h, cc, df, e, fun w0 ρ a w r n Q _ hR hT hD hK => wpIn_skip (hK ρ a w (At.refl hR hT hD))⟩
theorem csnd_ret : CSnd X P nt one rtC .ret := fun cal _ t h cc df kn ke v' h' c' e =>
  ⟨.rt, t, h, cc, df, e, fun w0 ρ a w r n Q _ hR hT hD hK => wpIn_ret (hK ρ a w (At.refl hR hT hD))⟩
theorem csnd_exit {i : Nat} : CSnd X P nt one (exC i) (.exit i) := fun cal _ t h cc df kn ke v' h' c' e =>
  ⟨.ex i, t, h, cc, df, e, fun w0 ρ a w r n Q _ hR hT hD hK => wpIn_exit (hK ρ a w (At.refl hR hT hD))⟩
theorem csnd_region {id : Nat} {ops : Array Oper} {f : OC} (h : RSnd X P nt ops f (List.range ops.size)) : CSnd X P nt one (rgC f) (.region id ops false) := by
  intro cal hcal t hh cc df kn ke v' h' c' e
  obtain ⟨t1, h1, c1, e1, hw⟩ := h cal hcal t hh cc df kn v' h' c' e
  refine ⟨.nx, t1, h1, c1, df, e1, fun w0 ρ a w r n Q _ hR hT hD hK => wpIn_region (hw w0 ρ a w r n Q hR hT fun ρ' a' w' l1 r1 r2 r3 r4 r5 => ?_)⟩
  exact hK ρ' a' w' ⟨l1, r1, r2, by rw [r5]; exact hD.mono l1 r3 r4, r3, r4, fun k hk => .inl hk⟩
theorem csnd_seq {f g : CC} {x y : Code} (hf : CSnd X P nt one f x) (hg : CSnd X P nt one g y) : CSnd X P nt one (sqC f g) (.seq x y) := by
  intro cal hcal t hh cc df kn ke v' h' c' e
  obtain ⟨e1, t1, h1, c1, df1, k1, w1⟩ := hf cal hcal t hh cc df (fun t h c df => g cal t h c df kn ke) ke v' h' c' e
  cases e1 with
  | nx =>
    obtain ⟨e2, t2, h2, c2, df2, k2, w2⟩ := hg cal hcal t1 h1 c1 df1 kn ke v' h' c' k1
    exact ⟨e2, t2, h2, c2, df2, k2, fun w0 ρ a w r n Q ho hR hT hD hK => wpIn_seq (w1 w0 ρ a w r n _ ho hR hT hD fun ρ' a' w' A => w2 w0 ρ' a' w' r n Q ho A.hr A.tr A.dk fun ρ2 a2 w2' B => hK ρ2 a2 w2' (A.trans B))⟩
  | ex i => exact ⟨.ex i, t1, h1, c1, df1, k1, fun w0 ρ a w r n Q ho hR hT hD hK => wpIn_seq (w1 w0 ρ a w r n _ ho hR hT hD hK)⟩
  | rt => exact ⟨.rt, t1, h1, c1, df1, k1, fun w0 ρ a w r n Q ho hR hT hD hK => wpIn_seq (w1 w0 ρ a w r n _ ho hR hT hD hK)⟩
theorem csnd_cond {c : Operand} {o : OP} {f g : CC} {x y : Code} (hc : cOpd nt c = .mk o) (hf : CSnd X P nt one f x) (hg : CSnd X P nt one g y) : CSnd X P nt one (cdC o f g) (.cond c x y) := by
  intro cal hcal t hh cc df kn ke v' h' c' e
  obtain ⟨b, e1, e2⟩ := asB_fin e
  cases b with
  | true =>
    obtain ⟨e3, t1, h1, c1, df1, k1, w1⟩ := hf cal hcal t hh cc df kn ke v' h' c' e2
    exact ⟨e3, t1, h1, c1, df1, k1, fun w0 ρ a w r n Q ho hR hT hD hK => wpIn_cond_true (bool_den e1 (opd_den hc hT)) (w1 w0 ρ a w r n Q ho hR hT hD hK)⟩
  | false =>
    obtain ⟨e3, t1, h1, c1, df1, k1, w1⟩ := hg cal hcal t hh cc df kn ke v' h' c' e2
    exact ⟨e3, t1, h1, c1, df1, k1, fun w0 ρ a w r n Q ho hR hT hD hK => wpIn_cond_false (bool_den e1 (opd_den hc hT)) (w1 w0 ρ a w r n Q ho hR hT hD hK)⟩
theorem csnd_block {i : Nat} {f : CC} {x : Code} (hf : CSnd X P nt one f x) : CSnd X P nt one (bkC i f) (.block i x) := by
  intro cal hcal t hh cc df kn ke v' h' c' e
  obtain ⟨e1, t1, h1, c1, df1, k1, w1⟩ := hf cal hcal t hh cc df kn (fun e t h c df => exI i e (kn t h c df) (ke e t h c df)) v' h' c' e
  cases e1 with
  | nx => exact ⟨.nx, t1, h1, c1, df1, k1, fun w0 ρ a w r n Q ho hR hT hD hK => wpIn_block (w1 w0 ρ a w r n _ ho hR hT hD hK)⟩
  | rt => exact ⟨.rt, t1, h1, c1, df1, k1, fun w0 ρ a w r n Q ho hR hT hD hK => wpIn_block (w1 w0 ρ a w r n _ ho hR hT hD hK)⟩
  | ex j =>
    have k2 : ifT (Nat.beq j i) (kn t1 h1 c1 df1) (ke (.ex j) t1 h1 c1 df1) = .fin v' h' c' := k1
    cases hb : Nat.beq j i with
    | true =>
      rw [hb, ifT_true rfl] at k2
      refine ⟨.nx, t1, h1, c1, df1, k2, fun w0 ρ a w r n Q ho hR hT hD hK => wpIn_block (w1 w0 ρ a w r n _ ho hR hT hD fun ρ' a' w' A => ?_)⟩
      show if j = i then _ else _
      rw [if_pos (Nat.eq_of_beq_eq_true hb)]
      exact hK ρ' a' w' A
    | false =>
      rw [hb, ifT_false rfl] at k2
      refine ⟨.ex j, t1, h1, c1, df1, k2, fun w0 ρ a w r n Q ho hR hT hD hK => wpIn_block (w1 w0 ρ a w r n _ ho hR hT hD fun ρ' a' w' A => ?_)⟩
      show if j = i then _ else _
      rw [if_neg (Nat.ne_of_beq_eq_false hb)]
      exact hK ρ' a' w' A
/-- a loop at its body -/
def LoopAt (F : Fence) (n : Nat) (P : Program) (c : Code) (Q : Exit → Act → World → Prop) (a : Act) (w : World) : Prop :=
  ∀ (b : Frame) (k : List Item) (cs : List Frame), b.roundOf = F.round → F.fn b.fn → F.room (cs.length + 1 + n) →
    ∃ e a' w', Q e a' w' ∧ ArrivesIn (Machine.fenced P F) P (lone (b.atR a (.code c :: .inLoop c :: k)) cs w) b k cs e a' w'
theorem loopAt_step {F : Fence} {n : Nat} {c : Code} {Q : Exit → Act → World → Prop} {a : Act} {w : World} (h : c.wpIn F n P (Exit.then (LoopAt F n P c Q) Q) a w) : LoopAt F n P c Q a w := by
  intro b k cs hro hb hr
  obtain ⟨e, a₁, w₁, hq, harr⟩ := h b (.inLoop c :: k) cs hro hb hr
  cases e with
  | normal =>
    obtain ⟨e₂, a₂, w₂, hq₂, harr₂⟩ := hq b k cs hro hb hr
    exact ⟨e₂, a₂, w₂, hq₂, .of_steps (StepsIn.trans harr (.one (fenced_calm hb hr rfl) stepR_inLoop)) harr₂⟩
  | exit id => exact ⟨_, a₁, w₁, hq, .pass (x := .inLoop c) rfl (fun _ _ => .inl (by simp)) harr⟩
  | goto l => exact ⟨_, a₁, w₁, hq, .pass (x := .inLoop c) rfl (fun _ _ => .inl (by simp)) harr⟩
  | ret => exact ⟨_, a₁, w₁, hq, .pass (x := .inLoop c) rfl (fun _ _ => .inl (by simp)) harr⟩
  | panic ch => exact ⟨_, a₁, w₁, hq, .pass (x := .inLoop c) rfl (fun _ _ => .inl (by simp)) harr⟩
  | outgrown => exact ⟨_, a₁, w₁, hq, .pass (x := .inLoop c) rfl (fun _ _ => .inl (by simp)) harr⟩
theorem loopAt_loop {F : Fence} {n : Nat} {c : Code} {Q : Exit → Act → World → Prop} {a : Act} {w : World} (h : LoopAt F n P c Q a w) : (Code.loop c).wpIn F n P Q a w := by
  intro b k cs hro hb hr
  obtain ⟨e, a', w', hq, harr⟩ := h b k cs hro hb hr
  exact ⟨e, a', w', hq, .of_steps (.one (fenced_calm hb hr rfl) stepR_loop) harr⟩
theorem csnd_loop {N : Nat} {f : CC} {x : Code} (hf : CSnd X P nt one f x) : CSnd X P nt one (lpC N f) (.loop x) := by
  intro cal hcal t hh cc df kn ke v' h' c' e
  have key : ∀ N t hh cc df, (Nat.rec (motive := fun _ => K) (fun _ _ _ _ => .bad 83) (fun _ ih t h c df => f cal t h c df ih ke) N t hh cc df : R) = .fin v' h' c' →
      ∃ e t1 h1 c1 df1, kx kn ke e t1 h1 c1 df1 = .fin v' h' c' ∧ ∀ w0 ρ a w r n Q, (one = true → r = none) → HR X P w0 ρ hh cc w → TR ρ nt t a.tmps → DOK ρ hh cc df a.defers →
        (∀ ρ' a' w', At X P w0 ρ nt hh cc df ρ' t1 h1 c1 df1 a' w' → Q (exO e) a' w') → LoopAt (Fr r) n P x Q a w := by
    intro N
    induction N with
    | zero => intro t hh cc df e; cases e
    | succ N ih =>
      intro t hh cc df e
      obtain ⟨e1, t1, h1, c1, df1, k1, w1⟩ := hf cal hcal t hh cc df _ ke v' h' c' e
      cases e1 with
      | nx =>
        obtain ⟨e2, t2, h2, c2, df2, k2, w2⟩ := ih t1 h1 c1 df1 k1
        exact ⟨e2, t2, h2, c2, df2, k2, fun w0 ρ a w r n Q ho hR hT hD hK => loopAt_step (w1 w0 ρ a w r n _ ho hR hT hD fun ρ' a' w' A => w2 w0 ρ' a' w' r n Q ho A.hr A.tr A.dk fun ρ2 a2 w2' B => hK ρ2 a2 w2' (A.trans B))⟩
      | ex i => exact ⟨.ex i, t1, h1, c1, df1, k1, fun w0 ρ a w r n Q ho hR hT hD hK => loopAt_step (w1 w0 ρ a w r n _ ho hR hT hD hK)⟩
      | rt => exact ⟨.rt, t1, h1, c1, df1, k1, fun w0 ρ a w r n Q ho hR hT hD hK => loopAt_step (w1 w0 ρ a w r n _ ho hR hT hD hK)⟩
  obtain ⟨e1, t1, h1, c1, df1, k1, w1⟩ := key N t hh cc df e
  exact ⟨e1, t1, h1, c1, df1, k1, fun w0 ρ a w r n Q ho hR hT hD hK => loopAt_loop (w1 w0 ρ a w r n Q ho hR hT hD hK)⟩
end
end Ev
end
section
namespace Ev
open Go Go.RowKit
set_option linter.unusedVariables false
set_option linter.unusedSimpArgs false
section
variable {X : Spx} {P : Program} {nt : Nat} {one : Bool} {w0 : Base} {w : World} {ρ : Rho} {h : HP} {c : Nat}
theorem HR.put (H : HR X P w0 ρ h c w) {a : Nat} {p : Nat × Nat} {b : Blk} {o : Obj} (ha : ρ a = some p) (hx : hget h a ≠ .x) (hsp : ∀ s, hget h a ≠ .sp s) (hs : ∀ s, b ≠ .sp s) (hB : BR X P ρ a (w.putObj p.1 o) b) : HR X P w0 ρ (Ev.hs h a b) c (w.putObj p.1 o) :=
  H.set ha hx hsp hs World.putObj_size rfl rfl rfl (fun k hk => World.putObj_heap_other hk) hB
theorem nK_fin {b : Blk} {k : HP → Nat → R} {v : V} {h' : HP} {c' : Nat} (e : newK b h c k = .fin v h' c') : c ≤ 65535 ∧ k (hs h c b) (c + 1) = .fin v h' c' := by
  obtain ⟨e1, e2⟩ := ifT_fin (show ifT (Nat.ble c (nat_lit 65535)) (hset b h c fun h => fN (Nat.add c (nat_lit 1)) fun x => k h x) (.bad 16) = _ from e)
  rw [hset_eq, fN_eq] at e2
  exact ⟨Nat.le_of_ble_eq_true e1, e2⟩
theorem lpK_fin {a : Nat} {k : Nat → Ex → Nat → TM → R} {v : V} {h' : HP} {c' : Nat} (e : lpK h a k = .fin v h' c') : ∃ st pe g t, hget h a = .lp st pe g t ∧ k st pe g t = .fin v h' c' := by
  unfold lpK at e
  cases hb : hget h a with
  | lp st pe g t => rw [hb] at e; exact ⟨st, pe, g, t, rfl, e⟩
  | _ => rw [hb] at e; cases e
theorem asF_fin {v : V} {q : R} {v' : V} {h' : HP} {c' : Nat} (e : asF v q = .fin v' h' c') : ∃ g x y, v = .f g x y ∧ q = .fin v' h' c' := by
  cases v with
  | f g x y => exact ⟨g, x, y, rfl, e⟩
  | _ => cases e
theorem HR.lp (H : HR X P w0 ρ h c w) {a st g : Nat} {pe : Ex} {t : TM} {p : Nat × Nat} (ha : ρ a = some p) (e : hget h a = .lp st pe g t) :
    ∃ L fn bd, w.heap[p.1]? = some (.loop L) ∧ L.state = stt st ∧ L.pending = pnd pe ∧ P.funcs[g]? = some fn ∧ fn.body = some bd ∧ findR bd = [(L.params, L.assign, L.body)] ∧ TR ρ fn.ntmps t L.tmps := by
  have := H.blk a (H.dom _ _ ha).1; rw [e] at this
  obtain ⟨p', L, fn, bd, h1, h2⟩ := this
  rw [ha] at h1; cases h1
  exact ⟨L, fn, bd, h2⟩
/-- a loop's record is turned -/
theorem HR.lpPut (H : HR X P w0 ρ h c w) {a st st' g : Nat} {pe pe' : Ex} {t : TM} {p : Nat × Nat} {L : Loop} (ha : ρ a = some p) (e : hget h a = .lp st pe g t) (hL : w.heap[p.1]? = some (.loop L)) {s' : LoopState} {q' : Option Code} (h1 : s' = stt st') (h2 : q' = pnd pe') :
    HR X P w0 ρ (hs h a (.lp st' pe' g t)) c (w.putObj p.1 (.loop { L with state := s', pending := q' })) := by
  obtain ⟨L', fn, bd, r1, r2, r3, r4, r5, r6, r7⟩ := H.lp ha e
  rw [hL] at r1; cases r1
  exact H.put ha (by rw [e]; simp) (by rw [e]; simp) (by simp) ⟨p, { L with state := s', pending := q' }, fn, bd, ha, World.putObj_heap_same (H.dom _ _ ha).2.2, h1, h2, r4, r5, r6, r7⟩
theorem csnd_rf {o : Operand} {f : OP} {ps : Array Tmp} {a b : Code} {g : Nat} {fn : Func} {bd : Code} (hf : P.funcs[g]? = some fn) (hb : fn.body = some bd) (hr : findR bd = [(ps, a, b)]) (ho : cOpd fn.ntmps o = .mk f) (hone : one = true) :
    CSnd X P fn.ntmps one (rfC g f) (.rangeFunc o ps a b) := by
  intro cal hcal t h cc df kn ke v' h' c' e
  obtain ⟨e1, e2⟩ := nK_fin e
  obtain ⟨e3, e4⟩ := nK_fin e2
  obtain ⟨gg, xs, ys, e5, e6⟩ := asF_fin e4
  obtain ⟨v, h1, c1, e7, hw⟩ := hcal _ _ _ _ _ _ _ _ e6
  obtain ⟨st, pe, g', t', e8, e9⟩ := lpK_fin e7
  cases hst : Nat.beq st 1 with
  | true => rw [hst] at e9; cases e9
  | false =>
  rw [hst, ifT_false rfl, hset_eq] at e9
  have fin : ∃ e, kx kn ke e t (hs h1 (cc + 1) (.lp 3 pe g' t')) c1 (cc :: df) = .fin v' h' c' ∧ e = pe := by
    cases pe with
    | nx => exact ⟨.nx, e9, rfl⟩
    | ex i => exact ⟨.ex i, e9, rfl⟩
    | rt => exact ⟨.rt, e9, rfl⟩
  obtain ⟨e0, k0, rfl⟩ := fin
  refine ⟨e0, t, _, c1, cc :: df, k0, fun w0 ρ ac w r n Q hro hR hT hD hK => ?_⟩
  have hrn := hro hone
  subst hrn
  refine wpIn_rangeFunc fun fn' _ => ?_
  have hle := hR.le
  -- the two blocks
  have hR1 := hR.new (b := .df) e1 (.deferred (some [])) 0 (by simp) (by simp) ⟨(w.heap.size, 0), up_self _ _ _, World.alloc_heap_new _ _⟩
  have hl1 := hR.le_up (w.heap.size, 0)
  let L : Loop := { state := .ready, pending := none, fn := fn', tmps := ac.tmps, params := ps, assign := a, body := b, defers := w.heap.size }
  have hR2 := hR1.new (b := .lp 0 .nx g t) e3 (.loop L) 0 (by simp) (by simp) ⟨((w.alloc (.deferred (some []))).heap.size, 0), L, fn, bd, up_self _ _ _, World.alloc_heap_new _ _, rfl, rfl, hf, hb, hr, (hT.mono hl1).mono (hR1.le_up _)⟩
  have hl2 := hR1.le_up ((w.alloc (.deferred (some []))).heap.size, 0)
  have hs1 : (w.alloc (.deferred (some []))).heap.size = w.heap.size + 1 := World.size_alloc _ _
  generalize hρ2 : up (up ρ cc (w.heap.size, 0)) (cc + 1) ((w.alloc (.deferred (some []))).heap.size, 0) = ρ2 at hR2 hl2
  have hy : ρ2 (cc + 1) = some (w.heap.size + 1, 0) := by rw [← hρ2, up_self, hs1]
  have hm : ρ2 cc = some (w.heap.size, 0) := hl2 _ _ (up_self _ _ _)
  have hg2 : ∀ k, k < cc + 1 + 1 → hget (hs (hs h cc .df) (cc + 1) (.lp 0 .nx g t)) k = if k = cc + 1 then .lp 0 .nx g t else if k = cc then .df else hget h k := fun k hk => by
    rw [hget_hs _ _ (by omega) (by omega)]
    split
    · rfl
    · rw [hget_hs _ _ (by omega) (by omega)]
  have hv := opd_den ho ((hT.mono hl1).mono hl2)
  have hd := hw w0 ρ2 _ _ [.func (.yield (w.heap.size + 1)) #[] #[]] hR2 hv (by simp [denL, den, hy])
  rw [e5] at hv
  simp only [den, Option.bind_eq_some_iff, Option.map_eq_some_iff] at hv
  obtain ⟨fs, hfs, cs, hcs, hval⟩ := hv
  rcases hd with ⟨f', args, r1, r2⟩ | ⟨⟨i, hi⟩, _⟩
  case inr => rw [e5] at hi; cases hi
  have hval' : ac.eval o = .func (.func gg) fs.toArray cs.toArray := hval.symm
  rw [hval'] at r1
  simp only [Deferred.ofValue, Sem.run_bind, Sem.run_pure, Result.andThen_ok] at r1
  have hres : (resolve ac.eval (rangeCall o (w.heap.size + 1)) 0).run P ((w.alloc (.deferred (some []))).alloc (.loop L)) = .ok ⟨.fn (.func gg) cs.toArray, fs.toArray ++ #[.func (.yield (w.heap.size + 1)) #[] #[]]⟩ ((w.alloc (.deferred (some []))).alloc (.loop L)) := by
    have hm' : Array.map ac.eval #[.const (.func (.yield (w.heap.size + 1)) #[] #[])] = #[.func (.yield (w.heap.size + 1)) #[] #[]] := by simp [Act.eval]
    simp only [resolve, rangeCall, hval', Deferred.ofValue, hm', Sem.run_pure]
  have hent : (Instr.enterLoop fn' ac.tmps ps a b (Fr none).round).run P w = .ok (w.heap.size + 1, [{ target := .collected w.heap.size, args := #[] }]) ((w.alloc (.deferred (some []))).alloc (.loop L)) := run_enterLoop_outer _ _ _ _ _
  have hdep : ((Fr none).depth.isSome = true → 1 ≤ n) := fun hh => by simp [Fr, Fence.wide] at hh
  refine ⟨_, _, _, _, _, f', args, _, hent, hres, fun _ _ => trivial, r1, hdep, ?_⟩
  refine calls_in (r2.mono ?_)
  · rintro e w' ⟨x, rfl, ρ3, l3, q1, q2, q3, q4⟩
    have hy3 := l3 _ _ hy
    have hm3 := l3 _ _ hm
    obtain ⟨L3, fn3, bd3, j1, j2, j3, j4, j5, j6, j7⟩ := q1.lp hy3 e8
    have hbusy : L3.state ≠ .busy := by
      rw [j2]
      match st, hst with
      | 0, _ => simp [stt]
      | 2, _ => simp [stt]
      | n + 3, _ => simp [stt]
    have hR3 := q1.lpPut (st' := 3) (pe' := e0) hy3 e8 j1 (s' := .exhausted) (q' := L3.pending) rfl j3
    have hdf : hget h1 cc = .df := q3 cc (by omega) (by rw [hg2 cc (by omega), if_neg (by omega), if_pos rfl])
    have hc1 := q1.le
    have hdf3 : ∀ k, k < c1 → hget (hs h1 (cc + 1) (.lp 3 e0 g' t')) k = if k = cc + 1 then .lp 3 e0 g' t' else hget h1 k := fun k hk => hget_hs _ _ (by omega) (by omega)
    have hkp : Kp h (hs h1 (cc + 1) (.lp 3 e0 g' t')) cc := fun k hk hh => by
      rw [hdf3 k (by omega), if_neg (by omega)]
      exact q3 k (by omega) (by rw [hg2 k (by omega), if_neg (by omega), if_neg (by omega)]; exact hh)
    have hA : At X P w0 ρ fn.ntmps h cc df ρ3 t (hs h1 (cc + 1) (.lp 3 e0 g' t')) c1 (cc :: df) { ac with defers := [{ target := .collected w.heap.size, args := #[] }] ++ ac.defers } (w'.putObj (w.heap.size + 1) (.loop { L3 with state := .exhausted, pending := L3.pending })) := by
      have hle3 : Le ρ ρ3 := (hl1.trans hl2).trans l3
      refine ⟨hle3, hR3, hT.mono hle3, ⟨⟨⟨_, hm3, rfl⟩, (hD.mono hle3 hkp (by omega)).1⟩, List.nodup_cons.2 ⟨fun hin => absurd (hD.2.2 _ hin).1 (by omega), hD.2.1⟩, fun k hk => ?_⟩, hkp, by omega, fun k hk => ?_⟩
      · rcases List.mem_cons.1 hk with rfl | hk
        · exact ⟨by omega, by rw [hdf3 _ (by omega), if_neg (by omega)]; exact hdf⟩
        · exact (hD.mono hle3 hkp (by omega)).2.2 k hk
      · rcases List.mem_cons.1 hk with rfl | hk
        · exact .inr (Nat.le_refl _)
        · exact .inl hk
    refine ⟨_, _, run_endLoop j1 hbusy, ?_⟩
    rw [j3] at hA ⊢
    cases e0 with
    | nx => exact hK _ _ _ hA
    | ex i => exact wpIn_exit (hK _ _ _ hA)
    | rt => exact wpIn_ret (hK _ _ _ hA)
end
end Ev
end
