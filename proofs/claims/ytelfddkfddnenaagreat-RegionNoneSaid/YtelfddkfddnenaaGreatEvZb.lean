/- rounds; the machine's calls; the top. -/
import Derived.Test.YtelfddkfddnenaaGreatEvZa
namespace Ev
open Go Go.RowKit
set_option linter.unusedVariables false
set_option linter.unusedSimpArgs false
section
variable {X : Spx} {P : Program}
theorem psT_ok {nt : Nat} : ∀ {l : List Nat} {ds : List DS} {vs : List V} {t : TM} {k : TM → R} {v' : V} {h' : HP} {c' : Nat}, cDs nt l = .mk ds → psT ds vs t k = .fin v' h' c' → ∃ t1, k t1 = .fin v' h' c' ∧ vs.length = l.length ∧
    ∀ ρ m xs, denL ρ vs = some xs → TR ρ nt t m → TR ρ nt t1 ((l.zip xs).foldl (fun m (p : Nat × Value) => m.setIfInBounds p.1 p.2) m)
  | [], ds, vs, t, k, v', h', c', hd, e => by
    cases hd
    cases vs with
    | nil => exact ⟨t, e, rfl, fun ρ m xs _ hT => by simpa using hT⟩
    | cons v vs => cases e
  | s :: l, ds, vs, t, k, v', h', c', hd, e => by
    unfold cDs at hd
    split at hd
    · rename_i d ds' h1 h2
      cases hd
      cases vs with
      | nil => cases e
      | cons v vs =>
        obtain ⟨t0, ht0, e0⟩ := dst_eq h1 v t fun t => psT ds' vs t k
        have e1 : d v t (fun t => psT ds' vs t k) = .fin v' h' c' := e
        rw [e0] at e1
        obtain ⟨t1, e2, hl, w1⟩ := psT_ok h2 e1
        refine ⟨t1, e2, by simp [hl], fun ρ m xs hx hT => ?_⟩
        obtain ⟨x, xs', rfl, d1, d2⟩ := denL_cons.1 hx
        have := (dst_ok (a := ⟨m, []⟩) h1 ht0 hT d1).1
        simp only [List.zip_cons_cons, List.foldl_cons]
        exact w1 ρ _ xs' d2 this
    · cases hd
theorem rlK_fin {f : CF} {k : List DS → CC → CC → R} {v' : V} {h' : HP} {c' : Nat} (e : rlK f k = .fin v' h' c') : ∃ rs b ps x y, f = .fn rs b (.mk ps x y) ∧ k ps x y = .fin v' h' c' := by
  cases f with
  | no => cases e
  | jn => cases e
  | kn v => cases e
  | fn rs b r =>
    cases r with
    | no => cases e
    | mk ps x y => exact ⟨rs, b, ps, x, y, rfl, e⟩
theorem cRL_mk {g nt : Nat} {c : Code} {ps : List DS} {x y : CC} (h : RL.mk ps x y = cRL P (types P) g nt c) : ∃ p a b, findR c = [(p, a, b)] ∧ cDs nt p.toList = .mk ps ∧ cC P (types P) false g nt a = .mk x ∧ cC P (types P) false g nt b = .mk y := by
  unfold cRL at h
  split at h
  · rename_i p a b hr
    split at h
    · rename_i h1 h2 h3
      cases h
      exact ⟨p, a, b, hr, h1, h2, h3⟩
    · cases h
  · cases h
theorem nilK_fin {l : List Nat} {k : R} {v' : V} {h' : HP} {c' : Nat} (e : nilK l k = .fin v' h' c') : l = [] ∧ k = .fin v' h' c' := by
  cases l with
  | nil => exact ⟨rfl, e⟩
  | cons a l => cases e
theorem DF_nil {ρ : Rho} {ds : List Deferred} (h : DF ρ [] ds) : ds = [] := by cases ds with | nil => rfl | cons d ds => exact h.elim
/-- one round -/
theorem yield_ok (hD : DrawnOK X P) {ft : T CF} (hft : FTok P ft) {cal : CAL} (hcal : CalOK X P cal) {l : Nat} {vs : List V} {h : HP} {c : Nat} {k : KV} {v' : V} {h' : HP} {c' : Nat} (e : yieldE ft cal l vs h c k = .fin v' h' c') :
    ∃ v h1 c1, k v h1 c1 = .fin v' h' c' ∧ ∀ w0 ρ w p lv, HR X P w0 ρ h c w → ρ l = some p → denL ρ vs = some lv → ∃ f tmps a b, (Instr.yield p.1 lv.toArray).run P w = .ok (.round p.1 f tmps a b) w ∧
      RoundIn Fence.wide 0 P p.1 f tmps a b w fun e w' => ∃ x, e = .returned x ∧ ∃ ρ', Le ρ ρ' ∧ HR X P w0 ρ' h1 c1 w' ∧ den ρ' v = some x ∧ Kp h h1 c ∧ c ≤ c1 := by
  obtain ⟨st, pe, g, t, hg, e1⟩ := lpK_fin e
  obtain ⟨rs, bb, ps, x, y, hT, e2⟩ := rlK_fin e1
  obtain ⟨fn, hfn, hcF⟩ := (hft g).1 _ _ _ hT
  obtain ⟨bd, hbd, _, _, _, hr⟩ := cF_fn hcF
  obtain ⟨p0, a0, b0, hfr, hps, hx, hy⟩ := cRL_mk hr
  obtain ⟨t1, e3, hlen, w1⟩ := psT_ok hps e2
  have sx : CSnd X P fn.ntmps false x a0 := cC_ok (fn := fn) (bd := bd) hD (fun hh => by cases hh) a0 x hx (fun hh => by cases hh)
  have sy : CSnd X P fn.ntmps false y b0 := cC_ok (fn := fn) (bd := bd) hD (fun hh => by cases hh) b0 y hy (fun hh => by cases hh)
  obtain ⟨ex, t2, h2, c2, df2, e4, w2⟩ := sx cal hcal t1 h c [] _ _ v' h' c' e3
  cases ex with
  | ex i => cases e4
  | rt => cases e4
  | nx =>
  have e4' : nilK df2 (lpK h2 l fun st pe g t' => ifT (Nat.beq st 0) (hset (.lp 1 pe g t') h2 l fun h => y cal t2 h c2 [] (fun _ h c df => rndE .nx l h c df k) fun e _ h c df => rndE e l h c df k) (.bad 90)) = .fin v' h' c' := e4
  obtain ⟨rfl, e5⟩ := nilK_fin e4'
  obtain ⟨st2, pe2, g2, t2', hg2, e6⟩ := lpK_fin e5
  obtain ⟨e7, e8⟩ := ifT_fin e6
  rw [hset_eq] at e8
  have hst2 : st2 = 0 := Nat.eq_of_beq_eq_true e7
  subst hst2
  obtain ⟨ey, t3, h3, c3, df3, e9, w3⟩ := sy cal hcal t2 _ c2 [] _ _ v' h' c' e8
  have e10 : rndE ey l h3 c3 df3 k = .fin v' h' c' := by cases ey <;> exact e9
  obtain ⟨rfl, e11⟩ := nilK_fin e10
  obtain ⟨st3, pe3, g3, t3', hg3, e12⟩ := lpK_fin e11
  -- how the round ends
  have fin : ∃ st4 pe4 bo, k (.b bo) (hs h3 l (.lp st4 pe4 g3 t3')) c3 = .fin v' h' c' ∧ stt st4 = (if (pnd ey).isNone then LoopState.ready else .done) ∧ pnd pe4 = pnd ey ∧ bo = (pnd ey).isNone := by
    cases ey with
    | nx => rw [hset_eq] at e12; exact ⟨0, .nx, true, e12, rfl, rfl, rfl⟩
    | ex i =>
      have e12' : hset (.lp 2 (.ex i) g3 t3') h3 l (fun h => k (.b false) h c3) = .fin v' h' c' := e12
      rw [hset_eq] at e12'; exact ⟨2, .ex i, false, e12', rfl, rfl, rfl⟩
    | rt =>
      have e12' : hset (.lp 2 .rt g3 t3') h3 l (fun h => k (.b false) h c3) = .fin v' h' c' := e12
      rw [hset_eq] at e12'; exact ⟨2, .rt, false, e12', rfl, rfl, rfl⟩
  obtain ⟨st4, pe4, bo, e13, hst4, hpe4, rfl⟩ := fin
  refine ⟨.b (pnd ey).isNone, _, c3, e13, fun w0 ρ w p lv hR hp hl => ?_⟩
  obtain ⟨L, fn', bd', j1, j2, j3, j4, j5, j6, j7⟩ := hR.lp hp hg
  rw [hfn] at j4; cases j4
  rw [hbd] at j5; cases j5
  rw [hfr] at j6
  simp only [List.cons.injEq, Prod.mk.injEq, and_true] at j6
  obtain ⟨q1, q2, q3⟩ := j6
  subst q1; subst q2; subst q3
  have hsz : lv.toArray.size = L.params.size := by
    have := denL_length hl
    simp only [List.size_toArray, this, hlen, Array.length_toList]
  have hyield := run_yield (P := P) j1 hsz
  have htr : TR ρ fn.ntmps t1 ((L.params.zip lv.toArray).foldl (fun tmps (x : Nat × Value) => tmps.setIfInBounds x.1 x.2) L.tmps) := by
    have := w1 ρ L.tmps lv hl j7
    rw [← Array.foldl_toList, Array.toList_zip]
    exact this
  refine ⟨L.fn, _, L.assign, L.body, hyield, roundIn_of_wpIn trivial ?_⟩
  refine w2 w0 ρ _ w (some p.1) 0 _ (fun hh => by cases hh) hR htr ⟨trivial, List.nodup_nil, fun k hk => (by cases hk)⟩ fun ρ2 a2 w2' A => ?_
  have hp2 := A.le _ _ hp
  obtain ⟨L2, fn2, bd2, i1, i2, i3, i4, i5, i6, i7⟩ := A.hr.lp hp2 hg2
  have hR3 := A.hr.lpPut (st' := 1) (pe' := pe2) hp2 hg2 i1 (s' := .busy) (q' := L2.pending) rfl i3
  refine ⟨_, run_beginRound i1 i2, ?_⟩
  have hd2 := DF_nil A.dk.1
  refine w3 w0 ρ2 a2 _ (some p.1) 0 _ (fun hh => by cases hh) hR3 A.tr ⟨by rw [hd2]; trivial, List.nodup_nil, fun k hk => (by cases hk)⟩ fun ρ3 a3 w3' B => ?_
  have hp3 := B.le _ _ hp2
  obtain ⟨L3, fn3, bd3, m1, m2, m3, m4, m5, m6, m7⟩ := B.hr.lp hp3 hg3
  have hR4 := B.hr.lpPut (st' := st4) (pe' := pe4) hp3 hg3 m1 (s' := if (pnd ey).isNone then LoopState.ready else .done) (q' := pnd ey) hst4.symm hpe4.symm
  have hend := run_endRound (P := P) (pnd ey) m1
  have hlc : l < c := (hR.dom _ _ hp).1
  have hc3 := B.hr.le
  have hc2 := A.hr.le
  have hc23 := B.cl
  have hc12 := A.cl
  have hkp : Kp h (hs h3 l (.lp st4 pe4 g3 t3')) c := fun j hj hdf => by
    have s1 := A.kp j hj hdf
    have hjl : j ≠ l := fun hh => by subst hh; rw [hg] at hdf; cases hdf
    have s2 := B.kp j (by omega) (by rw [hget_hs _ _ (by omega) (by omega), if_neg hjl]; exact s1)
    rw [hget_hs _ _ (by omega) (by omega), if_neg hjl]
    exact s2
  have hres : ∃ x, Ending.returned (.bool (pnd ey).isNone) = Ending.returned x ∧ ∃ ρ', Le ρ ρ' ∧ HR X P w0 ρ' (hs h3 l (.lp st4 pe4 g3 t3')) c3 (w3'.putObj p.1 (.loop { L3 with state := if (pnd ey).isNone then .ready else .done, pending := pnd ey })) ∧ den ρ' (.b (pnd ey).isNone) = some x ∧ Kp h (hs h3 l (.lp st4 pe4 g3 t3')) c ∧ c ≤ c3 :=
    ⟨_, rfl, ρ3, A.le.trans B.le, hR4, by simp [den], hkp, by omega⟩
  cases ey with
  | nx => exact ⟨_, _, hend, hres⟩
  | ex i => exact ⟨_, _, hend, hres⟩
  | rt => exact ⟨_, _, hend, hres⟩
end
end Ev
