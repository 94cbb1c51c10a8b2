/- What is asked of an operation; the plain ones. -/
import Derived.Test.YtelfddkfddnenaaGreatEvH
namespace Ev
open Go Go.RowKit
set_option linter.unusedVariables false
set_option linter.unusedSimpArgs false
def Fr (r : Option Nat) : Fence := { Fence.wide with round := r }
def Kp (h h1 : HP) (c : Nat) : Prop := ∀ k, k < c → hget h k = .df → hget h1 k = .df
theorem Kp.refl (h : HP) (c : Nat) : Kp h h c := fun _ _ e => e
theorem Kp.trans {h h1 h2 : HP} {c c1 : Nat} (a : Kp h h1 c) (b : Kp h1 h2 c1) (e : c ≤ c1) : Kp h h2 c := fun k hk x => b k (by omega) (a k hk x)
theorem Kp.hs {h : HP} {c a : Nat} {b : Blk} (hc : c ≤ 65536) (ha : a < 65536) (hd : a < c → hget h a ≠ .df) : Kp h (hs h a b) c := fun k hk e => by
  rw [hget_hs b h ha (by omega)]
  split
  · rename_i h1; subst h1; exact absurd e (hd hk)
  · exact e
/-- a call of a function's value -/
def CallV (P : Program) (q : Prop) (g : Value) (l : List Value) (w : World) (R : Value → World → Prop) : Prop :=
  (∃ f args, (do let d ← Deferred.ofValue g l.toArray; invoke d.target d.args : Sem Next).run P w = .ok (.enter f args) w ∧ Calls P f args w (fun e w' => ∃ v, e = .returned v ∧ R v w')) ∨
  (q ∧ ∃ i f tmps a b, (do let d ← Deferred.ofValue g l.toArray; invoke d.target d.args : Sem Next).run P w = .ok (.round i f tmps a b) w ∧ RoundIn Fence.wide 0 P i f tmps a b w (fun e w' => ∃ v, e = .returned v ∧ R v w'))
section
variable (X : Spx) (P : Program)
def CalOK (cal : CAL) : Prop := ∀ g l h c k v' h' c', cal g l h c k = .fin v' h' c' → ∃ v h1 c1, k v h1 c1 = .fin v' h' c' ∧
  ∀ w0 ρ w gv lv, HR X P w0 ρ h c w → den ρ g = some gv → denL ρ l = some lv → CallV P (∃ i, g = .y i) gv lv w fun x w' => ∃ ρ', Le ρ ρ' ∧ HR X P w0 ρ' h1 c1 w' ∧ den ρ' v = some x ∧ Kp h h1 c ∧ c ≤ c1
def OSnd (nt : Nat) (f : OC) (o : Oper) : Prop := ∀ cal, CalOK X P cal → ∀ t h c df k v' h' c', f cal t h c df k = .fin v' h' c' →
  ∃ t1 h1 c1, k t1 h1 c1 df = .fin v' h' c' ∧ ∀ w0 ρ a w r n Q K, HR X P w0 ρ h c w → TR ρ nt t a.tmps →
    (∀ ρ' a' w', Le ρ ρ' → HR X P w0 ρ' h1 c1 w' → TR ρ' nt t1 a'.tmps → Kp h h1 c → c ≤ c1 → a'.defers = a.defers → K a' w') → o.wpIn (Fr r) n P a w K Q
end
section
variable {X : Spx} {P : Program} {nt : Nat}
theorem wpIn_value {o : Oper} {a : Act} {w w' : World} {r : Option Nat} {n : Nat} {K : Act → World → Prop} {Q : Exit → Act → World → Prop} {x : Value} (ho : ∀ c, o.op ≠ .defer c)
    (h : (execOp a.eval o).run P w = .ok (.value x) w') (hK : K (a.put o.dst x) w') : o.wpIn (Fr r) n P a w K Q := by
  refine ⟨fun _ _ => trivial, ?_⟩
  rw [Oper.semAt_eq _ _ _ ho, h]
  exact hK
theorem OSnd.mem {f : OC} {o : Oper} {d : DS} (ho : ∀ c, o.op ≠ .defer c) (hd : cDst nt o.dst = .mk d)
    (H : ∀ cal, CalOK X P cal → ∀ t h c df k v' h' c', f cal t h c df k = .fin v' h' c' → ∃ v h1 c1, (d v t fun t => k t h1 c1 df) = .fin v' h' c' ∧
      ∀ w0 ρ (a : Act) w, HR X P w0 ρ h c w → TR ρ nt t a.tmps → ∃ ρ' x w', Le ρ ρ' ∧ HR X P w0 ρ' h1 c1 w' ∧ den ρ' v = some x ∧ Kp h h1 c ∧ c ≤ c1 ∧ (execOp a.eval o).run P w = .ok (.value x) w') : OSnd X P nt f o := by
  intro cal hcal t h c df k v' h' c' e
  obtain ⟨v, h1, c1, e1, hw⟩ := H cal hcal t h c df k v' h' c' e
  obtain ⟨t1, ht1, e2⟩ := dst_eq hd v t fun t => k t h1 c1 df
  rw [e2] at e1
  refine ⟨t1, h1, c1, e1, fun w0 ρ a w r n Q K hR hT hK => ?_⟩
  obtain ⟨ρ', x, w', g1, g2, g3, g4, g5, g6⟩ := hw w0 ρ a w hR hT
  obtain ⟨g7, g8⟩ := dst_ok hd ht1 (hT.mono g1) g3
  exact wpIn_value ho g6 (hK ρ' _ w' g1 g2 g7 g4 g5 g8)
/-- no memory is turned -/
theorem OSnd.val {f : OC} {o : Oper} {d : DS} (ho : ∀ c, o.op ≠ .defer c) (hd : cDst nt o.dst = .mk d)
    (H : ∀ cal t h c df k v' h' c', f cal t h c df k = .fin v' h' c' → ∃ v, (d v t fun t => k t h c df) = .fin v' h' c' ∧
      ∀ w0 ρ (a : Act) w, HR X P w0 ρ h c w → TR ρ nt t a.tmps → ∃ x, den ρ v = some x ∧ (execOp a.eval o).run P w = .ok (.value x) w) : OSnd X P nt f o := by
  refine OSnd.mem ho hd fun cal _ t h c df k v' h' c' e => ?_
  obtain ⟨v, e1, hw⟩ := H cal t h c df k v' h' c' e
  refine ⟨v, h, c, e1, fun w0 ρ a w hR hT => ?_⟩
  obtain ⟨x, g1, g2⟩ := hw w0 ρ a w hR hT
  exact ⟨ρ, x, w, Le.refl _, hR, g1, Kp.refl _ _, Nat.le_refl _, g2⟩
/-- an operation that yields, and turns no memory -/
def VSnd (X : Spx) (P : Program) (nt : Nat) (d : DS) (f : OC) (o : Oper) : Prop := (∀ c, o.op ≠ .defer c) ∧ cDst nt o.dst = .mk d ∧ ∀ cal t h c df k v' h' c', f cal t h c df k = .fin v' h' c' → ∃ v, (d v t fun t => k t h c df) = .fin v' h' c' ∧
  ∀ w0 ρ (a : Act) w, HR X P w0 ρ h c w → TR ρ nt t a.tmps → ∃ x, den ρ v = some x ∧ (execOp a.eval o).run P w = .ok (.value x) w
theorem VSnd.of {f : OC} {o : Oper} {d : DS} (ho : ∀ c, o.op ≠ .defer c) (hd : cDst nt o.dst = .mk d)
    (H : ∀ cal t h c df k v' h' c', f cal t h c df k = .fin v' h' c' → ∃ v, (d v t fun t => k t h c df) = .fin v' h' c' ∧
      ∀ w0 ρ (a : Act) w, HR X P w0 ρ h c w → TR ρ nt t a.tmps → ∃ x, den ρ v = some x ∧ (execOp a.eval o).run P w = .ok (.value x) w) : VSnd X P nt d f o := ⟨ho, hd, H⟩
theorem VSnd.o {f : OC} {o : Oper} {d : DS} (h : VSnd X P nt d f o) : OSnd X P nt f o := OSnd.val h.1 h.2.1 h.2.2
section
variable {o : Oper} {d : DS}
theorem snd_mv {x : Operand} {y : OP} (hop : o.op = .move x ∨ o.op = .assign x) (hd : cDst nt o.dst = .mk d) (hy : cOpd nt x = .mk y) : VSnd X P nt d (fMv d y) o := by
  refine VSnd.of (by rcases hop with h | h <;> rw [h] <;> simp) hd fun cal t h c df k v' h' c' e => ⟨_, e, fun w0 ρ a w hR hT => ⟨_, opd_den hy hT, ?_⟩⟩
  rcases hop with h | h <;> simp [execOp, h]
theorem bool_den {ρ : Rho} {v : V} {b : Bool} {x : Value} (e : v = .b b) (h : den ρ v = some x) : x = .bool b := by subst e; simpa [den] using h.symm
theorem snd_pick {c a b : Operand} {y1 y2 y3 : OP} (hop : o.op = .pick c a b) (hd : cDst nt o.dst = .mk d) (h1 : cOpd nt c = .mk y1) (h2 : cOpd nt a = .mk y2) (h3 : cOpd nt b = .mk y3) : VSnd X P nt d (fPick d y1 y2 y3) o := by
  refine VSnd.of (by rw [hop]; simp) hd fun cal t h c df k v' h' c' e => ?_
  obtain ⟨q, e1, e2⟩ := asB_fin e
  refine ⟨_, e2, fun w0 ρ a w hR hT => ?_⟩
  have d1 := bool_den e1 (opd_den h1 hT)
  cases q
  · exact ⟨_, opd_den h3 hT, by simp [execOp, hop, d1, asBool]⟩
  · exact ⟨_, opd_den h2 hT, by simp [execOp, hop, d1, asBool]⟩
theorem snd_no {x : Operand} {T : TypeId} {y : OP} (hop : o.op = .unOp .not T x) (hd : cDst nt o.dst = .mk d) (h1 : cOpd nt x = .mk y) : VSnd X P nt d (fNo d y) o := by
  refine VSnd.of (by rw [hop]; simp) hd fun cal t h c df k v' h' c' e => ?_
  obtain ⟨q, e1, e2⟩ := asB_fin e
  refine ⟨.b (!q), by cases q <;> exact e2, fun w0 ρ a w hR hT => ?_⟩
  have d1 := bool_den e1 (opd_den h1 hT)
  exact ⟨.bool !q, by simp [den], by simp [execOp, hop, d1, Op.unary]⟩
theorem ptr_den {ρ : Rho} {v : V} {b r : Nat} {x : Value} (e : v = .p b r) (h : den ρ v = some x) : ∃ p, ρ b = some p ∧ x = .pointer (some ⟨p.1, r, none⟩) := by
  subst e; simp only [den, Option.map_eq_some_iff] at h; obtain ⟨p, h1, h2⟩ := h; exact ⟨p, h1, h2.symm⟩
theorem snd_nck {x : Operand} {y : OP} (hop : o.op = .nilCheck x) (hd : cDst nt o.dst = .mk d) (h1 : cOpd nt x = .mk y) : VSnd X P nt d (fNck d y) o := by
  refine VSnd.of (by rw [hop]; simp) hd fun cal t h c df k v' h' c' e => ?_
  obtain ⟨b, r, e1, e2⟩ := asP_fin e
  refine ⟨_, e2, fun w0 ρ a w hR hT => ?_⟩
  have hx := opd_den h1 hT
  obtain ⟨p, d1, d2⟩ := ptr_den e1 hx
  rw [e1] at hx
  refine ⟨_, hx, ?_⟩
  simp [execOp, hop, d2]
theorem snd_ld {x : Operand} {y : OP} {T : TypeId} {D : TypeDesc} (hop : o.op = .load T x) (hd : cDst nt o.dst = .mk d) (h1 : cOpd nt x = .mk y) (hT : und (types P) T = some D) (hg : agg (types P) T = false) : VSnd X P nt d (fLd d y) o := by
  refine VSnd.of (by rw [hop]; simp) hd fun cal t h c df k v' h' c' e => ?_
  obtain ⟨b, r, e1, e2⟩ := asP_fin e
  obtain ⟨ty, m, q, z, u, e3, e4⟩ := blk_fin e2
  obtain ⟨e5, e6⟩ := ifT_fin e4
  rw [fV_eq] at e6
  refine ⟨_, e6, fun w0 ρ a w hR hTR => ?_⟩
  obtain ⟨p, d1, d2⟩ := ptr_den e1 (opd_den h1 hTR)
  obtain ⟨v, c1, c2⟩ := hR.cell d1 e3 (Nat.le_of_ble_eq_true e5)
  refine ⟨v, c2, ?_⟩
  simp [execOp, hop, d2, Instr.loadAt, Instr.sureAddr, loadVar, run_isAgg P hT, hg, load, Sem.run, c1]
theorem snd_lda {x : Operand} {y : OP} {T : TypeId} {D : TypeDesc} (hop : o.op = .load T x) (hd : cDst nt o.dst = .mk d) (h1 : cOpd nt x = .mk y) (hT : und (types P) T = some D) (hg : agg (types P) T = true) : VSnd X P nt d (fLda d (siz (types P) T) y) o := by
  refine VSnd.of (by rw [hop]; simp) hd fun cal t h c df k v' h' c' e => ?_
  obtain ⟨b, r, e1, e2⟩ := asP_fin e
  obtain ⟨ty, m, q, z, u, e3, e4, e5⟩ := ldK_fin e2
  refine ⟨_, e5, fun w0 ρ a w hR hTR => ?_⟩
  obtain ⟨p, d1, d2⟩ := ptr_den e1 (opd_den h1 hTR)
  obtain ⟨vs, c1, c2, c3, c4⟩ := hR.cells d1 e3 e4
  obtain ⟨i, hi, hs, _⟩ := (und_under hT).2
  refine ⟨.agg vs.toArray, by simp [den, c2], ?_⟩
  rw [hs] at c4
  simp [execOp, hop, d2, Instr.loadAt, Instr.sureAddr, loadVar, run_isAgg P hT, hg, run_sizeOf P hi, c4]
theorem snd_st {x y : Operand} {y1 y2 : OP} {T : TypeId} {D : TypeDesc} (hop : o.op = .store T x y) (hdst : o.dst = none) (h1 : cOpd nt x = .mk y1) (h2 : cOpd nt y = .mk y2) (hT : und (types P) T = some D) : OSnd X P nt (fSt (siz (types P) T) y1 y2) o := by
  intro cal hcal t h c df k v' h' c' e
  obtain ⟨b, r, e1, e2⟩ := asP_fin e
  obtain ⟨e3, e4⟩ := ifT_fin e2
  obtain ⟨ty, m, q, z, u, e5, e6⟩ := blk_fin e4
  obtain ⟨e7, e8⟩ := ifT_fin e6
  have hlen : (cl (y2 t)).length = siz (types P) T := by rw [← len_eq]; exact Nat.eq_of_beq_eq_true e3
  have hm : r + (cl (y2 t)).length ≤ m := by rw [hlen]; exact Nat.le_of_ble_eq_true e7
  obtain ⟨u', e10, e9, _, e11⟩ := stK_fin e8
  rw [hset_eq] at e10
  refine ⟨t, _, c, e10, fun w0 ρ a w rr n Q K hR hTR hK => ?_⟩
  obtain ⟨p, d1, d2⟩ := ptr_den e1 (opd_den h1 hTR)
  have d3 := cl_den (opd_den h2 hTR)
  obtain ⟨w', s1, s2⟩ := hR.store d1 e5 d3 e9 hm
  have hcap : r + (cl (y2 t)).length ≤ u.cap := by obtain ⟨_, _, k2, _⟩ := hR.row d1 e5; omega
  rw [← e11 hcap] at s2
  obtain ⟨i, hi, hs, _⟩ := (und_under hT).2
  refine ⟨fun _ _ => trivial, ?_⟩
  rw [Oper.semAt_eq _ _ _ (by rw [hop]; simp)]
  have hsz : (a.eval y).cells.size = i.size := by
    have := denL_length d3
    rw [hlen, hs] at this
    simpa using this
  have hrun : (execOp a.eval o).run P w = .ok .skip w' := by
    simp [execOp, hop, d2, Instr.storeAt, Instr.sureAddr, storeVar, run_sizeOf P hi, hsz, s1]
  rw [hrun]
  show K (a.put o.dst undef) w'
  rw [hdst]
  exact hK ρ a w' (Le.refl _) s2 hTR (Kp.hs hR.le (by have := (hR.dom _ _ d1).1; have := hR.le; omega) fun _ hh => by rw [e5] at hh; cases hh) (Nat.le_refl _) rfl
end
end
end Ev
