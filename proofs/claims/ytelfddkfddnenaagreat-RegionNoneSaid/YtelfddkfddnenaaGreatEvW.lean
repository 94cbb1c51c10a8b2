/- code. -/
import Derived.Test.YtelfddkfddnenaaGreatEvV
import Derived.RangeFuncLeaves
namespace Ev
open Go Go.RowKit
set_option linter.unusedVariables false
set_option linter.unusedSimpArgs false
/-- the marks of a frame -/
def DF (ρ : Rho) : List Nat → List Deferred → Prop
  | [], [] => True
  | k :: l, d :: ds => (∃ p, ρ k = some p ∧ d.target = .collected p.1) ∧ DF ρ l ds
  | _, _ => False
def DOK (ρ : Rho) (h : HP) (c : Nat) (df : List Nat) (ds : List Deferred) : Prop := DF ρ df ds ∧ df.Nodup ∧ ∀ k ∈ df, k < c ∧ hget h k = .df
theorem DF.mono {ρ ρ' : Rho} (hl : Le ρ ρ') : ∀ {l : List Nat} {ds : List Deferred}, DF ρ l ds → DF ρ' l ds
  | [], [], _ => trivial
  | k :: l, d :: ds, ⟨⟨p, h1, h2⟩, h3⟩ => ⟨⟨p, hl _ _ h1, h2⟩, DF.mono hl h3⟩
theorem DOK.mono {ρ ρ' : Rho} {h h1 : HP} {c c1 : Nat} {df : List Nat} {ds : List Deferred} (H : DOK ρ h c df ds) (hl : Le ρ ρ') (hk : Kp h h1 c) (hc : c ≤ c1) : DOK ρ' h1 c1 df ds :=
  ⟨H.1.mono hl, H.2.1, fun k hk' => ⟨Nat.lt_of_lt_of_le (H.2.2 k hk').1 hc, hk k (H.2.2 k hk').1 (H.2.2 k hk').2⟩⟩
def exO : Ex → Exit | .nx => .normal | .ex i => .exit i | .rt => .ret
def kx (kn : K) (ke : KE) : Ex → K | .nx => kn | e => ke e
section
variable (X : Spx) (P : Program)
/-- where code has come to -/
structure At (w0 : Base) (ρ : Rho) (nt : Nat) (h : HP) (cc : Nat) (df : List Nat) (ρ' : Rho) (t1 : TM) (h1 : HP) (c1 : Nat) (df1 : List Nat) (a : Act) (w : World) : Prop where
  le : Le ρ ρ'
  hr : HR X P w0 ρ' h1 c1 w
  tr : TR ρ' nt t1 a.tmps
  dk : DOK ρ' h1 c1 df1 a.defers
  kp : Kp h h1 cc
  cl : cc ≤ c1
  nw : ∀ k ∈ df1, k ∈ df ∨ cc ≤ k
/-- the code of a closure -/
def CSnd (nt : Nat) (one : Bool) (F : CC) (c : Code) : Prop := ∀ cal, CalOK X P cal → ∀ t h cc df kn ke v' h' c', F cal t h cc df kn ke = .fin v' h' c' →
  ∃ e t1 h1 c1 df1, kx kn ke e t1 h1 c1 df1 = .fin v' h' c' ∧ ∀ w0 ρ a w r n Q, (one = true → r = none) → HR X P w0 ρ h cc w → TR ρ nt t a.tmps → DOK ρ h cc df a.defers →
    (∀ ρ' a' w', At X P w0 ρ nt h cc df ρ' t1 h1 c1 df1 a' w' → Q (exO e) a' w') → c.wpIn (Fr r) n P Q a w
end
section
variable {X : Spx} {P : Program} {nt : Nat} {one : Bool}
theorem At.refl {w0 : Base} {ρ : Rho} {t : TM} {h : HP} {cc : Nat} {df : List Nat} {a : Act} {w : World} (hR : HR X P w0 ρ h cc w) (hT : TR ρ nt t a.tmps) (hD : DOK ρ h cc df a.defers) : At X P w0 ρ nt h cc df ρ t h cc df a w :=
  ⟨Le.refl _, hR, hT, hD, Kp.refl _ _, Nat.le_refl _, fun k hk => .inl hk⟩
theorem At.trans {w0 : Base} {ρ ρ1 ρ2 : Rho} {t1 t2 : TM} {h h1 h2 : HP} {cc c1 c2 : Nat} {df df1 df2 : List Nat} {a1 a2 : Act} {w1 w2 : World}
    (A : At X P w0 ρ nt h cc df ρ1 t1 h1 c1 df1 a1 w1) (B : At X P w0 ρ1 nt h1 c1 df1 ρ2 t2 h2 c2 df2 a2 w2) : At X P w0 ρ nt h cc df ρ2 t2 h2 c2 df2 a2 w2 :=
  ⟨A.le.trans B.le, B.hr, B.tr, B.dk, A.kp.trans B.kp A.cl, Nat.le_trans A.cl B.cl, fun k hk => by
    rcases B.nw k hk with h | h
    · exact A.nw k h
    · exact .inr (Nat.le_trans A.cl h)⟩
theorem csnd_bad {n : Nat} {c : Code} : CSnd X P nt one (badC n) c := fun cal _ t h cc df kn ke v' h' c' e => (by cases e)
theorem csnd_skip : CSnd X P nt one skC .skip := fun cal _ t h cc df kn ke v' h' c' e =>
  ⟨.nx, t, h, cc, df, e, fun w0 ρ a w r n Q _ hR hT hD hK => wpIn_skip (hK ρ a w (At.refl hR hT hD))⟩
theorem csnd_ret : CSnd X P nt one rtC .ret := fun cal _ t h cc df kn ke v' h' c' e =>
  ⟨.rt, t, h, cc, df, e, fun w0 ρ a w r n Q _ hR hT hD hK => wpIn_ret (hK ρ a w (At.refl hR hT hD))⟩
theorem csnd_exit {i : Nat} : CSnd X P nt one (exC i) (.exit i) := fun cal _ t h cc df kn ke v' h' c' e =>
  ⟨.ex i, t, h, cc, df, e, fun w0 ρ a w r n Q _ hR hT hD hK => wpIn_exit (hK ρ a w (At.refl hR hT hD))⟩
theorem csnd_region {id : Nat} {ops : Array Oper} {f : OC} (h : RSnd X P nt ops f (List.range ops.size)) : CSnd X P nt one (rgC f) (.region id ops false) := by
  intro cal hcal t hh cc df kn ke v' h' c' e
  obtain ⟨t1, h1, c1, e1, hw⟩ := h cal hcal t hh cc df kn v' h' c' e
  refine ⟨.nx, t1, h1, c1, df, e1, fun w0 ρ a w r n Q _ hR hT hD hK => wpIn_region (hw w0 ρ a w r n Q hR hT fun ρ' a' w' l1 r1 r2 r3 r4 r5 => ?_)⟩
  exact hK ρ' a' w' ⟨l1, r1, r2, by rw [r5]; exact hD.mono l1 r3 r4, r3, r4, fun k hk => .inl hk⟩
theorem csnd_seq {f g : CC} {x y : Code} (hf : CSnd X P nt one f x) (hg : CSnd X P nt one g y) : CSnd X P nt one (sqC f g) (.seq x y) := by
  intro cal hcal t hh cc df kn ke v' h' c' e
  obtain ⟨e1, t1, h1, c1, df1, k1, w1⟩ := hf cal hcal t hh cc df (fun t h c df => g cal t h c df kn ke) ke v' h' c' e
  cases e1 with
  | nx =>
    obtain ⟨e2, t2, h2, c2, df2, k2, w2⟩ := hg cal hcal t1 h1 c1 df1 kn ke v' h' c' k1
    exact ⟨e2, t2, h2, c2, df2, k2, fun w0 ρ a w r n Q ho hR hT hD hK => wpIn_seq (w1 w0 ρ a w r n _ ho hR hT hD fun ρ' a' w' A => w2 w0 ρ' a' w' r n Q ho A.hr A.tr A.dk fun ρ2 a2 w2' B => hK ρ2 a2 w2' (A.trans B))⟩
  | ex i => exact ⟨.ex i, t1, h1, c1, df1, k1, fun w0 ρ a w r n Q ho hR hT hD hK => wpIn_seq (w1 w0 ρ a w r n _ ho hR hT hD hK)⟩
  | rt => exact ⟨.rt, t1, h1, c1, df1, k1, fun w0 ρ a w r n Q ho hR hT hD hK => wpIn_seq (w1 w0 ρ a w r n _ ho hR hT hD hK)⟩
theorem csnd_cond {c : Operand} {o : OP} {f g : CC} {x y : Code} (hc : cOpd nt c = .mk o) (hf : CSnd X P nt one f x) (hg : CSnd X P nt one g y) : CSnd X P nt one (cdC o f g) (.cond c x y) := by
  intro cal hcal t hh cc df kn ke v' h' c' e
  obtain ⟨b, e1, e2⟩ := asB_fin e
  cases b with
  | true =>
    obtain ⟨e3, t1, h1, c1, df1, k1, w1⟩ := hf cal hcal t hh cc df kn ke v' h' c' e2
    exact ⟨e3, t1, h1, c1, df1, k1, fun w0 ρ a w r n Q ho hR hT hD hK => wpIn_cond_true (bool_den e1 (opd_den hc hT)) (w1 w0 ρ a w r n Q ho hR hT hD hK)⟩
  | false =>
    obtain ⟨e3, t1, h1, c1, df1, k1, w1⟩ := hg cal hcal t hh cc df kn ke v' h' c' e2
    exact ⟨e3, t1, h1, c1, df1, k1, fun w0 ρ a w r n Q ho hR hT hD hK => wpIn_cond_false (bool_den e1 (opd_den hc hT)) (w1 w0 ρ a w r n Q ho hR hT hD hK)⟩
theorem csnd_block {i : Nat} {f : CC} {x : Code} (hf : CSnd X P nt one f x) : CSnd X P nt one (bkC i f) (.block i x) := by
  intro cal hcal t hh cc df kn ke v' h' c' e
  obtain ⟨e1, t1, h1, c1, df1, k1, w1⟩ := hf cal hcal t hh cc df kn (fun e t h c df => exI i e (kn t h c df) (ke e t h c df)) v' h' c' e
  cases e1 with
  | nx => exact ⟨.nx, t1, h1, c1, df1, k1, fun w0 ρ a w r n Q ho hR hT hD hK => wpIn_block (w1 w0 ρ a w r n _ ho hR hT hD hK)⟩
  | rt => exact ⟨.rt, t1, h1, c1, df1, k1, fun w0 ρ a w r n Q ho hR hT hD hK => wpIn_block (w1 w0 ρ a w r n _ ho hR hT hD hK)⟩
  | ex j =>
    have k2 : ifT (Nat.beq j i) (kn t1 h1 c1 df1) (ke (.ex j) t1 h1 c1 df1) = .fin v' h' c' := k1
    cases hb : Nat.beq j i with
    | true =>
      rw [hb, ifT_true rfl] at k2
      refine ⟨.nx, t1, h1, c1, df1, k2, fun w0 ρ a w r n Q ho hR hT hD hK => wpIn_block (w1 w0 ρ a w r n _ ho hR hT hD fun ρ' a' w' A => ?_)⟩
      show if j = i then _ else _
      rw [if_pos (Nat.eq_of_beq_eq_true hb)]
      exact hK ρ' a' w' A
    | false =>
      rw [hb, ifT_false rfl] at k2
      refine ⟨.ex j, t1, h1, c1, df1, k2, fun w0 ρ a w r n Q ho hR hT hD hK => wpIn_block (w1 w0 ρ a w r n _ ho hR hT hD fun ρ' a' w' A => ?_)⟩
      show if j = i then _ else _
      rw [if_neg (Nat.ne_of_beq_eq_false hb)]
      exact hK ρ' a' w' A
/-- a loop at its body -/
def LoopAt (F : Fence) (n : Nat) (P : Program) (c : Code) (Q : Exit → Act → World → Prop) (a : Act) (w : World) : Prop :=
  ∀ (b : Frame) (k : List Item) (cs : List Frame), b.roundOf = F.round → F.fn b.fn → F.room (cs.length + 1 + n) →
    ∃ e a' w', Q e a' w' ∧ ArrivesIn (Machine.fenced P F) P (lone (b.atR a (.code c :: .inLoop c :: k)) cs w) b k cs e a' w'
theorem loopAt_step {F : Fence} {n : Nat} {c : Code} {Q : Exit → Act → World → Prop} {a : Act} {w : World} (h : c.wpIn F n P (Exit.then (LoopAt F n P c Q) Q) a w) : LoopAt F n P c Q a w := by
  intro b k cs hro hb hr
  obtain ⟨e, a₁, w₁, hq, harr⟩ := h b (.inLoop c :: k) cs hro hb hr
  cases e with
  | normal =>
    obtain ⟨e₂, a₂, w₂, hq₂, harr₂⟩ := hq b k cs hro hb hr
    exact ⟨e₂, a₂, w₂, hq₂, .of_steps (StepsIn.trans harr (.one (fenced_calm hb hr rfl) stepR_inLoop)) harr₂⟩
  | exit id => exact ⟨_, a₁, w₁, hq, .pass (x := .inLoop c) rfl (fun _ _ => .inl (by simp)) harr⟩
  | goto l => exact ⟨_, a₁, w₁, hq, .pass (x := .inLoop c) rfl (fun _ _ => .inl (by simp)) harr⟩
  | ret => exact ⟨_, a₁, w₁, hq, .pass (x := .inLoop c) rfl (fun _ _ => .inl (by simp)) harr⟩
  | panic ch => exact ⟨_, a₁, w₁, hq, .pass (x := .inLoop c) rfl (fun _ _ => .inl (by simp)) harr⟩
  | outgrown => exact ⟨_, a₁, w₁, hq, .pass (x := .inLoop c) rfl (fun _ _ => .inl (by simp)) harr⟩
theorem loopAt_loop {F : Fence} {n : Nat} {c : Code} {Q : Exit → Act → World → Prop} {a : Act} {w : World} (h : LoopAt F n P c Q a w) : (Code.loop c).wpIn F n P Q a w := by
  intro b k cs hro hb hr
  obtain ⟨e, a', w', hq, harr⟩ := h b k cs hro hb hr
  exact ⟨e, a', w', hq, .of_steps (.one (fenced_calm hb hr rfl) stepR_loop) harr⟩
theorem csnd_loop {N : Nat} {f : CC} {x : Code} (hf : CSnd X P nt one f x) : CSnd X P nt one (lpC N f) (.loop x) := by
  intro cal hcal t hh cc df kn ke v' h' c' e
  have key : ∀ N t hh cc df, (Nat.rec (motive := fun _ => K) (fun _ _ _ _ => .bad 83) (fun _ ih t h c df => f cal t h c df ih ke) N t hh cc df : R) = .fin v' h' c' →
      ∃ e t1 h1 c1 df1, kx kn ke e t1 h1 c1 df1 = .fin v' h' c' ∧ ∀ w0 ρ a w r n Q, (one = true → r = none) → HR X P w0 ρ hh cc w → TR ρ nt t a.tmps → DOK ρ hh cc df a.defers →
        (∀ ρ' a' w', At X P w0 ρ nt hh cc df ρ' t1 h1 c1 df1 a' w' → Q (exO e) a' w') → LoopAt (Fr r) n P x Q a w := by
    intro N
    induction N with
    | zero => intro t hh cc df e; cases e
    | succ N ih =>
      intro t hh cc df e
      obtain ⟨e1, t1, h1, c1, df1, k1, w1⟩ := hf cal hcal t hh cc df _ ke v' h' c' e
      cases e1 with
      | nx =>
        obtain ⟨e2, t2, h2, c2, df2, k2, w2⟩ := ih t1 h1 c1 df1 k1
        exact ⟨e2, t2, h2, c2, df2, k2, fun w0 ρ a w r n Q ho hR hT hD hK => loopAt_step (w1 w0 ρ a w r n _ ho hR hT hD fun ρ' a' w' A => w2 w0 ρ' a' w' r n Q ho A.hr A.tr A.dk fun ρ2 a2 w2' B => hK ρ2 a2 w2' (A.trans B))⟩
      | ex i => exact ⟨.ex i, t1, h1, c1, df1, k1, fun w0 ρ a w r n Q ho hR hT hD hK => loopAt_step (w1 w0 ρ a w r n _ ho hR hT hD hK)⟩
      | rt => exact ⟨.rt, t1, h1, c1, df1, k1, fun w0 ρ a w r n Q ho hR hT hD hK => loopAt_step (w1 w0 ρ a w r n _ ho hR hT hD hK)⟩
  obtain ⟨e1, t1, h1, c1, df1, k1, w1⟩ := key N t hh cc df e
  exact ⟨e1, t1, h1, c1, df1, k1, fun w0 ρ a w r n Q ho hR hT hD hK => loopAt_loop (w1 w0 ρ a w r n Q ho hR hT hD hK)⟩
end
end Ev
