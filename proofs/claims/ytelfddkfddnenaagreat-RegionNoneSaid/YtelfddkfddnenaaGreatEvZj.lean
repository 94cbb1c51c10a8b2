/- the steps of a drawn region. -/
import Derived.Test.YtelfddkfddnenaaGreatEvZi
namespace Ev
open Go Go.RowKit
set_option linter.unusedVariables false
set_option linter.unusedSimpArgs false
theorem fBk_eq (b : Blk) (k : Blk → R) : fBk b k = k b := by cases b <;> rfl
theorem ifX_fin {b : Blk} {r : R} {v : V} {h : HP} {c : Nat} (e : ifX b r = .fin v h c) : b = .x ∧ r = .fin v h c := by cases b <;> first | exact ⟨rfl, e⟩ | cases e
theorem fL_list {β : Type} {l : List Nat} {q : List Nat → β} : fL l q = q l := fL_eq
section
variable {X : Spx} {P : Program} {nt : Nat} {ops : Array Oper}
/-- an operation's own temporaries from t, the others from t0 -/
def Own (ops : Array Oper) (i : Nat) (o : Oper) (t0 t t' : TM) : Prop := ∀ n, n < 256 → tg t' n = if n ∈ own ops i o then tg t n else tg t0 n
/-- what an anchored operation does -/
def AW (X : Spx) (P : Program) (nt : Nat) (ops : Array Oper) (o : Oper) (t : TM) (h : HP) (c : Nat) (t1 : TM) (h1 : HP) (c1 : Nat) : Prop := ∀ w0 ρ (a : Act) w r n Q K, HR X P w0 ρ h c w → TR ρ nt t a.tmps →
    (∀ ρ' (a' : Act) w', Le ρ ρ' → HR X P w0 ρ' h1 c1 w' → TR ρ' nt t1 a'.tmps → Kp h h1 c → c ≤ c1 → a'.defers = a.defers → K a' w') →
    if Region.wanted o (yielded ops a.tmps) = true then o.wpIn (Fr r) n P a w K Q else K (a.put o.dst undef) w
theorem tmp_ts {n : Nat} {d : DS} (h : cDst nt (some n) = .mk d) (v : V) (t : TM) (k : TM → R) : d v t k = k (ts t n v) := by
  obtain ⟨t1, h1, h2⟩ := dst_eq h v t k
  have : t1 = ts t n v := h1
  rw [h2, this]
/-- a light step -/
theorem cSt_light {i : Nat} {o : Oper} {s : SC} (hs : cSt P (types P) nt ops i = .mk s) (hi : ops[i]? = some o) (hl : isLight o.op = true) {t0 t : TM} {c0 : Nat} {cal : CAL} {h e : HP} {c : Nat} {df : List Nat} {k : TM → HP → HP → Nat → R} {v' : V} {h' : HP} {c' : Nat}
    (E : s t0 c0 cal t h e c df k = .fin v' h' c') : ∃ v t' t1, Own ops i o t0 t t' ∧ dT o.dst t v t1 ∧ (∀ n, o.dst = some n → n < nt ∧ n < 256) ∧ k t1 h e c = .fin v' h' c' ∧ FL X P nt ops o t' h c v := by
  unfold cSt at hs
  simp only [hi] at hs
  split at hs
  · rename_i lk f _ h1 h2
    split at hs
    · rename_i hd
      cases hs
      obtain ⟨t', e1, e2⟩ := mkT_ok h1 t0 t fun t' => f cal t' h c df fun _ h c _ => k t h e c
      have e3 : f cal t' h c df (fun _ h c _ => k t h e c) = .fin v' h' c' := by rw [← e1]; exact E
      obtain ⟨v, t1, g1, g2, g3, g4⟩ := cGO_light (X := X) hl h2 _ _ _ _ _ _ _ _ _ e3
      exact ⟨v, t', t, e2, by rw [hd]; rfl, g2, g3, g4⟩
    · rename_i n hd
      split at hs
      · rename_i x d h3 h4
        cases hs
        obtain ⟨t', e1, e2⟩ := mkT_ok h1 t0 t fun t' => f cal t' h c df fun t1 h c _ => d (x t1) t fun t => k t h e c
        have e3 : f cal t' h c df (fun t1 h c _ => d (x t1) t fun t => k t h e c) = .fin v' h' c' := by rw [← e1]; exact E
        obtain ⟨v, t1, g1, g2, g3, g4⟩ := cGO_light (X := X) hl h2 _ _ _ _ _ _ _ _ _ e3
        rw [hd] at g1
        have g1' : t1 = ts t' n v := g1
        rw [tmp_ts h4, (tmp_tg h3 t1).1, g1', tg_ts _ _ (tmp_tg h3 t1).2.2 (tmp_tg h3 t1).2.2, if_pos rfl] at g3
        exact ⟨v, t', ts t n v, e2, by rw [hd]; rfl, g2, g3, g4⟩
      · cases hs
  · cases hs
/-- a light step again: it yields the same -/
theorem cRe_light {i : Nat} {o : Oper} {s : SC} (hs : cRe P (types P) nt ops i = .mk s) (hi : ops[i]? = some o) (hl : isLight o.op = true) {t0 t : TM} {c0 : Nat} {cal : CAL} {h e : HP} {c : Nat} {df : List Nat} {k : TM → HP → HP → Nat → R} {v' : V} {h' : HP} {c' : Nat}
    (E : s t0 c0 cal t h e c df k = .fin v' h' c') : ∃ v t', Own ops i o t0 t t' ∧ (∀ n, o.dst = some n → n < nt ∧ n < 256 ∧ tg t n = v) ∧ k t h e c = .fin v' h' c' ∧ FL X P nt ops o t' h c v := by
  unfold cRe at hs
  simp only [hi] at hs
  split at hs
  · rename_i lk f h1 h2
    split at hs
    · rename_i hd
      cases hs
      obtain ⟨t', e1, e2⟩ := mkT_ok h1 t0 t fun t' => f cal t' h c df fun _ _ _ _ => k t h e c
      have e3 : f cal t' h c df (fun _ _ _ _ => k t h e c) = .fin v' h' c' := by rw [← e1]; exact E
      obtain ⟨v, t1, g1, g2, g3, g4⟩ := cGO_light (X := X) hl h2 _ _ _ _ _ _ _ _ _ e3
      exact ⟨v, t', e2, fun n hn => (by rw [hd] at hn; cases hn), g3, g4⟩
    · rename_i n hd
      split at hs
      · rename_i x h3
        cases hs
        obtain ⟨t', e1, e2⟩ := mkT_ok h1 t0 t fun t' => f cal t' h c df fun t1 _ _ _ => ifT (veq (x t1) (x t)) (k t h e c) (.bad 111)
        have e3 : f cal t' h c df (fun t1 _ _ _ => ifT (veq (x t1) (x t)) (k t h e c) (.bad 111)) = .fin v' h' c' := by rw [← e1]; exact E
        obtain ⟨v, t1, g1, g2, g3, g4⟩ := cGO_light (X := X) hl h2 _ _ _ _ _ _ _ _ _ e3
        obtain ⟨g5, g6⟩ := ifT_fin g3
        rw [hd] at g1
        have g1' : t1 = ts t' n v := g1
        have g7 := veq_eq g5
        rw [(tmp_tg h3 t1).1, (tmp_tg h3 t).1, g1', tg_ts _ _ (tmp_tg h3 t1).2.2 (tmp_tg h3 t1).2.2, if_pos rfl] at g7
        exact ⟨v, t', e2, fun m hm => by rw [hd] at hm; cases hm; exact ⟨(tmp_tg h3 t).2.1, (tmp_tg h3 t).2.2, g7.symm⟩, g6, g4⟩
      · cases hs
  · cases hs
/-- memory that is made -/
theorem cNw_early {i : Nat} {o : Oper} {s : SC} (hs : cNw P (types P) nt ops i = .mk s) (hi : ops[i]? = some o) (hl : isEarly o.op = true) {t0 t : TM} {c0 : Nat} {cal : CAL} {h e : HP} {c : Nat} {df : List Nat} {k : TM → HP → HP → Nat → R} {v' : V} {h' : HP} {c' : Nat}
    (E : s t0 c0 cal t h e c df k = .fin v' h' c') : ∃ v b t' n, Own ops i o t0 t t' ∧ o.dst = some n ∧ (n < nt ∧ n < 256) ∧ o.guard = none ∧ c0 + slot ops i ≤ 65535 ∧ hget h (c0 + slot ops i) = .x ∧ k (ts t n v) h (Ev.hs e (c0 + slot ops i) b) c = .fin v' h' c' ∧ ES P nt o t' (c0 + slot ops i) v b := by
  unfold cNw at hs
  simp only [hi] at hs
  split at hs
  · rename_i lk f n h1 h2 hd hg
    split at hs
    · rename_i x d h3 h4
      cases hs
      have E0 : (fN (c0 + slot ops i) fun id => ifX (hget h id) (mkT lk t0 t fun t' => f cal t' h id df fun t1 h1 _ _ => fBk (hget h1 id) fun b => hset b e id fun e => d (x t1) t fun t => k t h e c)) = .fin v' h' c' := E
      rw [fN_eq] at E0
      obtain ⟨hX, E0⟩ := ifX_fin E0
      obtain ⟨t', e1, e2⟩ := mkT_ok h1 t0 t fun t' => f cal t' h (c0 + slot ops i) df fun t1 h1 _ _ => fBk (hget h1 (c0 + slot ops i)) fun b => hset b e (c0 + slot ops i) fun e => d (x t1) t fun t => k t h e c
      rw [e1] at E0
      rcases cOp_early hl h2 with ⟨d', hd', hE⟩ | rfl
      case inr => cases E0
      obtain ⟨v, b, g1, g2, g3⟩ := hE _ _ _ _ _ _ _ _ _ E0
      rw [hd] at hd'
      rw [h4] at hd'
      cases hd'
      rw [tmp_ts h4, fBk_eq, hset_eq, tmp_ts h4, (tmp_tg h3 _).1, tg_ts _ _ (tmp_tg h3 t).2.2 (tmp_tg h3 t).2.2, if_pos rfl, hget_hs _ _ (by omega) (by omega), if_pos rfl] at g2
      exact ⟨v, b, t', n, e2, hd, (tmp_tg h3 t).2, hg, g1, hX, g2, g3⟩
    · cases hs
  · cases hs
/-- an anchored step -/
theorem cSt_anch {i : Nat} {o : Oper} {s : SC} (hs : cSt P (types P) nt ops i = .mk s) (hi : ops[i]? = some o) {t0 t : TM} {c0 : Nat} {cal : CAL} (hcal : CalOK X P cal) {h e : HP} {c : Nat} {df : List Nat} {k : TM → HP → HP → Nat → R} {v' : V} {h' : HP} {c' : Nat}
    (E : s t0 c0 cal t h e c df k = .fin v' h' c') : ∃ t' u1 h1 c1 t1, Own ops i o t0 t t' ∧ (∀ n, o.dst = some n → n < nt ∧ n < 256 ∧ tg t1 n = tg u1 n) ∧ (∀ n, n < 256 → o.dst ≠ some n → tg t1 n = tg t n) ∧ k t1 h1 e c1 = .fin v' h' c' ∧ okS o.op = true ∧ AW X P nt ops o t' h c u1 h1 c1 := by
  unfold cSt at hs
  simp only [hi] at hs
  split at hs
  · rename_i lk f hok h1 h2
    split at hs
    · rename_i hd
      cases hs
      obtain ⟨t', e1, e2⟩ := mkT_ok h1 t0 t fun t' => f cal t' h c df fun _ h c _ => k t h e c
      have e3 : f cal t' h c df (fun _ h c _ => k t h e c) = .fin v' h' c' := by rw [← e1]; exact E
      obtain ⟨t1, hh1, c1, g1, g2⟩ := cGO_ok (X := X) h2 cal hcal _ _ _ _ _ _ _ _ e3
      exact ⟨t', t1, hh1, c1, t, e2, fun n hn => (by rw [hd] at hn; cases hn), fun _ _ _ => rfl, g1, hok, g2⟩
    · rename_i n hd
      split at hs
      · rename_i x d h3 h4
        cases hs
        obtain ⟨t', e1, e2⟩ := mkT_ok h1 t0 t fun t' => f cal t' h c df fun t1 h c _ => d (x t1) t fun t => k t h e c
        have e3 : f cal t' h c df (fun t1 h c _ => d (x t1) t fun t => k t h e c) = .fin v' h' c' := by rw [← e1]; exact E
        obtain ⟨t1, hh1, c1, g1, g2⟩ := cGO_ok (X := X) h2 cal hcal _ _ _ _ _ _ _ _ e3
        rw [tmp_ts h4, (tmp_tg h3 t1).1] at g1
        refine ⟨t', t1, hh1, c1, _, e2, fun m hm => ?_, fun m hm hne => ?_, g1, hok, g2⟩
        · rw [hd] at hm; cases hm
          exact ⟨(tmp_tg h3 t).2.1, (tmp_tg h3 t).2.2, by rw [tg_ts _ _ (tmp_tg h3 t).2.2 (tmp_tg h3 t).2.2, if_pos rfl]⟩
        · rw [tg_ts _ _ (tmp_tg h3 t).2.2 hm, if_neg (by intro e; subst e; exact hne hd)]
      · cases hs
  · cases hs
end
end Ev
