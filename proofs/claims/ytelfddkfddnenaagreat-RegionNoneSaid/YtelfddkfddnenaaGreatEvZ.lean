/- calls; rounds; the machine. -/
import Derived.Test.YtelfddkfddnenaaGreatEvY
namespace Ev
open Go Go.RowKit
set_option linter.unusedVariables false
set_option linter.unusedSimpArgs false
section
variable {X : Spx} {P : Program}
theorem HR.below {w0 : Base} {w w' : World} {ρ : Rho} {h : HP} {c : Nat} (H : HR X P w0 ρ h c w) (B : Below w.heap.size w w') : HR X P w0 ρ h c w' := by
  have hIn : ∀ A s, X.In A s w → X.In A s w' ∧ ∀ j, X.Ft A w' j ↔ X.Ft A w j := fun A s hI => X.mv hI fun j hj => B.block j (X.lt hI hj)
  refine ⟨H.bel.below B, H.le, fun k q hk => ⟨(H.dom k q hk).1, (H.dom k q hk).2.1, Nat.lt_of_lt_of_le (H.dom k q hk).2.2 B.size⟩, H.inj, fun k hk => ?_, fun k s A hb' hA k' p' hx' hne hk' => ?_, H.one, H.noc⟩
  · exact (H.blk k hk).mono (Le.refl _) (fun p hp => B.block _ (H.dom _ _ hp).2.2) fun a p _ _ hI => (hIn _ _ hI).1
  · have hI := H.blk k (H.dom _ _ hA).1; rw [hb'] at hI
    obtain ⟨p, h1, h2⟩ := hI
    have hA2 := hA
    rw [h1] at hA2; cases hA2
    rw [(hIn _ _ h2).2]
    exact H.sep k s _ hb' hA k' p' hx' hne hk'
/-- the marks are come to -/
theorem dfK_ok : ∀ {df : List Nat} {h : HP} {k : HP → R} {v' : V} {h' : HP} {c' : Nat}, dfK df h k = .fin v' h' c' → ∃ h2, k h2 = .fin v' h' c' ∧
    ∀ w0 ρ c w ds fn m n (Q : Ending → World → Prop), HR X P w0 ρ h c w → DOK ρ h c df ds → (∀ w2, HR X P w0 ρ h2 c w2 → (∀ j, j < c → j ∉ df → hget h2 j = hget h j) → ∃ x, (results fn m).run P w2 = .ok x w2 ∧ Q (.returned x) w2) → LeavesInM (Fr none) n P fn m Q ds .returning w
  | [], h, k, v', h', c', e => ⟨h, e, fun w0 ρ c w ds fn m n Q hR hD hQ => by
      cases ds with
      | nil => exact hQ w hR fun _ _ _ => rfl
      | cons d ds => exact hD.1.elim⟩
  | a :: df, h, k, v', h', c', e => by
    have e0 : hset .x h a (fun h => dfK df h k) = .fin v' h' c' := e
    rw [hset_eq] at e0
    obtain ⟨h2, e1, w1⟩ := dfK_ok e0
    refine ⟨h2, e1, fun w0 ρ c w ds fn m n Q hR hD hQ => ?_⟩
    cases ds with
    | nil => exact hD.1.elim
    | cons d ds =>
      obtain ⟨⟨⟨p, hp, ht⟩, hrest⟩, hnd, hdf⟩ := hD
      obtain ⟨hac, hag⟩ := hdf a (by simp)
      have hc := hR.le
      have hg : ∀ j, j < c → hget (hs h a .x) j = if j = a then .x else hget h j := fun j hj => hget_hs _ _ (by omega) (by omega)
      have hb := hR.blk a hac
      rw [hag] at hb
      obtain ⟨p', q1, q2⟩ := hb
      rw [hp] at q1; cases q1
      refine ⟨by simp, .inl ⟨p.1, _, ht, run_takeDeferred q2, ?_⟩⟩
      have hR' := hR.put (b := .x) (o := .deferred none) hp (by rw [hag]; simp) (by rw [hag]; simp) (by simp) trivial
      obtain ⟨hna, hnd'⟩ := List.nodup_cons.1 hnd
      refine w1 w0 ρ c _ ds fn m n Q hR' ⟨hrest, hnd', fun j hj => ?_⟩ fun w2 hR2 hk => hQ w2 hR2 fun j hj hnj => ?_
      · obtain ⟨g1, g2⟩ := hdf j (List.mem_cons_of_mem _ hj)
        have hne : j ≠ a := fun hh => by subst hh; exact hna hj
        exact ⟨g1, by rw [hg j g1, if_neg hne]; exact g2⟩
      · rw [hk j hj (fun hh => hnj (List.mem_cons_of_mem _ hh)), hg j hj, if_neg (fun hh => hnj (by rw [hh]; simp))]
set_option maxRecDepth 100000 in
theorem slots_ok {i : Nat} {d : DS} (h : slots[i]? = some d) : i < 256 ∧ ∀ v t (k : TM → R), d v t k = k (ts t i v) := by
  have hall : slots.map Bx.mk = (List.range 256).map fun i => dOp (i6N (i / 16)) (i6N (i % 16)) := rfl
  have hl : slots.length = 256 := by have := congrArg List.length hall; simpa using this
  have hi : i < 256 := by rw [← hl]; exact (List.getElem?_eq_some_iff.1 h).1
  refine ⟨hi, fun v t k => dOp_eq hi ?_ v t k⟩
  have := congrArg (·[i]?) hall
  simp only [List.getElem?_map, h, Option.map_some, List.getElem?_range hi] at this
  exact (Option.some.inj this).symm
theorem argT_ok : ∀ (l : List V) (i : Nat) (t : TM) {k : TM → R} {v' : V} {h' : HP} {c' : Nat}, argT l (slots.drop i) t k = .fin v' h' c' → ∃ t1, k t1 = .fin v' h' c' ∧ ∀ j, j < 256 → tg t1 j = if i ≤ j then l.getD (j - i) (tg t j) else tg t j
  | [], i, t, k, v', h', c', e => ⟨t, e, fun j hj => by simp⟩
  | v :: l, i, t, k, v', h', c', e => by
    cases hs : slots.drop i with
    | nil => rw [hs] at e; cases e
    | cons d ds =>
      rw [hs] at e
      have hd : slots[i]? = some d := by
        have := congrArg (·[0]?) hs
        simpa [List.getElem?_drop] using this
      have hn : slots.drop (i + 1) = ds := by
        have := congrArg List.tail hs
        simpa [List.tail_drop] using this
      obtain ⟨hi, hds⟩ := slots_ok hd
      have e0 : d v t (fun t => argT l ds t k) = .fin v' h' c' := e
      rw [hds, ← hn] at e0
      obtain ⟨t1, e1, w1⟩ := argT_ok l (i + 1) _ e0
      refine ⟨t1, e1, fun j hj => ?_⟩
      rw [w1 j hj, tg_ts _ _ hi hj]
      by_cases h1 : i + 1 ≤ j
      · rw [if_pos h1, if_pos (show i ≤ j by omega), show j - i = (j - (i + 1)) + 1 by omega]
        simp only [List.getD_cons_succ]
        rw [if_neg (show ¬ j = i by omega)]
      · rw [if_neg h1]
        by_cases h2 : j = i
        · subst h2; simp
        · rw [if_neg h2, if_neg (show ¬ i ≤ j by omega)]
theorem args_tr {ρ : Rho} {l : List V} {vs : List Value} {t1 : TM} {nt : Nat} (hl : denL ρ l = some vs) (h : ∀ j, j < 256 → tg t1 j = l.getD j .u) : TR ρ nt t1 (vs.toArray ++ Array.replicate (nt - vs.toArray.size) undef) := by
  have hlen := denL_length hl
  refine ⟨by simp; omega, fun i hi hj => ?_⟩
  rw [h i hj]
  by_cases hlt : i < vs.length
  · have hil : i < l.length := by omega
    obtain ⟨x, hx, hd⟩ := denL_get hl (List.getElem?_eq_getElem hil)
    refine ⟨x, by rw [Array.getElem?_append_left (by simpa using hlt)]; simpa using hx, ?_⟩
    rw [List.getD_eq_getElem?_getD, List.getElem?_eq_getElem hil]; exact hd
  · refine ⟨undef, ?_, ?_⟩
    · rw [Array.getElem?_append_right (by simp; omega), Array.getElem?_replicate, if_pos (by simp; omega)]
    · rw [List.getD_eq_getElem?_getD, List.getElem?_eq_none (by omega)]; simp [den]
end
end Ev
