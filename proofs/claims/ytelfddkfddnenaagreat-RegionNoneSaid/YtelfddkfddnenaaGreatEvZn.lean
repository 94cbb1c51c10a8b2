/- regions whose order is drawn. -/
import Derived.Test.YtelfddkfddnenaaGreatEvZm
namespace Ev
open Go Go.RowKit
set_option linter.unusedVariables false
set_option linter.unusedSimpArgs false
section
variable {X : Spx} {P : Program}
theorem rsv_ok : ∀ {n : Nat} {h : HP} {c : Nat} {k : HP → Nat → R} {v' : V} {h' : HP} {c' : Nat}, rsv n h c k = .fin v' h' c' → ∃ h1, k h1 (c + n) = .fin v' h' c' ∧ ∀ b ρ w, HR X P b ρ h c w → HR X P b ρ h1 (c + n) w ∧ Kp h h1 c
  | 0, h, c, k, v', h', c', e => ⟨h, e, fun b ρ w H => ⟨H, Kp.refl _ _⟩⟩
  | n + 1, h, c, k, v', h', c', e => by
    have e0 : newK .x h c (fun h c => rsv n h c k) = .fin v' h' c' := e
    obtain ⟨e1, e2⟩ := newK_fin e0
    obtain ⟨h1, e3, w1⟩ := rsv_ok e2
    refine ⟨h1, by rw [show c + (n + 1) = c + 1 + n by omega]; exact e3, fun b ρ w H => ?_⟩
    obtain ⟨H1, k1⟩ := H.rsv e1
    obtain ⟨H2, k2⟩ := w1 b ρ w H1
    rw [show c + (n + 1) = c + 1 + n by omega]
    exact ⟨H2, k1.trans k2 (by omega)⟩
theorem drawn_ok (hX : ∀ A s w, ¬ X.In A s w) (hm : P.follows .mixedOrders = true) : DrawnOK X P := by
  intro nt one id ops f hf
  unfold cDrawn at hf
  rw [fLL_eq, fL_eq] at hf
  rcases bif_cases hf with ⟨hb, hf⟩ | ⟨_, hf⟩
  case inr => cases hf; exact csnd_bad
  rw [Bool.and_eq_true, fRs_eq] at hb
  obtain ⟨hch, hck⟩ := hb
  have hC := chk_ok hck
  split at hf
  case h_2 => cases hf; exact csnd_bad
  rename_i s hs
  cases hf
  obtain ⟨s1, s2, hs1, hs2, rfl⟩ := sqB_mk hs
  intro cal hcal t hh cc df kn ke v' h' c' e
  have e1 : rsv (slot ops ops.size) hh cc (fun h1 c1 => sqS s1 s2 t cc cal t h1 h0 c1 df fun t h _ c => kn t h c df) = .fin v' h' c' := e
  obtain ⟨h1, e2, w1⟩ := rsv_ok (X := X) (P := P) e1
  obtain ⟨t2, e3, e4, g1, g2, g3⟩ := all_stp (X := X) hC _ _ _ _ (ixs_lt _) (fun i hi => by
    obtain ⟨q1, q2⟩ := mem_ixs.1 hi
    simp only [Bool.and_eq_true] at q2
    exact ⟨q2.1, q1⟩) hs1 e2
  have han : ∀ x, x ∈ (ixs ops fun i => !nonA ops i) ↔ x < ops.size ∧ nonA ops x = false := fun x => by rw [mem_ixs]; simp
  have hnd : (ixs ops fun i => !nonA ops i).Nodup := (ixs_lt _).imp fun h => Nat.ne_of_lt h
  have hPk : Pk X P nt ops t cc (ixs ops fun i => !nonA ops i) [] t2 h1 e3 (cc + slot ops ops.size) := fun i o ho hn hr _ => g1 i (mem_ixs.2 ⟨size_of ho, by simp [hn, hr]⟩) o ho
  obtain ⟨tF, hF, cF, ⟨_, hfin⟩, hR0⟩ := rest_fix (segs_rest (X := X) hC hcal _ _ _ _ _ _ _ hs2 hch (fun x hx => (by cases hx)) (fun a ha => (han a).1 ha) hPk e4)
  refine ⟨.nx, tF, hF, cF, df, hfin, fun w0 ρ a w r n Q ho hR hT hD hK => wpIn_region_any hm ?_⟩
  have hRd : HR X P w0 ρ hh cc { w with drawn := w.drawn + 1 } := hR.same rfl rfl rfl rfl
  obtain ⟨hR1, hkp⟩ := w1 _ _ _ hRd
  have hle1 := hR1.le
  have hslot : ∀ i, i < ops.size → erl ops i = true → slot ops i < slot ops ops.size := fun i hi he => slot_lt hi he
  refine any_of hC.down (fun L a' w' => ∃ l ad done t' h e c ρ' B, IS X P nt ops t cc (ixs ops fun i => !nonA ops i) w0 ρ hh cc a (fun t h c => t = tF ∧ h = hF ∧ c = cF) l ad done t' h e c ρ' B L a' w') ?_ ?_ _ _ _ _ (by rw [cnt_rep]; exact Nat.le_refl _) (by simp) (fun i hi => ?_) ?_
  · rintro L a' w' hs hall ⟨l, ad, done, t', h, e, c, ρ', B, S⟩
    cases l with
    | cons x l =>
      exfalso
      have h1 := S.nl x (by simp)
      have h2 := ((han x).1 (by rw [S.an]; simp)).1
      rw [hall x h2] at h1; cases h1
    | nil =>
      obtain ⟨hf, q1, rfl, rfl, rfl⟩ := S.rest
      have hmem : ∀ j, j ∈ (ixs ops fun i => erl ops i && !elm i ad) → j < ops.size ∧ erl ops j = true ∧ j ∉ ad := fun j hj => by
        obtain ⟨s1, s2⟩ := mem_ixs.1 hj
        simp only [Bool.and_eq_true, Bool.not_eq_true', elm_no] at s2
        exact ⟨s1, s2.1, s2.2⟩
      obtain ⟨B', k1, k2, k3, k4, k5⟩ := adopt_all hX _ _ _ _ q1 ((ixs_lt _).imp fun h => Nat.ne_of_lt h) (fun j hj => by
        obtain ⟨s1, s2, s3⟩ := hmem j hj
        obtain ⟨p, ty, n', z, u, z1, z2, z3, z4, z5⟩ := S.ey j s1 s2 (hall j s1) s3
        exact ⟨p, ty, n', z, u, z1, z2, z4, z5⟩) (fun j hj j' hj' hjj p q hp hq => by
        obtain ⟨s1, s2, s3⟩ := hmem j hj
        obtain ⟨y1, y2, y3⟩ := hmem j' hj'
        exact S.ed j j' p q s2 y2 (hall j s1) (hall j' y1) s3 y3 s1 y1 hjj hp hq) S.hr
      have hbw : Bel w0 w' := S.bb.chain S.bo S.hr.bel
      have hkp' : Kp hh hf cc := S.kp.trans k5 S.cl
      refine hK ρ' a' w' ⟨S.le, k1.back (by rw [k2]; exact hbw) (fun k hk => (k4 k).2 ⟨S.bo k hk, fun j hj p hp ee => ?_⟩) (fun k hk => k3 k (S.bn k hk)), ⟨by rw [S.sz]; exact hT.1, fun i hi hi2 => ?_⟩, by rw [S.df]; exact hD.mono S.le hkp' S.cl, hkp', S.cl, fun k hk => .inl hk⟩
      · obtain ⟨s1, s2, s3⟩ := hmem j hj
        obtain ⟨p', ty, n', z, u, z1, z2, z3, z4, z5⟩ := S.ey j s1 s2 (hall j s1) s3
        rw [hp] at z1; cases z1
        exact z3 (ee ▸ hk)
      · by_cases hex : ∃ (j : Nat) (oj : Oper), ops[j]? = some oj ∧ oj.dst = some i
        · obtain ⟨j, oj, hj, hd⟩ := hex
          exact S.va j oj i hj hd (hall j (size_of hj)) hi2
        · have hno : ∀ (j : Nat) (oj : Oper), ops[j]? = some oj → oj.dst ≠ some i := fun j oj hj hd => hex ⟨j, oj, hj, hd⟩
          obtain ⟨x, x1, x2⟩ := hT.2 i hi hi2
          refine ⟨x, ?_, ?_⟩
          · rw [S.rs i fun j oj hj hd => absurd hd (hno j oj hj)]; exact x1
          · rw [S.kt i hi2 hno]; exact den_mono S.le _ x2
  · rintro L a' w' i hs hDn ⟨l, ad, done, t', h, e, c, ρ', B, S⟩ hi
    refine is_step hX hC hT (fun k hk => (hR.noc k hk).1) han hnd S hs hDn hi
  · rw [Array.getD_eq_getD_getElem?, Array.getElem?_replicate] at hi
    split at hi <;> cases hi
  · have hfalse : ∀ j, (Array.replicate ops.size false).getD j false = false := fun j => by
      rw [Array.getD_eq_getD_getElem?, Array.getElem?_replicate]
      split <;> rfl
    have hbase : HR X P ⟨w0.w, w0.out, w0.lt, fun k => w0.no k ∨ (cc ≤ k ∧ k < cc + slot ops ops.size)⟩ ρ h1 (cc + slot ops ops.size) { w with drawn := w.drawn + 1 } :=
      hR1.base ⟨hR1.bel.os, hR1.bel.tape, hR1.bel.output, hR1.bel.size, hR1.bel.block⟩ (fun k p hk hx => (hR1.dom k p hk).2.1 hx) fun k hk => by
        rcases hk with hk | ⟨hk1, hk2⟩
        · exact hR1.noc k hk
        · refine ⟨hk2, ?_⟩
          cases hrk : ρ k with
          | none => rfl
          | some p => have := (hR.dom k p hrk).1; omega
    refine ⟨_, [], [], t2, h1, e3, _, ρ, _, ⟨hR0, hPk, hch, fun x hx => (by cases hx), rfl, fun x hx => (by cases hx), fun x _ => hfalse x, fun x hx => (by cases hx), hbase, Bel.refl w0, fun k hk => hk, fun k hk => .inl hk, Le.refl _, hkp, by omega, rfl, rfl, fun j oj n hj hd hL => (by rw [hfalse] at hL; cases hL), fun n _ => rfl, fun n hn hh => ?_, fun i hi he _ => .inr ⟨by omega, by have := hslot i hi he; omega⟩, fun i hi he hL => (by rw [hfalse] at hL; cases hL), fun i j p q _ _ hL => (by rw [hfalse] at hL; cases hL)⟩⟩
    exact g2 n hn fun i _ o ho => hh i o ho
end
theorem noX_no : ∀ A s w, ¬ noX.In A s w := fun _ _ _ h => h
end Ev
