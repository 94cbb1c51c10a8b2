/- EvZn, EvZo, EvZp, EvSa, EvYa, EvYb. -/
import Derived.Test.YtbeldoiaecjkgaaGreatDoorMeG
section
namespace Ev
open Go Go.RowKit
set_option linter.unusedVariables false
set_option linter.unusedSimpArgs false
section
variable {X : Spx} {P : Program}
theorem rsv_ok : ∀ {n : Nat} {h : HP} {c : Nat} {k : HP → Nat → R} {v' : V} {h' : HP} {c' : Nat}, rsv n h c k = .fin v' h' c' → ∃ h1, k h1 (c + n) = .fin v' h' c' ∧ ∀ b ρ w, HR X P b ρ h c w → HR X P b ρ h1 (c + n) w ∧ Kp h h1 c
  | 0, h, c, k, v', h', c', e => ⟨h, e, fun b ρ w H => ⟨H, Kp.refl _ _⟩⟩
  | n + 1, h, c, k, v', h', c', e => by
    have e0 : newK .x h c (fun h c => rsv n h c k) = .fin v' h' c' := e
    obtain ⟨e1, e2⟩ := newK_fin e0
    obtain ⟨h1, e3, w1⟩ := rsv_ok e2
    refine ⟨h1, by rw [show c + (n + 1) = c + 1 + n by omega]; exact e3, fun b ρ w H => ?_⟩
    obtain ⟨H1, k1⟩ := H.rsv e1
    obtain ⟨H2, k2⟩ := w1 b ρ w H1
    rw [show c + (n + 1) = c + 1 + n by omega]
    exact ⟨H2, k1.trans k2 (by omega)⟩
theorem drawn_ok (hm : P.follows .mixedOrders = true) : DrawnOK X P := by
  intro nt one id ops f hf
  unfold cDrawn at hf
  rw [fLL_eq, fL_eq] at hf
  rcases bif_cases hf with ⟨hb, hf⟩ | ⟨_, hf⟩
  case inr => cases hf; exact csnd_bad
  rw [Bool.and_eq_true, fRs_eq] at hb
  obtain ⟨hch, hck⟩ := hb
  have hC := chk_ok hck
  split at hf
  case h_2 => cases hf; exact csnd_bad
  rename_i s hs
  cases hf
  obtain ⟨s1, s2, hs1, hs2, rfl⟩ := sqB_mk hs
  intro cal hcal t hh cc df kn ke v' h' c' e
  have e1 : rsv (slot ops ops.size) hh cc (fun h1 c1 => sqS s1 s2 t cc cal t h1 h0 c1 df fun t h _ c => kn t h c df) = .fin v' h' c' := e
  obtain ⟨h1, e2, w1⟩ := rsv_ok (X := X) (P := P) e1
  obtain ⟨t2, e3, e4, g1, g2, g3⟩ := all_stp (X := X) hC _ _ _ _ (ixs_lt _) (fun i hi => by
    obtain ⟨q1, q2⟩ := mem_ixs.1 hi
    simp only [Bool.and_eq_true] at q2
    exact ⟨q2.1, q1⟩) hs1 e2
  have han : ∀ x, x ∈ (ixs ops fun i => !nonA ops i) ↔ x < ops.size ∧ nonA ops x = false := fun x => by rw [mem_ixs]; simp
  have hnd : (ixs ops fun i => !nonA ops i).Nodup := (ixs_lt _).imp fun h => Nat.ne_of_lt h
  have hPk : Pk X P nt ops t cc (ixs ops fun i => !nonA ops i) [] t2 h1 e3 (cc + slot ops ops.size) := fun i o ho hn hr _ => g1 i (mem_ixs.2 ⟨size_of ho, by simp [hn, hr]⟩) o ho
  obtain ⟨tF, hF, cF, ⟨_, hfin⟩, hR0⟩ := rest_fix (segs_rest (X := X) hC hcal _ _ _ _ _ _ _ hs2 hch (fun x hx => (by cases hx)) (fun a ha => (han a).1 ha) hPk e4)
  refine ⟨.nx, tF, hF, cF, df, hfin, fun w0 ρ a w r n Q ho hR hT hD hK => wpIn_region_any hm ?_⟩
  have hRd : HR X P w0 ρ hh cc { w with drawn := w.drawn + 1 } := hR.same rfl rfl rfl rfl
  obtain ⟨hR1, hkp⟩ := w1 _ _ _ hRd
  have hle1 := hR1.le
  have hslot : ∀ i, i < ops.size → erl ops i = true → slot ops i < slot ops ops.size := fun i hi he => slot_lt hi he
  refine any_of hC.down (fun L a' w' => ∃ l ad done t' h e c ρ' B, IS X P nt ops t cc (ixs ops fun i => !nonA ops i) w0 ρ hh cc a (fun t h c => t = tF ∧ h = hF ∧ c = cF) l ad done t' h e c ρ' B L a' w') ?_ ?_ _ _ _ _ (by rw [cnt_rep]; exact Nat.le_refl _) (by simp) (fun i hi => ?_) ?_
  · rintro L a' w' hs hall ⟨l, ad, done, t', h, e, c, ρ', B, S⟩
    cases l with
    | cons x l =>
      exfalso
      have h1 := S.nl x (by simp)
      have h2 := ((han x).1 (by rw [S.an]; simp)).1
      rw [hall x h2] at h1; cases h1
    | nil =>
      obtain ⟨hf, q1, rfl, rfl, rfl⟩ := S.rest
      have hmem : ∀ j, j ∈ (ixs ops fun i => erl ops i && !elm i ad) → j < ops.size ∧ erl ops j = true ∧ j ∉ ad := fun j hj => by
        obtain ⟨s1, s2⟩ := mem_ixs.1 hj
        simp only [Bool.and_eq_true, Bool.not_eq_true', elm_no] at s2
        exact ⟨s1, s2.1, s2.2⟩
      obtain ⟨B', k1, k2, k3, k4, k5⟩ := adopt_all _ _ _ _ q1 ((ixs_lt _).imp fun h => Nat.ne_of_lt h) (fun j hj => by
        obtain ⟨s1, s2, s3⟩ := hmem j hj
        obtain ⟨p, ty, n', z, u, z1, z2, z3, z4, z5⟩ := S.ey j s1 s2 (hall j s1) s3
        exact ⟨p, ty, n', z, u, z1, z2, z4, z5⟩) (fun j hj j' hj' hjj p q hp hq => by
        obtain ⟨s1, s2, s3⟩ := hmem j hj
        obtain ⟨y1, y2, y3⟩ := hmem j' hj'
        exact S.ed j j' p q s2 y2 (hall j s1) (hall j' y1) s3 y3 s1 y1 hjj hp hq) S.hr
      have hbw : Bel w0 w' := S.bb.chain S.bo S.hr.bel
      have hkp' : Kp hh hf cc := S.kp.trans k5 S.cl
      refine hK ρ' a' w' ⟨S.le, k1.back (by rw [k2]; exact hbw) (fun k hk => (k4 k).2 ⟨S.bo k hk, fun j hj p hp ee => ?_⟩) (fun k hk => k3 k (S.bn k hk)), ⟨by rw [S.sz]; exact hT.1, fun i hi hi2 => ?_⟩, by rw [S.df]; exact hD.mono S.le hkp' S.cl, hkp', S.cl, fun k hk => .inl hk⟩
      · obtain ⟨s1, s2, s3⟩ := hmem j hj
        obtain ⟨p', ty, n', z, u, z1, z2, z3, z4, z5⟩ := S.ey j s1 s2 (hall j s1) s3
        rw [hp] at z1; cases z1
        exact z3 (ee ▸ hk)
      · by_cases hex : ∃ (j : Nat) (oj : Oper), ops[j]? = some oj ∧ oj.dst = some i
        · obtain ⟨j, oj, hj, hd⟩ := hex
          exact S.va j oj i hj hd (hall j (size_of hj)) hi2
        · have hno : ∀ (j : Nat) (oj : Oper), ops[j]? = some oj → oj.dst ≠ some i := fun j oj hj hd => hex ⟨j, oj, hj, hd⟩
          obtain ⟨x, x1, x2⟩ := hT.2 i hi hi2
          refine ⟨x, ?_, ?_⟩
          · rw [S.rs i fun j oj hj hd => absurd hd (hno j oj hj)]; exact x1
          · rw [S.kt i hi2 hno]; exact den_mono S.le _ x2
  · rintro L a' w' i hs hDn ⟨l, ad, done, t', h, e, c, ρ', B, S⟩ hi
    refine is_step hC hT (fun k hk => (hR.noc k hk).1) han hnd S hs hDn hi
  · rw [Array.getD_eq_getD_getElem?, Array.getElem?_replicate] at hi
    split at hi <;> cases hi
  · have hfalse : ∀ j, (Array.replicate ops.size false).getD j false = false := fun j => by
      rw [Array.getD_eq_getD_getElem?, Array.getElem?_replicate]
      split <;> rfl
    have hbase : HR X P ⟨w0.w, w0.out, w0.lt, fun k => w0.no k ∨ (cc ≤ k ∧ k < cc + slot ops ops.size)⟩ ρ h1 (cc + slot ops ops.size) { w with drawn := w.drawn + 1 } :=
      hR1.base ⟨hR1.bel.os, hR1.bel.tape, hR1.bel.output, hR1.bel.size, hR1.bel.block⟩ (fun k p hk hx => (hR1.dom k p hk).2.1 hx) (fun k hk => by
        rcases hk with hk | ⟨hk1, hk2⟩
        · exact hR1.noc k hk
        · refine ⟨hk2, ?_⟩
          cases hrk : ρ k with
          | none => rfl
          | some p => have := (hR.dom k p hrk).1; omega) fun k a A h1 h2 => (hR1.one k a A h1 h2).1
    refine ⟨_, [], [], t2, h1, e3, _, ρ, _, ⟨hR0, hPk, hch, fun x hx => (by cases hx), rfl, fun x hx => (by cases hx), fun x _ => hfalse x, fun x hx => (by cases hx), hbase, Bel.refl w0, fun k hk => hk, fun k hk => .inl hk, Le.refl _, hkp, by omega, rfl, rfl, fun j oj n hj hd hL => (by rw [hfalse] at hL; cases hL), fun n _ => rfl, fun n hn hh => ?_, fun i hi he _ => .inr ⟨by omega, by have := hslot i hi he; omega⟩, fun i hi he hL => (by rw [hfalse] at hL; cases hL), fun i j p q _ _ hL => (by rw [hfalse] at hL; cases hL)⟩⟩
    exact g2 n hn fun i _ o ho => hh i o ho
end
end Ev
end
section
namespace Ev
open Go Go.RowKit
set_option linter.unusedVariables false
set_option linter.unusedSimpArgs false
noncomputable def okR (r : R) : Bool := R.rec (motive := fun _ => Bool) (fun _ => false) (fun v _ _ => V.rec (motive_1 := fun _ => Bool) (motive_2 := fun _ => Unit) false false false false (fun _ => false) (fun _ _ => false) (fun _ => false) (fun _ _ _ _ _ => false) (fun _ _ => false) (fun _ _ => false) (fun _ => false) (fun _ _ _ _ _ => false) (fun _ _ => false) (fun b => b) (fun _ _ => false) (fun _ _ => false) () (fun _ _ _ _ => ()) v) r
theorem okR_fin {r : R} (h : okR r = true) : ∃ hh c, r = .fin (.b true) hh c := by
  cases r with
  | bad n => cases h
  | fin v hh c =>
    cases v with
    | b x => cases x with | true => exact ⟨hh, c, rfl⟩ | false => cases h
    | _ => cases h
/-- a row of the table -/
inductive Rw where
  | kn (g : Nat) (v : V) | jn (g : Nat) | ar (g : Nat) (f : List V → HP → Nat → KV → R → R)
noncomputable def arOf (x : CF) (f : List V → HP → Nat → KV → R → R) : CF := CF.rec (motive := fun _ => CF) .no .no (fun _ => .no) (fun rs b l => .ar f rs b l) (fun _ _ _ _ => .no) x
noncomputable def ftR (P : Program) : List Rw → T CF
  | [] => table P
  | .kn g v :: l => T.setK .no (.kn v) (ftR P l) g fun t => t
  | .jn g :: l => T.setK .no .jn (ftR P l) g fun t => t
  | .ar g f :: l => T.setK .no (arOf (T.get .no (table P) g) f) (ftR P l) g fun t => t
section
variable (P : Program) (X : Spx)
def RwOK : Rw → Prop
  | .kn g v => KnOK P g v
  | .jn g => JnOK P g
  | .ar g f => ArOK P X g f
end
section
variable {P : Program} {X : Spx}
theorem ftR_ok : ∀ {l : List Rw}, (∀ r ∈ l, RwOK P X r) → FTok P X (ftR P l)
  | [], _ => table_ok P X
  | r :: l, h => fun j => by
    have ih := ftR_ok (l := l) (fun x hx => h x (List.mem_cons_of_mem _ hx)) j
    have hr := h r (by simp)
    cases r with
    | kn g v =>
      have e : T.get CF.no (ftR P (.kn g v :: l)) j = if j = g then .kn v else T.get CF.no (ftR P l) j := get_setK _ _ _
      rw [e]
      split
      · rename_i e; subst e
        exact ⟨fun _ _ _ hh => (by cases hh), fun v hh => (by cases hh; exact hr), fun hh => (by cases hh), fun _ _ _ _ hh => (by cases hh)⟩
      · exact ih
    | jn g =>
      have e : T.get CF.no (ftR P (.jn g :: l)) j = if j = g then .jn else T.get CF.no (ftR P l) j := get_setK _ _ _
      rw [e]
      split
      · rename_i e; subst e
        exact ⟨fun _ _ _ hh => (by cases hh), fun v hh => (by cases hh), fun _ => hr, fun _ _ _ _ hh => (by cases hh)⟩
      · exact ih
    | ar g f =>
      have e : T.get CF.no (ftR P (.ar g f :: l)) j = if j = g then arOf (T.get .no (table P) g) f else T.get CF.no (ftR P l) j := get_setK _ _ _
      rw [e]
      split
      · rename_i e; subst e
        have ht := table_ok P X j
        cases hT : T.get CF.no (table P) j with
        | fn rs b r =>
          refine ⟨fun _ _ _ hh => (by cases hh), fun v hh => (by cases hh), fun hh => (by cases hh), fun f' rs' b' r' hh => ?_⟩
          cases hh
          obtain ⟨fn, h1, h2⟩ := ht.1 _ _ _ hT
          exact ⟨fn, h1, h2, hr⟩
        | _ => exact ⟨fun _ _ _ hh => (by cases hh), fun v hh => (by cases hh), fun hh => (by cases hh), fun _ _ _ _ hh => (by cases hh)⟩
      · exact ih
/-- a run that tells true -/
theorem kn_of (hm : P.follows .mixedOrders = true) {l : List Rw} (hl : ∀ r ∈ l, RwOK P X r) {n f : Nat} (e : okR (run (ftR P l) (n + 1) f) = true) : KnOK P f (.b true) := by
  obtain ⟨hh, c, e⟩ := okR_fin e
  have hD := drawn_ok (X := X) hm
  have hft := ftR_ok hl
  obtain ⟨fn, bd, hfn, hname, hb, _⟩ := callE_ok hD hft (callN_ok hD hft n) (show callE slots (ftR P l) (callN slots (ftR P l) n) f [] h0 0 (fun v h c => .fin v h c) = .fin (.b true) hh c from e)
  exact ⟨fn, bd, .bool true, hfn, hname, hb, fun ρ => by simp [den], fun w => run_ok hD hft (x := .bool true) e (fun ρ => by simp [den]) w⟩
/-- what that says of its calls -/
theorem KnOK.calls {g : Nat} (h : KnOK P g (.b true)) (w : World) : Calls P g #[] w fun e w' => e = .returned (.bool true) ∧ Below w.heap.size w w' := by
  obtain ⟨fn, bd, x, h1, h2, h3, h4, h5⟩ := h
  have := h4 fun _ => none
  simp only [den, Option.some.injEq] at this
  subst this
  exact h5 w
end
end Ev
end
section
namespace Ev
open Go Go.RowKit
set_option linter.unusedVariables false
set_option linter.unusedSimpArgs false
/-- what a call may turn of a special thing -/
structure Trn (X : Spx) (A : Nat) (w w' : World) : Prop where
  os : w'.os = w.os
  tape : w'.tape = w.tape
  output : w'.output = w.output
  size : w.heap.size ≤ w'.heap.size
  block : ∀ k, k < w.heap.size → ¬ X.Ft A w k → w'.heap[k]? = w.heap[k]?
  news : ∀ k, X.Ft A w' k → X.Ft A w k ∨ w.heap.size ≤ k
section
variable {X : Spx} {P : Program} {w0 : Base} {w w' : World} {ρ : Rho} {h : HP} {c : Nat}
/-- a special thing has turned -/
theorem HR.turn (H : HR X P w0 ρ h c w) {a : Nat} {A : Nat × Nat} {s s' : AS} (ha : ρ a = some A) (hs : hget h a = .sp s) (hI : X.In A.1 s' w') (ht : Trn X A.1 w w') : HR X P w0 ρ (Ev.hs h a (.sp s')) c w' ∧ Kp h (Ev.hs h a (.sp s')) c := by
  have hac := (H.dom a A ha).1
  have hle := H.le
  have hg : ∀ k, k < c → hget (Ev.hs h a (.sp s')) k = if k = a then .sp s' else hget h k := fun k hk => hget_hs _ h (by omega) (by omega)
  have hgx : ∀ k p, ρ k = some p → hget (Ev.hs h a (.sp s')) k ≠ .x → hget h k ≠ .x := fun k p hk hx => by
    rw [hg k (H.dom _ _ hk).1] at hx
    split at hx
    · rename_i e; rw [e, hs]; exact Blk.noConfusion
    · exact hx
  -- another thing that is live lies as it lay
  have lie : ∀ k p, ρ k = some p → hget h k ≠ .x → k ≠ a → w'.heap[p.1]? = w.heap[p.1]? := fun k p hk hx hka => ht.block _ (H.dom _ _ hk).2.2 (H.sep a s A hs ha k p hx hka hk)
  have hFt : ∀ k a' A', k ≠ a → hget h k = .sp a' → ρ k = some A' → X.In A'.1 a' w' ∧ ∀ j, X.Ft A'.1 w' j ↔ X.Ft A'.1 w j := fun k a' A' hka hk hA' => by
    have := H.blk k (H.dom _ _ hA').1; rw [hk] at this
    obtain ⟨q, h1, h2⟩ := this
    rw [hA'] at h1; cases h1
    exact X.mv h2 fun j hj => ht.block _ (X.lt h2 hj) fun hj' => (H.one k a' A' hk hA').2 a s A (Ne.symm hka) hs ha j hj hj'
  have hold : ∀ j, X.Ft A.1 w' j → X.Ft A.1 w j ∨ w.heap.size ≤ j := ht.news
  refine ⟨⟨⟨ht.os.trans H.bel.os, ht.tape.trans H.bel.tape, ht.output.trans H.bel.output, Nat.le_trans H.bel.size ht.size, fun k hk => (ht.block k (Nat.lt_of_lt_of_le (w0.lt k hk) H.bel.size) fun hf => (H.one a s A hs ha).1 k hf hk).trans (H.bel.block k hk)⟩, H.le,
    fun k q hk => ⟨(H.dom k q hk).1, fun hx => (H.dom k q hk).2.1 (hgx k q hk hx), Nat.lt_of_lt_of_le (H.dom k q hk).2.2 ht.size⟩, fun k k' q q' hk hk' h1 h2 e => H.inj k k' q q' hk hk' (hgx _ _ hk h1) (hgx _ _ hk' h2) e, fun k hk => ?_, fun k s1 A1 hb hA k' p' hx' hne hk' => ?_, fun k s1 A1 hk hA => ⟨fun j hj hout => ?_, fun k' s2 A2 hne hk' hA' j hj hj' => ?_⟩, H.noc⟩, Kp.hs hle (by omega) fun _ hh => by rw [hs] at hh; cases hh⟩
  · rw [hg k hk]
    split
    · rename_i e; subst e; exact ⟨A, ha, hI⟩
    · rename_i hka
      by_cases hkx : hget h k = .x
      · rw [hkx]; trivial
      · exact (H.blk k hk).mono (Le.refl _) (fun q hq => lie k q hq hkx hka) fun a' q hsp hq hI' => (hFt k a' q hka hsp hq).1
  · rw [hg k (H.dom _ _ hA).1] at hb
    have hx2 := hgx k' p' hk' hx'
    split at hb
    · rename_i e; subst e
      rw [ha] at hA; cases hA
      intro hf
      rcases hold _ hf with h1 | h1
      · exact H.sep _ s A hs ha k' p' hx2 hne hk' h1
      · have := (H.dom _ _ hk').2.2; omega
    · rename_i hka
      rw [(hFt k s1 A1 hka hb hA).2]
      exact H.sep k s1 A1 hb hA k' p' hx2 hne hk'
  · rw [hg k (H.dom _ _ hA).1] at hk
    split at hk
    · rename_i e; subst e
      rw [ha] at hA; cases hA
      rcases hold _ hj with h1 | h1
      · exact (H.one _ s A hs ha).1 j h1 hout
      · have := w0.lt j hout; have := H.bel.size; omega
    · rename_i hka
      exact (H.one k s1 A1 hk hA).1 j (((hFt k s1 A1 hka hk hA).2 j).1 hj) hout
  · rw [hg k (H.dom _ _ hA).1] at hk
    rw [hg k' (H.dom _ _ hA').1] at hk'
    split at hk
    · rename_i e; subst e
      rw [ha] at hA; cases hA
      split at hk'
      · rename_i e; exact hne e
      · rename_i hka
        have h2 := ((hFt k' s2 A2 hka hk' hA').2 j).1 hj'
        rcases hold _ hj with h1 | h1
        · exact (H.one _ s A hs ha).2 k' s2 A2 hne hk' hA' j h1 h2
        · have hI2 := H.blk k' (H.dom _ _ hA').1
          rw [hk'] at hI2
          obtain ⟨q, q1, q2⟩ := hI2
          rw [q1] at hA'; cases hA'
          have := X.lt q2 h2; omega
    · rename_i hka
      have h1 := ((hFt k s1 A1 hka hk hA).2 j).1 hj
      split at hk'
      · rename_i e; subst e
        rw [ha] at hA'; cases hA'
        rcases hold _ hj' with h2 | h2
        · exact (H.one k s1 A1 hk hA).2 _ s A hne hs ha j h1 h2
        · have hI2 := H.blk k (H.dom _ _ hA).1
          rw [hk] at hI2
          obtain ⟨q, q1, q2⟩ := hI2
          rw [q1] at hA; cases hA
          have := X.lt q2 h1; omega
      · rename_i hka'
        exact (H.one k s1 A1 hk hA).2 k' s2 A2 hne hk' hA' j h1 (((hFt k' s2 A2 hka' hk' hA').2 j).1 hj')
/-- a special thing that is made -/
theorem HR.newsp (H : HR X P w0 ρ h c w) (hc : c ≤ 65535) {A : Nat} {s : AS} (hb : Below w.heap.size w w') (hA : w.heap.size ≤ A) (hA' : A < w'.heap.size) (hI : X.In A s w') (hF : ∀ j, X.Ft A w' j → w.heap.size ≤ j) :
    HR X P w0 (up ρ c (A, 0)) (Ev.hs h c (.sp s)) (c + 1) w' ∧ Le ρ (up ρ c (A, 0)) ∧ Kp h (Ev.hs h c (.sp s)) c := by
  have H1 := H.below hb
  have hg : ∀ k, k < c + 1 → hget (Ev.hs h c (.sp s)) k = if k = c then .sp s else hget h k := fun k hk => hget_hs _ h (by omega) (by omega)
  have hdom : ∀ k p, up ρ c (A, 0) k = some p → (k = c ∧ p = (A, 0)) ∨ (k ≠ c ∧ ρ k = some p) := fun k p hk => by
    unfold up at hk
    split at hk
    · exact .inl ⟨by assumption, (Option.some.inj hk).symm⟩
    · exact .inr ⟨by assumption, hk⟩
  have hFt : ∀ k a A', hget h k = .sp a → ρ k = some A' → ∀ j, X.Ft A'.1 w' j → j < w.heap.size := fun k a A' hk hA' j hj => by
    have hI2 := H.blk k (H.dom _ _ hA').1
    rw [hk] at hI2
    obtain ⟨q, q1, q2⟩ := hI2
    rw [q1] at hA'; cases hA'
    exact X.lt q2 (((X.mv q2 fun i hi => hb.block i (X.lt q2 hi)).2 j).1 hj)
  refine ⟨⟨H1.bel, by omega, fun k p hk => ?_, fun k k' p p' hk hk' hx hx' e => ?_, fun k hk => ?_, fun k a1 A1 hb' hA1 k' p' hx' hne hk' => ?_, fun k a1 A1 hk hA1 => ⟨fun j hj hout => ?_, fun k' a2 A2 hne hk' hA2 j hj hj' => ?_⟩, H1.noc_up _⟩, H.le_up _, Kp.new H hc⟩
  · rcases hdom k p hk with ⟨rfl, rfl⟩ | ⟨h1, h2⟩
    · exact ⟨by omega, fun _ hh => absurd (w0.lt _ hh) (by have := H.bel.size; simp only; omega), hA'⟩
    · obtain ⟨g1, g2, g3⟩ := H1.dom k p h2
      exact ⟨by omega, fun hx => g2 (by rw [hg k (by omega), if_neg h1] at hx; exact hx), g3⟩
  · rcases hdom k p hk with ⟨rfl, rfl⟩ | ⟨h1, h2⟩ <;> rcases hdom k' p' hk' with ⟨rfl, rfl⟩ | ⟨h3, h4⟩
    · rfl
    · have := (H.dom _ _ h4).2.2; simp only at e; omega
    · have := (H.dom _ _ h2).2.2; simp only at e; omega
    · have d1 := (H.dom _ _ h2).1
      have d2 := (H.dom _ _ h4).1
      rw [hg k (by omega), if_neg h1] at hx
      rw [hg k' (by omega), if_neg h3] at hx'
      exact H.inj k k' p p' h2 h4 hx hx' e
  · rw [hg k hk]
    split
    · rename_i e; subst e; exact ⟨(A, 0), up_self _ _ _, hI⟩
    · rename_i hne
      have hk' : k < c := by omega
      exact (H1.blk k hk').mono (H.le_up _) (fun _ _ => rfl) fun _ _ _ _ hI => hI
  · rcases hdom k A1 hA1 with ⟨rfl, rfl⟩ | ⟨h1, h2⟩
    · rcases hdom k' p' hk' with ⟨h3, _⟩ | ⟨h3, h4⟩
      · exact absurd h3 hne
      · intro hf
        have := hF _ hf
        have := (H.dom _ _ h4).2.2; omega
    · have d1 := (H.dom _ _ h2).1
      rw [hg k (by omega), if_neg h1] at hb'
      rcases hdom k' p' hk' with ⟨rfl, rfl⟩ | ⟨h3, h4⟩
      · intro hf
        have := hFt k a1 A1 hb' h2 _ hf; simp only at this; omega
      · have d2 := (H.dom _ _ h4).1
        rw [hg k' (by omega), if_neg h3] at hx'
        exact H1.sep k a1 A1 hb' h2 k' p' hx' hne h4
  · rcases hdom k A1 hA1 with ⟨rfl, rfl⟩ | ⟨h1, h2⟩
    · have := hF _ hj
      have := w0.lt j hout; have := H.bel.size; omega
    · have d1 := (H.dom _ _ h2).1
      rw [hg k (by omega), if_neg h1] at hk
      exact (H1.one k a1 A1 hk h2).1 j hj hout
  · rcases hdom k A1 hA1 with ⟨rfl, rfl⟩ | ⟨h1, h2⟩ <;> rcases hdom k' A2 hA2 with ⟨h3, h5⟩ | ⟨h3, h4⟩
    · exact hne h3
    · have d2 := (H.dom _ _ h4).1
      rw [hg k' (by omega), if_neg h3] at hk'
      have := hFt k' a2 A2 hk' h4 _ hj'
      have := hF _ hj; omega
    · have d1 := (H.dom _ _ h2).1
      rw [hg k (by omega), if_neg h1] at hk
      subst h5
      have := hFt k a1 A1 hk h2 _ hj
      have := hF _ hj'; omega
    · have d1 := (H.dom _ _ h2).1
      have d2 := (H.dom _ _ h4).1
      rw [hg k (by omega), if_neg h1] at hk
      rw [hg k' (by omega), if_neg h3] at hk'
      exact (H1.one k a1 A1 hk h2).2 k' a2 A2 hne hk' h4 j hj hj'
end
end Ev
end
section
namespace Ev
open Go Go.RowKit
set_option linter.unusedVariables false
set_option linter.unusedSimpArgs false
noncomputable section
def asPz (v : V) (z : R) (q : Nat → Nat → R) : R := V.rec (motive_1 := fun _ => R → (Nat → Nat → R) → R) (motive_2 := fun _ => Unit) (fun z q => z) (fun z q => z) (fun z q => z) (fun z q => z) (fun _ z q => z) (fun _ _ z q => z) (fun _ z q => z) (fun _ _ _ _ _ z q => z) (fun _ _ z q => z) (fun _ _ z q => z) (fun _ z q => z) (fun _ _ _ _ _ z q => z) (fun _ _ z q => z) (fun _ z q => z) (fun a o z q => q a o) (fun _ _ z q => z) () (fun _ _ _ _ => ()) v z q
def asAz (v : V) (z : R) (q : List V → R) : R := V.rec (motive_1 := fun _ => R → (List V → R) → R) (motive_2 := fun _ => Unit) (fun z q => z) (fun z q => z) (fun z q => z) (fun z q => z) (fun _ z q => z) (fun _ _ z q => z) (fun _ z q => z) (fun _ _ _ _ _ z q => z) (fun _ _ z q => z) (fun l _ z q => q l) (fun _ z q => z) (fun _ _ _ _ _ z q => z) (fun _ _ z q => z) (fun _ z q => z) (fun _ _ z q => z) (fun _ _ z q => z) () (fun _ _ _ _ => ()) v z q
def asNz (v : V) (z : R) (q : Nat → Nat → R) : R := V.rec (motive_1 := fun _ => R → (Nat → Nat → R) → R) (motive_2 := fun _ => Unit) (fun z q => z) (fun z q => z) (fun z q => z) (fun z q => z) (fun _ z q => z) (fun _ _ z q => z) (fun _ z q => z) (fun _ _ _ _ _ z q => z) (fun _ _ z q => z) (fun _ _ z q => z) (fun _ z q => z) (fun _ _ _ _ _ z q => z) (fun _ _ z q => z) (fun _ z q => z) (fun _ _ z q => z) (fun k m z q => q k m) () (fun _ _ _ _ => ()) v z q
def asSz (v : V) (z : R) (q : List Nat → R) : R := V.rec (motive_1 := fun _ => R → (List Nat → R) → R) (motive_2 := fun _ => Unit) (fun z q => z) (fun z q => z) (fun z q => z) (fun z q => z) (fun _ z q => z) (fun _ _ z q => z) (fun _ z q => z) (fun _ _ _ _ _ z q => z) (fun _ _ z q => z) (fun _ _ z q => z) (fun l z q => q l) (fun _ _ _ _ _ z q => z) (fun _ _ z q => z) (fun _ z q => z) (fun _ _ z q => z) (fun _ _ z q => z) () (fun _ _ _ _ => ()) v z q
def spB (b : Blk) (z : R) (q : AS → R) : R := Blk.rec (motive := fun _ => R → (AS → R) → R) (fun z _ => z) (fun z _ => z) (fun s _ q => q s) (fun _ _ _ _ z _ => z) (fun _ _ _ _ _ z _ => z) (fun _ _ _ _ z _ => z) (fun _ _ _ z _ => z) b z q
def aS (s : AS) (q : Nat → List Nat → Nat → Bool → Nat → R) : R := AS.rec (motive := fun _ => (Nat → List Nat → Nat → Bool → Nat → R) → R) (fun n es m r f q => q n es m r f) s q
def l1 (l : List V) (z : R) (q : V → List V → R) : R := List.rec (motive := fun _ => R → (V → List V → R) → R) (fun z _ => z) (fun v l _ _ q => q v l) l z q
def l0 (l : List V) (z : R) (q : R) : R := List.rec (motive := fun _ => R → R → R) (fun _ q => q) (fun _ _ _ z _ => z) l z q
def nK (kd : Nat) (v : V) (z : R) (q : Nat → R) : R := asNz v z fun k m => ifT (Nat.beq k kd) (q m) z
def n3 (v : V) (z : R) (q : Nat → R) : R := nK (nat_lit 3) v z q
def iff (b : Bool) (z : R) (q : R) : R := ifT b q z
/-- a pointer to an arena -/
def pA (v : V) (h : HP) (z : R) (q : Nat → AS → R) : R := asPz v z fun a o => iff (Nat.beq o (nat_lit 0)) z (spB (hget h a) z fun s => q a s)
/-- a view upon an arena -/
def vA (v : V) (h : HP) (z : R) (q : Nat → AS → Nat → Nat → R) : R := asAz v z fun l => l1 l z fun x l => l1 l z fun y l => l1 l z fun w l => l0 l z (pA x h z fun a s => n3 y z fun va => n3 w z fun vs => q a s va vs)
/-- is a row of pages in it? -/
def pgs (es : List Nat) (x y : Nat) : Bool := List.rec (motive := fun _ => Bool → Nat → Nat → Nat → Bool) (fun _ _ _ _ => false) (fun e _ ih b lo x y => Bool.rec (motive := fun _ => Bool) (ih true e x y) (ifT (Nat.ble lo x) (ifT (Nat.blt y e) true (ih false e x y)) false) b) es false (nat_lit 0) x y
/-- are k bytes there, at a? (not all that are are found) -/
def thr (n : Nat) (es : List Nat) (a k : Nat) : Bool := ifT (Nat.ble (Nat.add a k) (Nat.mul n (nat_lit 4096))) (ifT (Nat.beq k (nat_lit 0)) true (pgs es (Nat.div a (nat_lit 4096)) (Nat.div (Nat.sub (Nat.add a k) (nat_lit 1)) (nat_lit 4096)))) false
def p8 (k : Nat) : Nat := Nat.pow (nat_lit 2) (Nat.mul (nat_lit 8) k)
def gW (m a k : Nat) : Nat := Nat.mod (Nat.shiftRight m (Nat.mul (nat_lit 8) a)) (p8 k)
def sW (m a k x : Nat) : Nat := Nat.lor (Nat.lor (Nat.shiftLeft (Nat.shiftRight m (Nat.mul (nat_lit 8) (Nat.add a k))) (Nat.mul (nat_lit 8) (Nat.add a k))) (Nat.shiftLeft x (Nat.mul (nat_lit 8) a))) (Nat.mod m (p8 a))
def byL (k : Nat) : Nat → List Nat := Nat.rec (motive := fun _ => Nat → List Nat) (fun _ => []) (fun _ ih x => Nat.mod x (nat_lit 256) :: ih (Nat.div x (nat_lit 256))) k
def nuL (l : List Nat) : Nat := List.rec (motive := fun _ => Nat) (nat_lit 0) (fun y _ ih => Nat.add (Nat.mod y (nat_lit 256)) (Nat.mul (nat_lit 256) ih)) l
def reN (k y : Nat) : Nat := Nat.rec (motive := fun _ => Nat) (nat_lit 0) (fun _ ih => Nat.add (Nat.mod y (nat_lit 256)) (Nat.mul (nat_lit 256) ih)) k
def reZ (k y : Nat) : Nat := ifT (Nat.beq y (nat_lit 0)) (nat_lit 0) (reN k y)
def whl (k : Nat) : Bool := ifT (Nat.beq k (nat_lit 1)) true (ifT (Nat.beq k (nat_lit 2)) true (ifT (Nat.beq k (nat_lit 4)) true (Nat.beq k (nat_lit 8))))
def okV : V := .i (nat_lit 3) (nat_lit 0)
/-! by address -/
def aLd (s : AS) (p k : Nat) (z : R) (q : Nat → R) : R := aS s fun n es m _ _ => iff (whl k) z (iff (thr n es p k) z (fN (gW m p k) q))
def aBy (s : AS) (p k : Nat) (z : R) (q : List Nat → R) : R := aS s fun n es m _ _ => iff (thr n es p k) z (fL (byL k (gW m p k)) q)
def aWr (s : AS) (p k x : Nat) (z : R) (q : AS → R) : R := aS s fun n es m r f => iff (thr n es p k) z (fN (sW m p k x) fun m => q (.mk n es m r f))
def aTh (s : AS) (p k : Nat) (z : R) (q : R) : R := aS s fun n es _ _ _ => iff (thr n es p k) z q
/-- one window onto another -/
def aCp (s : AS) (p r k : Nat) (z : R) (q : AS → R) : R := aS s fun n es m _ _ => iff (thr n es r k) z (aWr s p k (gW m r k) z q)
/-! by view: the address -/
def adr (va vs a k : Nat) (z : R) (q : Nat → R) : R := iff (Nat.ble (Nat.add a k) vs) z (iff (Nat.ble va (nat_lit 4294967296)) z (iff (Nat.ble vs (nat_lit 4294967296)) z (fN (Nat.add va a) q)))
abbrev AF := List V → HP → Nat → KV → R → R
def xVLoad : AF := fun l h c k z => l1 l z fun v l => vA v h z fun _ s va vs => l1 l z fun x l => n3 x z fun a => l1 l z fun y l => l0 l z (n3 y z fun n => adr va vs a n z fun p => aLd s p n z fun x => k (.tu [.i (nat_lit 7) x, okV]) h c)
def xVStore : AF := fun l h c k z => l1 l z fun v l => vA v h z fun A s va vs => l1 l z fun x l => n3 x z fun a => l1 l z fun y l => n3 y z fun n => l1 l z fun w l => l0 l z (nK (nat_lit 7) w z fun x => adr va vs a n z fun p => iff (whl n) z (aWr s p n (Nat.mod x (p8 n)) z fun s => hset (.sp s) h A fun h => k okV h c))
def xVBytes : AF := fun l h c k z => l1 l z fun v l => vA v h z fun _ s va vs => l1 l z fun x l => n3 x z fun a => l1 l z fun y l => l0 l z (n3 y z fun n => adr va vs a n z fun p => aBy s p n z fun x => k (.tu [.s x, okV]) h c)
def xVPut : AF := fun l h c k z => l1 l z fun v l => vA v h z fun A s va vs => l1 l z fun x l => n3 x z fun a => l1 l z fun y l => l0 l z (asSz y z fun b => adr va vs a (len b) z fun p => aWr s p (len b) (nuL b) z fun s => hset (.sp s) h A fun h => k okV h c)
def xVFill : AF := fun l h c k z => l1 l z fun v l => vA v h z fun A s va vs => l1 l z fun x l => n3 x z fun a => l1 l z fun y l => n3 y z fun n => l1 l z fun w l => l0 l z (nK (nat_lit 4) w z fun x => iff (Nat.blt x (nat_lit 256)) z (adr va vs a n z fun p => aWr s p n (reZ n x) z fun s => hset (.sp s) h A fun h => k okV h c))
def xVCopy : AF := fun l h c k z => l1 l z fun v l => vA v h z fun A s va vs => l1 l z fun x l => n3 x z fun a => l1 l z fun y l => n3 y z fun b => l1 l z fun w l => l0 l z (n3 w z fun n => adr va vs a n z fun p => adr va vs b n z fun q => iff (Nat.beq p q) (aCp s p q n z fun s => hset (.sp s) h A fun h => k okV h c) z)
def xVPart : AF := fun l h c k z => l1 l z fun v l => vA v h z fun A s va vs => l1 l z fun x l => n3 x z fun a => l1 l z fun y l => l0 l z (n3 y z fun n => adr va vs a n z fun p => aTh s p n z (k (.tu [.ag [.p A (nat_lit 0), .i (nat_lit 3) p, .i (nat_lit 3) n], okV]) h c))
def xOf : AF := fun l h c k z => l1 l z fun v l => pA v h z fun A s => l1 l z fun x l => n3 x z fun p => l1 l z fun y l => l0 l z (n3 y z fun n => aTh s p n z (k (.tu [.ag [.p A (nat_lit 0), .i (nat_lit 3) p, .i (nat_lit 3) n], okV]) h c))
def xALoad : AF := fun l h c k z => l1 l z fun v l => pA v h z fun _ s => l1 l z fun x l => n3 x z fun p => l1 l z fun y l => l0 l z (n3 y z fun n => aLd s p n z fun x => k (.tu [.i (nat_lit 7) x, okV]) h c)
def xAStore : AF := fun l h c k z => l1 l z fun v l => pA v h z fun A s => l1 l z fun x l => n3 x z fun p => l1 l z fun y l => n3 y z fun n => l1 l z fun w l => l0 l z (nK (nat_lit 7) w z fun x => iff (whl n) z (aWr s p n (Nat.mod x (p8 n)) z fun s => hset (.sp s) h A fun h => k okV h c))
def xABytes : AF := fun l h c k z => l1 l z fun v l => pA v h z fun _ s => l1 l z fun x l => n3 x z fun p => l1 l z fun y l => l0 l z (n3 y z fun n => aBy s p n z fun x => k (.tu [.s x, okV]) h c)
def xAPut : AF := fun l h c k z => l1 l z fun v l => pA v h z fun A s => l1 l z fun x l => n3 x z fun p => l1 l z fun y l => l0 l z (asSz y z fun b => aWr s p (len b) (nuL b) z fun s => hset (.sp s) h A fun h => k okV h c)
def xAFill : AF := fun l h c k z => l1 l z fun v l => pA v h z fun A s => l1 l z fun x l => n3 x z fun p => l1 l z fun y l => n3 y z fun n => l1 l z fun w l => l0 l z (nK (nat_lit 4) w z fun x => iff (Nat.blt x (nat_lit 256)) z (aWr s p n (reZ n x) z fun s => hset (.sp s) h A fun h => k okV h c))
def xACopy : AF := fun l h c k z => l1 l z fun v l => pA v h z fun A s => l1 l z fun x l => n3 x z fun p => l1 l z fun y l => n3 y z fun q => l1 l z fun w l => l0 l z (n3 w z fun n => iff (Nat.beq p q) (aCp s p q n z fun s => hset (.sp s) h A fun h => k okV h c) (aTh s p n z (k okV h c)))
def xACap : AF := fun l h c k z => l1 l z fun v l => l0 l z (pA v h z fun _ s => aS s fun n _ _ _ _ => k (.i (nat_lit 3) n) h c)
def xANew : AF := fun l h c k z => l1 l z fun v l => l0 l z (n3 v z fun n => iff (Nat.ble n (nat_lit 1048576)) z (newK (.sp (.mk n [] (nat_lit 0) false (nat_lit 0))) h c fun h c' => k (.p c (nat_lit 0)) h c'))
end
/-! what they come to -/
section
variable {v w : V} {z : R} {h : HP} {c : Nat} {b : Blk} {l : List V}
theorem asPz_or {q : Nat → Nat → R} : asPz v z q = z ∨ ∃ a o, v = .p a o ∧ asPz v z q = q a o := by cases v <;> first | exact .inl rfl | exact .inr ⟨_, _, rfl, rfl⟩
theorem asAz_or {q : List V → R} : asAz v z q = z ∨ ∃ l, v = .ag l ∧ asAz v z q = q l := by cases v <;> first | exact .inl rfl | exact .inr ⟨_, rfl, rfl⟩
theorem asSz_or {q : List Nat → R} : asSz v z q = z ∨ ∃ l, v = .s l ∧ asSz v z q = q l := by cases v <;> first | exact .inl rfl | exact .inr ⟨_, rfl, rfl⟩
theorem asNz_or {q : Nat → Nat → R} : asNz v z q = z ∨ ∃ k m, v = .i k m ∧ asNz v z q = q k m := by cases v <;> first | exact .inl rfl | exact .inr ⟨_, _, rfl, rfl⟩
theorem spB_or {q : AS → R} : spB b z q = z ∨ ∃ s, b = .sp s ∧ spB b z q = q s := by cases b <;> first | exact .inl rfl | exact .inr ⟨_, rfl, rfl⟩
theorem l1_or {q : V → List V → R} : l1 l z q = z ∨ ∃ v r, l = v :: r ∧ l1 l z q = q v r := by cases l <;> first | exact .inl rfl | exact .inr ⟨_, _, rfl, rfl⟩
theorem l0_or {q : R} : l0 l z q = z ∨ (l = [] ∧ l0 l z q = q) := by cases l <;> first | exact .inl rfl | exact .inr ⟨rfl, rfl⟩
theorem iff_or {b : Bool} {q : R} : iff b z q = z ∨ (b = true ∧ iff b z q = q) := by cases b <;> first | exact .inl rfl | exact .inr ⟨rfl, rfl⟩
theorem iff_or' {b : Bool} {q : R} : (b = false ∧ iff b z q = z) ∨ (b = true ∧ iff b z q = q) := by cases b <;> first | exact .inl ⟨rfl, rfl⟩ | exact .inr ⟨rfl, rfl⟩
theorem aS_eq {q : Nat → List Nat → Nat → Bool → Nat → R} (s : AS) : ∃ n es m r f, s = .mk n es m r f ∧ aS s q = q n es m r f := by cases s; exact ⟨_, _, _, _, _, rfl, rfl⟩
theorem nK_or {kd : Nat} {q : Nat → R} : nK kd v z q = z ∨ ∃ m, v = .i kd m ∧ nK kd v z q = q m := by
  unfold nK
  rcases asNz_or (v := v) (z := z) (q := fun k m => ifT (Nat.beq k kd) (q m) z) with h | ⟨k, m, rfl, h⟩
  · exact .inl h
  · rw [h]
    cases hb : Nat.beq k kd with
    | false => exact .inl rfl
    | true => rw [Nat.eq_of_beq_eq_true hb]; exact .inr ⟨m, rfl, rfl⟩
theorem pA_or {q : Nat → AS → R} : pA v h z q = z ∨ ∃ a s, v = .p a 0 ∧ hget h a = .sp s ∧ pA v h z q = q a s := by
  unfold pA
  rcases asPz_or (v := v) (z := z) (q := fun a o => iff (Nat.beq o (nat_lit 0)) z (spB (hget h a) z fun s => q a s)) with e | ⟨a, o, rfl, e⟩
  · exact .inl e
  · rw [e]
    rcases iff_or' (b := Nat.beq o (nat_lit 0)) (z := z) (q := spB (hget h a) z fun s => q a s) with ⟨_, e⟩ | ⟨e0, e⟩
    · rw [e]; exact .inl rfl
    · rw [e]
      have : o = 0 := Nat.eq_of_beq_eq_true e0
      subst this
      rcases spB_or (b := hget h a) (z := z) (q := fun s => q a s) with e | ⟨s, hs, e⟩
      · exact .inl e
      · exact .inr ⟨a, s, rfl, hs, e⟩
theorem vA_or {q : Nat → AS → Nat → Nat → R} : vA v h z q = z ∨ ∃ a s va vs, v = .ag [.p a 0, .i 3 va, .i 3 vs] ∧ hget h a = .sp s ∧ vA v h z q = q a s va vs := by
  unfold vA n3
  cases v with
  | ag l =>
    match l with
    | [] => exact .inl rfl
    | [_] => exact .inl rfl
    | [_, _] => exact .inl rfl
    | _ :: _ :: _ :: _ :: _ => exact .inl rfl
    | [x, y, w] =>
      show pA x h z _ = z ∨ ∃ a s va vs, _ ∧ _ ∧ pA x h z _ = _
      rcases pA_or (v := x) (h := h) (z := z) (q := fun a s => nK 3 y z fun va => nK 3 w z fun vs => q a s va vs) with e | ⟨a, s, rfl, hs, e⟩
      · exact .inl e
      · rw [e]
        rcases nK_or (kd := 3) (v := y) (z := z) (q := fun va => nK 3 w z fun vs => q a s va vs) with e | ⟨va, rfl, e⟩
        · exact .inl e
        · rw [e]
          rcases nK_or (kd := 3) (v := w) (z := z) (q := fun vs => q a s va vs) with e | ⟨vs, rfl, e⟩
          · exact .inl e
          · exact .inr ⟨a, s, va, vs, rfl, hs, e⟩
  | _ => exact .inl rfl
theorem adr_or {va vs a k : Nat} {q : Nat → R} : adr va vs a k z q = z ∨ (a + k ≤ vs ∧ va ≤ 4294967296 ∧ vs ≤ 4294967296 ∧ adr va vs a k z q = q (va + a)) := by
  unfold adr
  rcases iff_or' (b := Nat.ble (Nat.add a k) vs) (z := z) (q := iff (Nat.ble va (nat_lit 4294967296)) z (iff (Nat.ble vs (nat_lit 4294967296)) z (fN (Nat.add va a) q))) with ⟨_, e⟩ | ⟨h1, e⟩
  · exact .inl e
  rcases iff_or' (b := Nat.ble va (nat_lit 4294967296)) (z := z) (q := iff (Nat.ble vs (nat_lit 4294967296)) z (fN (Nat.add va a) q)) with ⟨_, e2⟩ | ⟨h2, e2⟩
  · exact .inl (e.trans e2)
  rcases iff_or' (b := Nat.ble vs (nat_lit 4294967296)) (z := z) (q := fN (Nat.add va a) q) with ⟨_, e3⟩ | ⟨h3, e3⟩
  · exact .inl (e.trans (e2.trans e3))
  exact .inr ⟨Nat.le_of_ble_eq_true h1, Nat.le_of_ble_eq_true h2, Nat.le_of_ble_eq_true h3, (e.trans (e2.trans e3)).trans fN_eq⟩
end
/-! bytes -/
def byM (m i : Nat) : UInt8 := UInt8.ofNat (m >>> (8 * i))
theorem ofNat_eq {a b : Nat} (h : ∀ j, j < 8 → a.testBit j = b.testBit j) : UInt8.ofNat a = UInt8.ofNat b := by
  apply UInt8.toNat_inj.1
  simp only [UInt8.toNat_ofNat']
  apply Nat.eq_of_testBit_eq
  intro j
  rw [Nat.testBit_mod_two_pow, Nat.testBit_mod_two_pow]
  by_cases hj : j < 8
  · rw [h j hj]
  · simp [hj]
theorem gW_eq (m a k : Nat) : gW m a k = (m >>> (8 * a)) % 2 ^ (8 * k) := rfl
theorem sW_eq (m a k x : Nat) : sW m a k x = (((m >>> (8 * (a + k))) <<< (8 * (a + k))) ||| (x <<< (8 * a))) ||| (m % 2 ^ (8 * a)) := rfl
/-- a window's byte -/
theorem byM_gW (m a k j : Nat) (hj : j < k) : byM (gW m a k) j = byM m (a + j) := by
  refine ofNat_eq fun b hb => ?_
  rw [gW_eq, Nat.testBit_shiftRight, Nat.testBit_mod_two_pow, Nat.testBit_shiftRight, Nat.testBit_shiftRight]
  rw [decide_eq_true (by omega), Bool.true_and]
  congr 1; omega
/-- a window laid -/
theorem byM_sW (m a k x i : Nat) (hx : x < 2 ^ (8 * k)) : byM (sW m a k x) i = if a ≤ i ∧ i < a + k then byM x (i - a) else byM m i := by
  have ht : ∀ j, (sW m a k x).testBit j = if 8 * a ≤ j ∧ j < 8 * (a + k) then x.testBit (j - 8 * a) else m.testBit j := fun j => by
    rw [sW_eq, Nat.testBit_or, Nat.testBit_or, Nat.testBit_shiftLeft, Nat.testBit_shiftLeft, Nat.testBit_shiftRight, Nat.testBit_mod_two_pow]
    by_cases h1 : j < 8 * a
    · rw [if_neg (by omega)]
      simp [h1, show ¬ 8 * (a + k) ≤ j by omega, show ¬ 8 * a ≤ j by omega]
    · by_cases h2 : j < 8 * (a + k)
      · rw [if_pos ⟨by omega, h2⟩]
        simp [h1, show ¬ 8 * (a + k) ≤ j by omega, show 8 * a ≤ j by omega]
      · rw [if_neg (by omega)]
        have : x.testBit (j - 8 * a) = false := Nat.testBit_lt_two_pow (Nat.lt_of_lt_of_le hx (Nat.pow_le_pow_right (by decide) (by omega)))
        simp [h1, this, show 8 * (a + k) ≤ j by omega, show 8 * (a + k) + (j - 8 * (a + k)) = j by omega]
  split
  · rename_i h
    refine ofNat_eq fun b hb => ?_
    rw [Nat.testBit_shiftRight, Nat.testBit_shiftRight, ht, if_pos (by omega)]
    congr 1; omega
  · rename_i h
    refine ofNat_eq fun b hb => ?_
    rw [Nat.testBit_shiftRight, Nat.testBit_shiftRight, ht, if_neg (by omega)]
theorem gW_lt (m a k : Nat) : gW m a k < 2 ^ (8 * k) := Nat.mod_lt _ (Nat.two_pow_pos _)
theorem nuL_lt : ∀ l : List Nat, nuL l < 2 ^ (8 * l.length)
  | [] => by simp [nuL]
  | y :: l => by
    have h1 := nuL_lt l
    show y % 256 + 256 * nuL l < _
    have h2 : y % 256 < 256 := Nat.mod_lt _ (by decide)
    rw [List.length_cons, show 8 * (l.length + 1) = 8 * l.length + 8 by omega, Nat.pow_add]
    omega
theorem byM_nuL : ∀ (l : List Nat) (j : Nat), j < l.length → byM (nuL l) j = UInt8.ofNat (l.getD j 0)
  | [], _, h => by simp at h
  | y :: l, 0, _ => by
    show UInt8.ofNat ((y % 256 + 256 * nuL l) >>> (8 * 0)) = UInt8.ofNat y
    apply UInt8.toNat_inj.1
    simp only [UInt8.toNat_ofNat', Nat.mul_zero, Nat.shiftRight_zero]
    omega
  | y :: l, j + 1, h => by
    rw [List.getD_cons_succ, ← byM_nuL l j (by simpa using h)]
    show UInt8.ofNat ((y % 256 + 256 * nuL l) >>> (8 * (j + 1))) = UInt8.ofNat (nuL l >>> (8 * j))
    have : (y % 256 + 256 * nuL l) >>> (8 * (j + 1)) = nuL l >>> (8 * j) := by
      rw [show 8 * (j + 1) = 8 + 8 * j by omega, Nat.shiftRight_add, Nat.shiftRight_eq_div_pow _ 8]
      congr 1
      omega
    rw [this]
theorem reN_eq (y : Nat) : ∀ k, reN k y = nuL (List.replicate k y)
  | 0 => rfl
  | k + 1 => by
    show y % 256 + 256 * reN k y = _
    rw [reN_eq y k]; rfl
theorem nuL_zero : ∀ k, nuL (List.replicate k 0) = 0
  | 0 => rfl
  | k + 1 => by
    show 0 % 256 + 256 * nuL (List.replicate k 0) = 0
    rw [nuL_zero k]
theorem reZ_eq (k y : Nat) : reZ k y = nuL (List.replicate k y) := by
  unfold reZ
  cases h : Nat.beq y (nat_lit 0) with
  | true =>
    have : y = 0 := Nat.eq_of_beq_eq_true h
    subst this
    rw [nuL_zero]; rfl
  | false => exact reN_eq y k
theorem byL_map : ∀ (k x : Nat), (byL k x).map UInt8.ofNat = (List.range k).map fun j => byM x j
  | 0, x => rfl
  | k + 1, x => by
    show UInt8.ofNat (x % 256) :: (byL k (x / 256)).map UInt8.ofNat = _
    rw [byL_map k, List.range_succ_eq_map, List.map_cons, List.map_map]
    congr 1
    · apply UInt8.toNat_inj.1
      simp only [byM, UInt8.toNat_ofNat', Nat.mul_zero, Nat.shiftRight_zero]
      omega
    · refine List.map_congr_left fun j _ => ?_
      show UInt8.ofNat ((x / 256) >>> (8 * j)) = UInt8.ofNat (x >>> (8 * (j + 1)))
      rw [show 8 * (j + 1) = 8 + 8 * j by omega, Nat.shiftRight_add, Nat.shiftRight_eq_div_pow _ 8]
/-- one byte more -/
theorem gW_succ (m a k : Nat) : gW m a (k + 1) = gW m a k + (byM m (a + k)).toNat * 2 ^ (8 * k) := by
  rw [gW_eq, gW_eq, show 8 * (k + 1) = 8 * k + 8 by omega, Nat.pow_add, Nat.mod_mul]
  congr 1
  rw [Nat.mul_comm]
  congr 1
  show _ = (UInt8.ofNat (m >>> (8 * (a + k)))).toNat
  rw [UInt8.toNat_ofNat', ← Nat.shiftRight_eq_div_pow, ← Nat.shiftRight_add]
  congr 2; omega
theorem whl_iff {k : Nat} (h : whl k = true) : k = 1 ∨ k = 2 ∨ k = 4 ∨ k = 8 := by
  unfold whl at h
  cases h1 : Nat.beq k 1 with
  | true => exact .inl (Nat.eq_of_beq_eq_true h1)
  | false =>
    cases h2 : Nat.beq k 2 with
    | true => exact .inr (.inl (Nat.eq_of_beq_eq_true h2))
    | false =>
      cases h4 : Nat.beq k 4 with
      | true => exact .inr (.inr (.inl (Nat.eq_of_beq_eq_true h4)))
      | false =>
        have h8 : Nat.beq k 8 = true := by
          have e : whl k = ifT (Nat.beq k 1) true (ifT (Nat.beq k 2) true (ifT (Nat.beq k 4) true (Nat.beq k 8))) := rfl
          rw [h1, h2, h4] at e
          exact e.symm.trans h
        exact .inr (.inr (.inr (Nat.eq_of_beq_eq_true h8)))
theorem thr_iff {n : Nat} {es : List Nat} {a k : Nat} (h : thr n es a k = true) : a + k ≤ n * 4096 ∧ (k = 0 ∨ pgs es (a / 4096) ((a + k - 1) / 4096) = true) := by
  have e : thr n es a k = ifT (Nat.ble (a + k) (n * 4096)) (ifT (Nat.beq k 0) true (pgs es (a / 4096) ((a + k - 1) / 4096))) false := rfl
  rw [e] at h
  cases h1 : Nat.ble (a + k) (n * 4096) with
  | false => rw [h1] at h; cases h
  | true =>
    rw [h1] at h
    refine ⟨Nat.le_of_ble_eq_true h1, ?_⟩
    cases h2 : Nat.beq k 0 with
    | true => exact .inl (Nat.eq_of_beq_eq_true h2)
    | false => rw [h2] at h; exact .inr h
end Ev
end
section
namespace Ev
open Go Go.RowKit
set_option linter.unusedVariables false
set_option linter.unusedSimpArgs false
noncomputable def andB (a b : Bool) : Bool := Bool.rec (motive := fun _ => Bool) false b a
theorem andB_iff {a b : Bool} (h : andB a b = true) : a = true ∧ b = true := by cases a with | true => exact ⟨rfl, h⟩ | false => exact Bool.noConfusion (show false = true from h)
noncomputable def isT (v : V) : Bool := V.rec (motive_1 := fun _ => Bool) (motive_2 := fun _ => Unit) false false false false (fun _ => false) (fun _ _ => false) (fun _ => false) (fun _ _ _ _ _ => false) (fun _ _ => false) (fun _ _ => false) (fun _ => false) (fun _ _ _ _ _ => false) (fun _ _ => false) (fun b => b) (fun _ _ => false) (fun _ _ => false) () (fun _ _ _ _ => ()) v
theorem isT_eq {v : V} (h : isT v = true) : v = .b true := by
  cases v with
  | b x => cases x with | true => rfl | false => exact Bool.noConfusion (show false = true from h)
  | _ => exact Bool.noConfusion (show false = true from h)
/-- a package variable's cells -/
def GlW (g ty : Nat) (l : List Nat) (w : World) : Prop := w.heap[g]? = some (.cells (l.map fun m => Value.int .i64 (Int.ofNat m)).toArray ty (0, 0))
def Base.but (w : World) (g : Nat) : Base := ⟨w, fun k => k < w.heap.size ∧ k ≠ g, fun _ h => h.1, fun _ => False⟩
/-- what is known of a closed function that reads the variable -/
def KnG (P : Program) (g ty : Nat) (l : List Nat) (f : Nat) : Prop := ∀ w, GlW g ty l w → Calls P f #[] w fun e w' => e = .returned (.bool true) ∧ Below w.heap.size w w'
section
variable {X : Spx} {P : Program} {g ty : Nat} {l : List Nat}
theorem HR.initG {w : World} (hg : GlW g ty l w) : HR X P (Base.but w g) (fun k => if k = 0 then some (g, 0) else none) (Ev.hs h0 0 (.gv g ty l)) 1 w := by
  have h0' : hget (Ev.hs h0 0 (.gv g ty l)) 0 = .gv g ty l := by rw [hget_hs _ _ (by omega) (by omega), if_pos rfl]
  have hd : ∀ k p, (if k = 0 then some (g, 0) else none : Option (Nat × Nat)) = some p → k = 0 ∧ p = (g, 0) := fun k p h => by
    split at h
    · cases h; exact ⟨by assumption, rfl⟩
    · cases h
  refine ⟨⟨rfl, rfl, rfl, Nat.le_refl _, fun _ _ => rfl⟩, by omega, fun k p h => ?_, fun k k' p p' h h' _ _ _ => ?_, fun k hk => ?_, fun k a A h hA => ?_, fun k a A h hA => ?_, fun k h => h.elim⟩
  · obtain ⟨rfl, rfl⟩ := hd k p h
    exact ⟨by omega, fun _ ho => ho.2 rfl, (Array.getElem?_eq_some_iff.1 hg).1⟩
  · rw [(hd k p h).1, (hd k' p' h').1]
  · have : k = 0 := by omega
    subst this
    rw [h0']
    exact ⟨(g, 0), if_pos rfl, rfl, hg⟩
  · obtain ⟨rfl, _⟩ := hd k A hA
    rw [h0'] at h; cases h
  · obtain ⟨rfl, _⟩ := hd k A hA
    rw [h0'] at h; cases h
end
/-- a table's entries are the program's, or none -/
def TbOK (P : Program) (b : T CF) : Prop := ∀ j, T.get CF.no b j = .no ∨ T.get CF.no b j = T.get CF.no (table P) j
noncomputable def tabL (b : T CF) (l : List (Nat × CF)) : T CF := List.rec (motive := fun _ => T CF) b (fun p _ ih => T.setK .no p.2 ih p.1 fun t => t) l
noncomputable def ftL (b : T CF) : List Rw → T CF
  | [] => b
  | .kn g v :: l => T.setK .no (.kn v) (ftL b l) g fun t => t
  | .jn g :: l => T.setK .no .jn (ftL b l) g fun t => t
  | .ar g f :: l => T.setK .no (arOf (T.get .no b g) f) (ftL b l) g fun t => t
noncomputable def okK (v : V) : R := ifT (isT v) (.fin (.b true) h0 (nat_lit 0)) (.bad (nat_lit 1))
noncomputable def runK (ft : T CF) (n f : Nat) : R := callN slots ft n (.f f [] []) [] h0 (nat_lit 0) fun v _ _ => okK v
section
variable {P : Program} {X : Spx}
theorem tabL_ok {b : T CF} (hb : TbOK P b) : ∀ {l : List (Nat × CF)}, (∀ p ∈ l, T.get CF.no (table P) p.1 = p.2) → TbOK P (tabL b l)
  | [], _ => hb
  | p :: l, h => fun j => by
    have ih := tabL_ok hb (l := l) (fun x hx => h x (List.mem_cons_of_mem _ hx)) j
    have e : T.get CF.no (tabL b (p :: l)) j = if j = p.1 then p.2 else T.get CF.no (tabL b l) j := get_setK _ _ _
    rw [e]
    split
    · rename_i e; subst e; exact .inr (h p (by simp)).symm
    · exact ih
theorem none_ok : TbOK P .e := fun j => .inl rfl
theorem ftL_ok {b : T CF} (hb : TbOK P b) : ∀ {l : List Rw}, (∀ r ∈ l, RwOK P X r) → FTok P X (ftL b l)
  | [], _ => fun j => by
    show _ ∧ _
    rcases hb j with h | h
    · show (∀ rs b' r, T.get CF.no b j = .fn rs b' r → _) ∧ _
      refine ⟨fun _ _ _ hh => ?_, fun _ hh => ?_, fun hh => ?_, fun _ _ _ _ hh => ?_⟩ <;> · exact absurd (h.symm.trans hh) (by intro h; cases h)
    · have ht := table_ok P X j
      refine ⟨fun rs b' r hh => ht.1 rs b' r (h ▸ hh), fun v hh => ht.2.1 v (h ▸ hh), fun hh => ht.2.2.1 (h ▸ hh), fun f rs b' r hh => ht.2.2.2 f rs b' r (h ▸ hh)⟩
  | r :: l, h => fun j => by
    have ih := ftL_ok hb (l := l) (fun x hx => h x (List.mem_cons_of_mem _ hx)) j
    have hr := h r (by simp)
    cases r with
    | kn g v =>
      have e : T.get CF.no (ftL b (.kn g v :: l)) j = if j = g then .kn v else T.get CF.no (ftL b l) j := get_setK _ _ _
      rw [e]
      split
      · rename_i e; subst e
        exact ⟨fun _ _ _ hh => (by cases hh), fun v hh => (by cases hh; exact hr), fun hh => (by cases hh), fun _ _ _ _ hh => (by cases hh)⟩
      · exact ih
    | jn g =>
      have e : T.get CF.no (ftL b (.jn g :: l)) j = if j = g then .jn else T.get CF.no (ftL b l) j := get_setK _ _ _
      rw [e]
      split
      · rename_i e; subst e
        exact ⟨fun _ _ _ hh => (by cases hh), fun v hh => (by cases hh), fun _ => hr, fun _ _ _ _ hh => (by cases hh)⟩
      · exact ih
    | ar g f =>
      have e : T.get CF.no (ftL b (.ar g f :: l)) j = if j = g then arOf (T.get .no b g) f else T.get CF.no (ftL b l) j := get_setK _ _ _
      rw [e]
      split
      · rename_i e; subst e
        have ht := table_ok P X j
        cases hT : T.get CF.no b j with
        | fn rs b' r =>
          refine ⟨fun _ _ _ hh => (by cases hh), fun v hh => (by cases hh), fun hh => (by cases hh), fun f' rs' b' r' hh => ?_⟩
          cases hh
          rcases hb j with h1 | h1
          · rw [hT] at h1; cases h1
          · obtain ⟨fn, h1, h2⟩ := ht.1 _ _ _ (h1 ▸ hT)
            exact ⟨fn, h1, h2, hr⟩
        | _ => exact ⟨fun _ _ _ hh => (by cases hh), fun v hh => (by cases hh), fun hh => (by cases hh), fun _ _ _ _ hh => (by cases hh)⟩
      · exact ih
theorem okK_fin {v v' : V} {h' : HP} {c' : Nat} (e : okK v = .fin v' h' c') : v = .b true := by
  unfold okK at e
  cases hb : isT v with
  | false => rw [hb] at e; cases (show R.bad 1 = _ from e)
  | true => exact isT_eq hb
/-- a run that tells true -/
theorem kn_ofK (hm : P.follows .mixedOrders = true) {b : T CF} (hb : TbOK P b) {l : List Rw} (hl : ∀ r ∈ l, RwOK P X r) {n f : Nat} (e : runK (ftL b l) (n + 1) f = .fin (.b true) h0 (nat_lit 0)) : KnOK P f (.b true) := by
  have hD := drawn_ok (X := X) hm
  have hft := ftL_ok hb hl
  obtain ⟨fn, bd, hfn, hname, hbd, v1, h1, c1, e1, w1⟩ := callE_ok hD hft (callN_ok hD hft n) (show callE slots (ftL b l) (callN slots (ftL b l) n) f [] h0 0 (fun v _ _ => okK v) = .fin (.b true) h0 0 from e)
  have := okK_fin e1; subst this
  refine ⟨fn, bd, .bool true, hfn, hname, hbd, fun ρ => by simp [den], fun w => ?_⟩
  refine (w1 (Base.all w) (fun _ => none) w [] (HR.init (Base.all w) fun _ h => h) (by simp [denL])).mono ?_
  rintro e w' ⟨y, rfl, ρ', _, hR, hd, _, _⟩
  simp only [den, Option.some.injEq] at hd
  subst hd
  exact ⟨rfl, hR.bel.os, hR.bel.tape, hR.bel.output, hR.bel.size, fun k hk => hR.bel.block k hk⟩
end
noncomputable def mk1 (b : Blk) : HP := all6 (all6 (all6 (all6 b)))
noncomputable def okGX (v : V) (h : HP) (c : Nat) : R := ifT (andB (isT v) (Nat.ble (nat_lit 1) c)) (.fin (.b true) (mk1 (hget h (nat_lit 0))) (nat_lit 0)) (.bad (nat_lit 1))
noncomputable def runGX (g ty : Nat) (l : List Nat) (ft : T CF) (n f : Nat) : R := hset (.gv g ty l) h0 (nat_lit 0) fun h => callN slots ft n (.f f [] []) [] h (nat_lit 1) fun v h c => okGX v h c
noncomputable def gvB (g : Nat) (l : List Nat) (b : Blk) : Bool := Blk.rec (motive := fun _ => Bool) false false (fun _ => false) (fun _ _ _ _ => false) (fun _ _ _ _ _ => false) (fun _ _ _ _ => false) (fun g' _ l' => andB (Nat.beq g g') (neqL l l')) b
noncomputable def gvF2 (g : Nat) (l : List Nat) (a : List V) (h : HP) (c : Nat) (k : KV) (z : R) : R :=
  List.rec (motive := fun _ => R) (ifT (andB (Nat.ble (nat_lit 1) c) (gvB g l (hget h (nat_lit 0)))) (k (.b true) h c) z) (fun _ _ _ => z) a
section
variable {P : Program} {X : Spx} {g ty : Nat} {l : List Nat}
theorem mk1_inj {a b : Blk} (h : mk1 a = mk1 b) : a = b := by
  have : hget (mk1 a) 0 = hget (mk1 b) 0 := by rw [h]
  exact this
theorem gvB_eq {b : Blk} (h : gvB g l b = true) : ∃ ty, b = .gv g ty l := by
  cases b with
  | gv g' ty l' =>
    obtain ⟨h1, h2⟩ := andB_iff (a := Nat.beq g g') h
    exact ⟨ty, by rw [Nat.eq_of_beq_eq_true h1, neqL_eq h2]⟩
  | _ => cases h
theorem glw_of {b : Base} {ρ : Rho} {h : HP} {c : Nat} {w : World} (H : HR X P b ρ h c w) (hc : 1 ≤ c) (e : hget h 0 = .gv g ty l) : GlW g ty l w := by
  have h1 := H.blk 0 hc
  rw [e] at h1
  obtain ⟨p, _, h2, h3⟩ := h1
  rw [h2] at h3; exact h3
theorem kng_ofX (hm : P.follows .mixedOrders = true) {b : T CF} (hb : TbOK P b) {rws : List Rw} (hl : ∀ r ∈ rws, RwOK P X r) {n f : Nat} (e : runGX g ty l (ftL b rws) (n + 1) f = .fin (.b true) (mk1 (.gv g ty l)) (nat_lit 0)) : KnG P g ty l f := by
  intro w hw
  unfold runGX at e
  rw [hset_eq] at e
  have hD := drawn_ok (X := X) hm
  have hft := ftL_ok hb hl
  obtain ⟨_, _, _, _, _, v1, h1, c1, q1, q2⟩ := callE_ok hD hft (callN_ok hD hft n) (show callE slots (ftL b rws) (callN slots (ftL b rws) n) f [] (Ev.hs h0 0 (.gv g ty l)) 1 (fun v h c => okGX v h c) = .fin (.b true) (mk1 (.gv g ty l)) 0 from e)
  have q1 : ifT (andB (isT v1) (Nat.ble (nat_lit 1) c1)) (R.fin (.b true) (mk1 (hget h1 (nat_lit 0))) (nat_lit 0)) (.bad (nat_lit 1)) = .fin (.b true) (mk1 (.gv g ty l)) 0 := q1
  cases hc : andB (isT v1) (Nat.ble (nat_lit 1) c1) with
  | false => rw [hc] at q1; cases (show R.bad 1 = _ from q1)
  | true =>
    rw [hc] at q1
    have q3 : R.fin (.b true) (mk1 (hget h1 0)) 0 = .fin (.b true) (mk1 (.gv g ty l)) 0 := q1
    have e3 : hget h1 0 = .gv g ty l := mk1_inj (R.fin.inj q3).2.1
    obtain ⟨e1, e2⟩ := andB_iff hc
    have := isT_eq e1; subst this
    refine (q2 _ _ w [] (HR.initG hw) rfl).mono ?_
    rintro ex w' ⟨x, rfl, ρ', _, hR, hd, _, _⟩
    simp only [den, Option.some.injEq] at hd
    subst hd
    have h2 := glw_of hR (Nat.le_of_ble_eq_true e2) e3
    refine ⟨rfl, hR.bel.os, hR.bel.tape, hR.bel.output, hR.bel.size, fun k hk => ?_⟩
    by_cases hkg : k = g
    · subst hkg; exact h2.trans hw.symm
    · exact hR.bel.block k ⟨hk, hkg⟩
theorem gvF2_ok {f : Nat} (hK : ∀ ty, KnG P g ty l f) : RwOK P X (.ar f (gvF2 g l)) := by
  intro a h c k z v' h' c' e
  cases a with
  | cons v a => exact .inl e
  | nil =>
    have e : ifT (andB (Nat.ble (nat_lit 1) c) (gvB g l (hget h (nat_lit 0)))) (k (.b true) h c) z = .fin v' h' c' := e
    cases hb : andB (Nat.ble (nat_lit 1) c) (gvB g l (hget h (nat_lit 0))) with
    | false => rw [hb] at e; exact .inl e
    | true =>
      rw [hb] at e
      obtain ⟨b1, b2⟩ := andB_iff hb
      obtain ⟨ty, b3⟩ := gvB_eq b2
      refine .inr ⟨.b true, h, c, e, fun w0 ρ w lv H hlv => ?_⟩
      cases hlv
      refine (hK ty w (glw_of H (Nat.le_of_ble_eq_true b1) b3)).mono ?_
      rintro ex w' ⟨rfl, hB⟩
      exact ⟨_, rfl, ρ, Le.refl _, H.below hB, rfl, Kp.refl _ _, Nat.le_refl _⟩
end
end Ev
end
section
namespace Ev
open Go Go.RowKit
set_option linter.unusedVariables false
set_option linter.unusedSimpArgs false
noncomputable def okV1 (x v : V) : R := ifT (veq v x) (.fin (.b true) h0 (nat_lit 0)) (.bad (nat_lit 1))
noncomputable def runV (ft : T CF) (n f : Nat) (x : V) : R := callN slots ft n (.f f [] []) [] h0 (nat_lit 0) fun v _ _ => okV1 x v
theorem kn_ofV {P : Program} {X : Spx} (hm : P.follows .mixedOrders = true) {b : T CF} (hb : TbOK P b) {l : List Rw} (hl : ∀ r ∈ l, RwOK P X r) {n f : Nat} {v : V} {x : Value} (hx : ∀ ρ, den ρ v = some x) (e : runV (ftL b l) (n + 1) f v = .fin (.b true) h0 (nat_lit 0)) : KnOK P f v := by
  have hD := drawn_ok (X := X) hm
  have hft := ftL_ok hb hl
  obtain ⟨fn, bd, hfn, hname, hbd, v1, h1, c1, e1, w1⟩ := callE_ok hD hft (callN_ok hD hft n) (show callE slots (ftL b l) (callN slots (ftL b l) n) f [] h0 0 (fun w _ _ => okV1 v w) = .fin (.b true) h0 0 from e)
  have : v1 = v := by
    unfold okV1 at e1
    cases hc : veq v1 v with
    | false => rw [hc] at e1; cases (show R.bad 1 = _ from e1)
    | true => exact veq_eq hc
  subst this
  refine ⟨fn, bd, x, hfn, hname, hbd, hx, fun w => ?_⟩
  refine (w1 (Base.all w) (fun _ => none) w [] (HR.init (Base.all w) fun _ h => h) (by simp [denL])).mono ?_
  rintro e w' ⟨y, rfl, ρ', _, hR, hd, _, _⟩
  rw [hx ρ'] at hd
  cases hd
  exact ⟨rfl, hR.bel.os, hR.bel.tape, hR.bel.output, hR.bel.size, fun k hk => hR.bel.block k hk⟩
end Ev
end
