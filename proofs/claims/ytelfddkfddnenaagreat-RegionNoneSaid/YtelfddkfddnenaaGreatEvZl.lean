/- a drawn region, from one anchored operation to the next: static words. -/
import Derived.Test.YtelfddkfddnenaaGreatEvZk
namespace Ev
open Go Go.RowKit
set_option linter.unusedVariables false
set_option linter.unusedSimpArgs false
section
variable (X : Spx) (P : Program) (nt : Nat) (ops : Array Oper) (t0 : TM) (c0 : Nat)
abbrev Pr (ops : Array Oper) (i : Nat) : List Nat := (pres ops ops.size).getD i []
/-- how far those behind no one of l are new -/
def New (ops : Array Oper) (l : List Nat) (a i : Nat) : Bool := nonA ops i && rdB (pres ops ops.size) l i && !rdB (pres ops ops.size) (a :: l) i
def Pk (l p : List Nat) (t : TM) (h e : HP) (c : Nat) : Prop := ∀ i o, ops[i]? = some o → nonA ops i = true → rdB (pres ops ops.size) l i = true → i ∉ p → SF X P nt ops t0 c0 i o t h e c
def Rest : List Nat → List Nat → TM → HP → HP → Nat → (TM → HP → Nat → Prop) → Prop
  | [], ad, t, h, e, c, F => ∃ hf, Adp ops c0 e (ixs ops fun i => erl ops i && !elm i ad) h hf ∧ F t hf c
  | a :: l, ad, t, h, e, c, F => ∃ o hA t' u1 h1 c1 t2 e2, ops[a]? = some o ∧ Adp ops c0 e (ixs ops fun i => erl ops i && elm i (Pr ops a) && !elm i ad) h hA ∧ Own ops a o t0 t t' ∧ (okS o.op = true ∧ AW X P nt ops o t' hA c u1 h1 c1) ∧
     (∀ n, o.dst = some n → n < nt ∧ n < 256 ∧ tg t2 n = tg u1 n) ∧
     (∀ n, n < 256 → o.dst ≠ some n → (∀ i o', ops[i]? = some o' → o'.dst = some n → New ops l a i = false) → tg t2 n = tg t n) ∧
     (∀ i, erl ops i = true → c0 + slot ops i ≤ 65535 → New ops l a i = false → hget e2 (c0 + slot ops i) = hget e (c0 + slot ops i)) ∧
     Pk X P nt ops t0 c0 l (Pr ops a) t2 h1 e2 c1 ∧ Rest l (Pr ops a) t2 h1 e2 c1 F
end
section
variable {X : Spx} {P : Program} {nt : Nat} {ops : Array Oper} {t0 : TM} {c0 : Nat}
theorem rdB_iff {pr : List (List Nat)} {l : List Nat} {i : Nat} : rdB pr l i = true ↔ ∀ a ∈ l, a ∉ pr.getD i [] := by
  unfold rdB
  rw [List.all_eq_true]
  exact ⟨fun h a ha hin => (by have := h a ha; rw [elm_iff.2 hin] at this; cases this), fun h a ha => by rw [elm_no.2 (h a ha)]; rfl⟩
theorem rdB_tail {pr : List (List Nat)} {a : Nat} {l : List Nat} {i : Nat} (h : rdB pr (a :: l) i = true) : rdB pr l i = true := rdB_iff.2 fun b hb => rdB_iff.1 h b (List.mem_cons_of_mem _ hb)
theorem chain_iff {pr : List (List Nat)} {a : Nat} {l : List Nat} : chain pr (a :: l) = true ↔ (∀ b ∈ l, a ∈ pr.getD b []) ∧ chain pr l = true := by
  show ((l.all fun b => elm a (pr.getD b [])) && chain pr l) = true ↔ _
  rw [Bool.and_eq_true, List.all_eq_true]
  simp only [elm_iff]
theorem aft_pres (hC : Chk ops) {i m : Nat} (hi : i < ops.size) (hm : m ∈ aft ops i) : m ∈ Pr ops i := (pres_mem hC.down hi).2 ⟨m, hm, .inl rfl⟩
/-- what an old one's own temporaries are written by is old -/
theorem old_aft (hC : Chk ops) {a i m : Nat} {l : List Nat} (hi : i < ops.size) (h : rdB (pres ops ops.size) (a :: l) i = true) (hm : m ∈ aft ops i) : m ≠ a ∧ New ops l a m = false := by
  have hr := rdB_iff.1 h
  have hmi := aft_pres hC hi hm
  refine ⟨fun e => hr a (by simp) (e ▸ hmi), ?_⟩
  have : rdB (pres ops ops.size) (a :: l) m = true := rdB_iff.2 fun b hb hin => hr b hb (pres_trans hC.down hi hmi hin)
  simp [New, this]
theorem sqB_mk {a b : Bx SC} {s : SC} (h : sqB a b = .mk s) : ∃ x y, a = .mk x ∧ b = .mk y ∧ s = sqS x y := by
  unfold sqB at h
  split at h
  · cases h; exact ⟨_, _, rfl, rfl, rfl⟩
  · cases h
theorem segs_rest (hC : Chk ops) {cal : CAL} (hcal : CalOK X P cal) {df : List Nat} {k : TM → HP → HP → Nat → R} {v' : V} {h' : HP} {c' : Nat} : ∀ (l ad : List Nat) (s : SC) (t : TM) (h e : HP) (c : Nat), segs P (types P) nt ops (pres ops ops.size) l ad = .mk s →
    chain (pres ops ops.size) l = true → (∀ x ∈ ad, ∀ a ∈ l, x ∈ Pr ops a) → (∀ a ∈ l, a < ops.size ∧ nonA ops a = false) → Pk X P nt ops t0 c0 l ad t h e c → s t0 c0 cal t h e c df k = .fin v' h' c' →
    Rest X P nt ops t0 c0 l ad t h e c fun t h c => ∃ e, k t h e c = .fin v' h' c'
  | [], ad, s, t, h, e, c, hs, _, _, _, _, E => by
    obtain ⟨hf, h1, h2⟩ := all_stA _ _ _ hs E
    exact ⟨hf, h1, e, h2⟩
  | a :: l, ad, s, t, h, e, c, hs, hch, had, han, hPk, E => by
    unfold segs at hs
    obtain ⟨s1, r1, h1, hs1, rfl⟩ := sqB_mk hs
    obtain ⟨s2, r2, h2, hs2, rfl⟩ := sqB_mk hs1
    obtain ⟨s3, r3, h3, hs3, rfl⟩ := sqB_mk hs2
    obtain ⟨s4, r4, h4, h5, rfl⟩ := sqB_mk hs3
    obtain ⟨hal, haA⟩ := han a (by simp)
    have ho : ops[a]? = some ops[a] := Array.getElem?_eq_getElem hal
    obtain ⟨hA, g1, E1⟩ := all_stA _ _ _ h1 E
    obtain ⟨t', u1, hh1, c1, t1, g2, g3, g4, E2, gok, g5⟩ := cSt_anch (X := X) h2 ho hcal E1
    obtain ⟨E3, g6⟩ := all_rec (X := X) _ _ (fun i hi => by
      obtain ⟨q1, q2⟩ := mem_ixs.1 hi
      simp only [Bool.and_eq_true] at q2
      exact ⟨q2.1.1, q1⟩) h3 E2
    obtain ⟨t2, e2, E4, g7, g8, g9⟩ := all_stp (X := X) hC _ _ _ _ (ixs_lt _) (fun i hi => by
      obtain ⟨q1, q2⟩ := mem_ixs.1 hi
      simp only [Bool.and_eq_true] at q2
      exact ⟨q2.1.1, q1⟩) h4 E3
    obtain ⟨hc1, hc2⟩ := chain_iff.1 hch
    have hnew : ∀ i, i < ops.size → New ops l a i = true → i ∈ ixs ops fun i => nonA ops i && rdB (pres ops ops.size) l i && !rdB (pres ops ops.size) (a :: l) i := fun i hi hn => mem_ixs.2 ⟨hi, hn⟩
    have hold : ∀ i, i ∈ (ixs ops fun i => nonA ops i && rdB (pres ops ops.size) l i && !rdB (pres ops ops.size) (a :: l) i) → New ops l a i = true := fun i hi => (mem_ixs.1 hi).2
    -- an old temporary's value
    have hstay : ∀ n, n < 256 → (∀ i o', ops[i]? = some o' → o'.dst = some n → New ops l a i = false) → tg t2 n = tg t1 n := fun n hn hh => g8 n hn fun i hi o hoi hd => by
      have := hh i o hoi hd
      rw [hold i hi] at this; cases this
    have hown : ∀ i o n, ops[i]? = some o → rdB (pres ops ops.size) (a :: l) i = true → n ∈ own ops i o → ops[a].dst ≠ some n ∧ ∀ i' o', ops[i']? = some o' → o'.dst = some n → New ops l a i' = false := fun i o n hoi hr hin => by
      obtain ⟨m, hm, om, hom, hdm⟩ := own_mem hin
      obtain ⟨q1, q2⟩ := old_aft hC (size_of hoi) hr hm
      exact ⟨fun hd => q1 (hC.dd _ _ _ _ _ hom ho hdm hd), fun i' o' ho' hd' => by rw [hC.dd _ _ _ _ _ ho' hom hd' hdm]; exact q2⟩
    have hdst : ∀ i o n, ops[i]? = some o → nonA ops i = true → rdB (pres ops ops.size) (a :: l) i = true → o.dst = some n → ops[a].dst ≠ some n ∧ ∀ i' o', ops[i']? = some o' → o'.dst = some n → New ops l a i' = false := fun i o n hoi hni hr hd => by
      refine ⟨fun hd2 => ?_, fun i' o' ho' hd' => ?_⟩
      · have := hC.dd _ _ _ _ _ hoi ho hd hd2
        subst this
        rw [haA] at hni; cases hni
      · rw [hC.dd _ _ _ _ _ ho' hoi hd' hd]; simp [New, hr]
    refine ⟨ops[a], hA, t', u1, hh1, c1, t2, e2, ho, g1, g2, ⟨gok, g5⟩, fun n hd => ?_, fun n hn hd hh => ?_, fun i hi hle hN => ?_, ?_, ?_⟩
    · obtain ⟨q1, q2, q3⟩ := g3 n hd
      refine ⟨q1, q2, ?_⟩
      rw [hstay n q2 fun i o' ho' hd' => ?_, q3]
      have := hC.dd _ _ _ _ _ ho' ho hd' hd
      subst this
      simp [New, haA]
    · rw [hstay n hn hh, g4 n hn hd]
    · refine g9 _ hle fun i' hi' her e => ?_
      have := slot_inj hi her (by omega)
      subst this
      rw [hold i hi'] at hN; cases hN
    all_goals
      have hPk2 : Pk X P nt ops t0 c0 l (Pr ops a) t2 hh1 e2 c1 := by
        intro i o hoi hni hr hip
        cases hr2 : rdB (pres ops ops.size) (a :: l) i with
        | false => exact g7 i (hnew i (size_of hoi) (by simp [New, hni, hr, hr2])) o hoi
        | true =>
          have hRF := g6 i (mem_ixs.2 ⟨size_of hoi, by have hq : elm i ((pres ops ops.size).getD a []) = false := elm_no.2 hip; rw [hq, hni, hr2]; rfl⟩) o hoi
          refine ⟨fun hl => ?_, fun he => ?_⟩
          · obtain ⟨tt, v, q1, q2, q3⟩ := hRF.1 hl
            refine ⟨tt, v, q1.to fun n hn hin => hstay n hn (hown i o n hoi hr2 hin).2, fun n hd => ?_, q3⟩
            obtain ⟨q4, q5, q6⟩ := q2 n hd
            exact ⟨q4, q5, by rw [hstay n q5 (hdst i o n hoi hni hr2 hd).2]; exact q6⟩
          · have hia : i ∉ ad := fun hin => hip (had i hin a (by simp))
            obtain ⟨tt, v, n, q1, q2, q3, q4, q5, q6, q7, q8⟩ := (hPk i o hoi hni hr2 hia).2 he
            have hto : ∀ n, n < 256 → ops[a].dst ≠ some n → (∀ i' o', ops[i']? = some o' → o'.dst = some n → New ops l a i' = false) → tg t2 n = tg t n := fun n hn hd hh => by rw [hstay n hn hh, g4 n hn hd]
            refine ⟨tt, v, n, q1.to fun n hn hin => hto n hn (hown i o n hoi hr2 hin).1 (hown i o n hoi hr2 hin).2, q2, q3, ?_, q5, q6, hRF.2 he, ?_⟩
            · rw [hto n q3.2 (hdst i o n hoi hni hr2 q2).1 (hdst i o n hoi hni hr2 q2).2]; exact q4
            · have her : erl ops i = true := by unfold erl; rw [hoi]; exact he
              rw [g9 _ q6 fun i' hi' her' e => ?_]
              · exact q8
              · have := slot_inj her her' (by omega)
                subst this
                have := hold i hi'
                simp [New, hr2] at this
    · exact hPk2
    · refine segs_rest hC hcal l (Pr ops a) _ t2 hh1 e2 c1 h5 hc2 (fun x hx b hb => pres_trans hC.down (han b (List.mem_cons_of_mem _ hb)).1 (hc1 b hb) hx) (fun b hb => han b (List.mem_cons_of_mem _ hb)) hPk2 E4
/-- where it ends -/
theorem rest_fix {F : TM → HP → Nat → Prop} : ∀ {l ad : List Nat} {t : TM} {h e : HP} {c : Nat}, Rest X P nt ops t0 c0 l ad t h e c F → ∃ t1 h1 c1, F t1 h1 c1 ∧ Rest X P nt ops t0 c0 l ad t h e c fun t h c => t = t1 ∧ h = h1 ∧ c = c1
  | [], ad, t, h, e, c, ⟨hf, h1, h2⟩ => ⟨t, hf, c, h2, hf, h1, rfl, rfl, rfl⟩
  | a :: l, ad, t, h, e, c, ⟨o, hA, t', u1, h1, c1, t2, e2, q1, q2, q3, q4, q5, q6, q7, q8, q9⟩ => by
    obtain ⟨tf, hf, cf, k1, k2⟩ := rest_fix q9
    exact ⟨tf, hf, cf, k1, o, hA, t', u1, h1, c1, t2, e2, q1, q2, q3, q4, q5, q6, q7, q8, k2⟩
end
end Ev
