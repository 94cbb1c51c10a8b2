/- a drawn region in whatever order. -/
import Derived.Test.YtelfddkfddnenaaGreatEvZl
namespace Ev
open Go Go.RowKit
set_option linter.unusedVariables false
set_option linter.unusedSimpArgs false
section
variable {X : Spx} {P : Program} {nt : Nat} {ops : Array Oper} {t0 : TM} {c0 : Nat} {L : Array Bool} {a a0 : Act} {ρ ρ' : Rho} {t t2 : TM}
/-- what the listed ones have yielded -/
def Vals (ops : Array Oper) (L : Array Bool) (a : Act) (ρ : Rho) (t : TM) : Prop := ∀ j oj n, ops[j]? = some oj → oj.dst = some n → L.getD j false = true → n < 256 → ∃ x, a.tmps[n]? = some x ∧ den ρ (tg t n) = some x
/-- what no listed one writes is as it was -/
def Rst (ops : Array Oper) (L : Array Bool) (a a0 : Act) : Prop := ∀ n, (∀ j oj, ops[j]? = some oj → oj.dst = some n → L.getD j false = false) → a.tmps[n]? = a0.tmps[n]?
theorem put_ne {d : Option Nat} {n : Nat} {x : Value} (h : d ≠ some n) : (a.put d x).tmps[n]? = a.tmps[n]? := by
  cases d with
  | none => rfl
  | some m => exact Array.getElem?_setIfInBounds_ne (fun e => h (by rw [e]))
theorem put_eq {n : Nat} {x : Value} (h : n < a.tmps.size) : (a.put (some n) x).tmps[n]? = some x := Array.getElem?_setIfInBounds_self_of_lt h
theorem put_size {d : Option Nat} {x : Value} : (a.put d x).tmps.size = a.tmps.size := by
  cases d with
  | none => rfl
  | some m => exact Array.size_setIfInBounds
theorem put_defers {d : Option Nat} {x : Value} : (a.put d x).defers = a.defers := by cases d <;> rfl
theorem set_ne {i j : Nat} (h : j ≠ i) : (L.setIfInBounds i true).getD j false = L.getD j false := by
  rw [Array.getD_eq_getD_getElem?, Array.getD_eq_getD_getElem?, Array.getElem?_setIfInBounds_ne (Ne.symm h)]
theorem set_self {i : Nat} (h : i < L.size) : (L.setIfInBounds i true).getD i false = true := by rw [getD_set h, if_pos rfl]
theorem set_true {i j : Nat} (hi : i < L.size) (h : L.getD j false = true) : (L.setIfInBounds i true).getD j false = true := by
  rw [getD_set hi]; split; rfl; exact h
theorem vals_put (hC : Chk ops) {i : Nat} {o : Oper} {x : Value} (hi : ops[i]? = some o) (hz : i < L.size) (V : Vals ops L a ρ t) (hle : Le ρ ρ') (hst : ∀ j oj n, ops[j]? = some oj → oj.dst = some n → L.getD j false = true → n < 256 → j ≠ i → tg t2 n = tg t n)
    (hn : ∀ n, o.dst = some n → n < a.tmps.size ∧ den ρ' (tg t2 n) = some x) : Vals ops (L.setIfInBounds i true) (a.put o.dst x) ρ' t2 := by
  intro j oj n hj hd hL hlt
  by_cases hji : j = i
  · subst hji
    rw [hi] at hj; cases hj
    rw [hd]
    exact ⟨x, put_eq (hn n hd).1, (hn n hd).2⟩
  · rw [set_ne hji] at hL
    obtain ⟨y, h1, h2⟩ := V j oj n hj hd hL hlt
    refine ⟨y, ?_, by rw [hst j oj n hj hd hL hlt hji]; exact den_mono hle _ h2⟩
    rw [put_ne (fun e => hji (hC.dd _ _ _ _ _ hj hi hd e))]; exact h1
theorem rst_put {i : Nat} {o : Oper} {x : Value} (hi : ops[i]? = some o) (hz : i < L.size) (R : Rst ops L a a0) : Rst ops (L.setIfInBounds i true) (a.put o.dst x) a0 := by
  intro n hn
  rw [put_ne fun e => ?_]
  · refine R n fun j oj hj hd => ?_
    have := hn j oj hj hd
    by_cases hji : j = i
    · subst hji; rw [set_self hz] at this; cases this
    · rw [set_ne hji] at this; exact this
  · have := hn i o hi e
    rw [set_self hz] at this; cases this
theorem lay_tr {ρ0 : Rho} {i : Nat} {o : Oper} {t' : TM} (hT0 : TR ρ0 nt t0 a0.tmps) (hle : Le ρ0 ρ) (hz : a.tmps.size = a0.tmps.size) (V : Vals ops L a ρ t) (haft : ∀ j ∈ aft ops i, L.getD j false = true) (H : Own ops i o t0 t t') : TR ρ nt t' (lay a0 a (own ops i o)).tmps := by
  refine ⟨by rw [lay_size]; exact hT0.1, fun n h1 h2 => ?_⟩
  rw [lay_get a0 a hz, H n h2]
  by_cases hin : n ∈ own ops i o
  · rw [if_pos hin, if_pos hin]
    obtain ⟨m, hm, om, hom, hd⟩ := own_mem hin
    exact V m om n hom hd (haft m hm) h2
  · rw [if_neg hin, if_neg hin]
    obtain ⟨v, g1, g2⟩ := hT0.2 n h1 h2
    exact ⟨v, g1, den_mono hle _ g2⟩
theorem lay_agrees (hC : Chk ops) {i : Nat} {o : Oper} (hi : ops[i]? = some o) (hz : a.tmps.size = a0.tmps.size) (R : Rst ops L a a0) (hD : Down ops L) (hLi : L.getD i false = false) : Agrees ops o a (lay a0 a (own ops i o)) := by
  intro n hn
  rw [lay_get a0 a hz]
  by_cases hin : n ∈ own ops i o
  · rw [if_pos hin]
  · rw [if_neg hin]
    refine R n fun j oj hj hd => ?_
    cases hL : L.getD j false with
    | false => rfl
    | true =>
      exfalso
      rcases hC.lk i j o oj n hi hj hd hn with rfl | h | h
      · rw [hLi] at hL; cases hL
      · exact hin (own_iff.2 ⟨⟨j, h, oj, hj, hd⟩, hn⟩)
      · rw [pres_sub hC.down hD (size_of hj) (fun k hk => hD j hL k hk) h] at hLi; cases hLi
/-- blocks taken in -/
theorem adopt_all (hX : ∀ A s w, ¬ X.In A s w) {w : World} {e : HP} {c : Nat} : ∀ (S : List Nat) (h hf : HP) (B : Base), Adp ops c0 e S h hf → S.Nodup →
    (∀ i ∈ S, ∃ p ty n z u, ρ (c0 + slot ops i) = some p ∧ B.out p.1 ∧ hget e (c0 + slot ops i) = .c ty n 0 z u ∧ BR X P ρ (c0 + slot ops i) w (hget e (c0 + slot ops i))) →
    (∀ i ∈ S, ∀ j ∈ S, i ≠ j → ∀ p q, ρ (c0 + slot ops i) = some p → ρ (c0 + slot ops j) = some q → p.1 ≠ q.1) → HR X P B ρ h c w →
    ∃ B' : Base, HR X P B' ρ hf c w ∧ B'.w = w ∧ (∀ k, B.no k → B'.no k) ∧ (∀ k, B'.out k ↔ B.out k ∧ ∀ i ∈ S, ∀ p, ρ (c0 + slot ops i) = some p → k ≠ p.1) ∧ Kp h hf c
  | [], h, hf, B, hA, _, _, _, H => by
    cases hA
    refine ⟨⟨w, B.out, fun k hk => Nat.lt_of_lt_of_le (B.lt k hk) H.bel.size, B.no⟩, H.base ⟨rfl, rfl, rfl, Nat.le_refl _, fun _ _ => rfl⟩ (fun k p hk hx => (H.dom k p hk).2.1 hx) H.noc, rfl, fun _ hk => hk, fun k => by simp, Kp.refl _ _⟩
  | i :: S, h, hf, B, ⟨hx, hA⟩, hnd, hE, hU, H => by
    obtain ⟨hni, hnS⟩ := List.nodup_cons.1 hnd
    obtain ⟨p, ty, n, z, u, g1, g2, g3, g4⟩ := hE i (by simp)
    have hno : ∀ k s, k < c → hget h k ≠ .sp s := fun k s hk hh => by
      have := H.blk k hk
      rw [hh] at this
      obtain ⟨q, _, q2⟩ := this
      exact hX _ _ _ q2
    have H1 := H.adopt (b' := ⟨w, fun k => B.out k ∧ k ≠ p.1, fun k hk => Nat.lt_of_lt_of_le (B.lt k hk.1) H.bel.size, B.no⟩) g1 hx g2 (fun s hh => by rw [g3] at hh; cases hh) hno g4 ⟨rfl, rfl, rfl, Nat.le_refl _, fun _ _ => rfl⟩ (fun k hk => hk) fun k hk => hk
    obtain ⟨B', k1, k2, k3, k4, k5⟩ := adopt_all hX S _ hf _ hA hnS (fun j hj => by
      obtain ⟨q, ty', n', z', u', r1, r2, r3, r4⟩ := hE j (List.mem_cons_of_mem _ hj)
      exact ⟨q, ty', n', z', u', r1, ⟨r2, hU j (List.mem_cons_of_mem _ hj) i (by simp) (fun e => hni (e ▸ hj)) q p r1 g1⟩, r3, r4⟩) (fun j hj j' hj' => hU j (List.mem_cons_of_mem _ hj) j' (List.mem_cons_of_mem _ hj')) H1
    have hlt := (H.dom _ _ g1).1
    have hle := H.le
    refine ⟨B', k1, k2, k3, fun k => ?_, Kp.trans (Kp.hs hle (by omega) fun _ hh => by rw [hx] at hh; cases hh) k5 (Nat.le_refl _)⟩
    rw [k4 k]
    constructor
    · rintro ⟨⟨q1, q2⟩, q3⟩
      refine ⟨q1, fun j hj q hq => ?_⟩
      rcases List.mem_cons.1 hj with rfl | hj
      · rw [g1] at hq; cases hq; exact q2
      · exact q3 j hj q hq
    · rintro ⟨q1, q2⟩
      exact ⟨⟨q1, q2 i (by simp) p g1⟩, fun j hj => q2 j (List.mem_cons_of_mem _ hj)⟩
end
section
variable (X : Spx) (P : Program) (nt : Nat) (ops : Array Oper) (t0 : TM) (c0 : Nat) (an : List Nat) (b : Base) (ρ0 : Rho) (h00 : HP) (c00 : Nat) (a0 : Act) (F : TM → HP → Nat → Prop)
/-- what stands between two operations -/
structure IS (l ad done : List Nat) (t : TM) (h e : HP) (c : Nat) (ρ : Rho) (B : Base) (L : Array Bool) (a : Act) (w : World) : Prop where
  rest : Rest X P nt ops t0 c0 l ad t h e c F
  pk : Pk X P nt ops t0 c0 l ad t h e c
  ch : chain (pres ops ops.size) l = true
  ha : ∀ x ∈ ad, ∀ y ∈ l, x ∈ Pr ops y
  an : an = done ++ l
  dn : ∀ x ∈ done, L.getD x false = true
  nl : ∀ x ∈ l, L.getD x false = false
  al : ∀ x ∈ ad, L.getD x false = true
  hr : HR X P B ρ h c w
  bb : Bel b B.w
  bo : ∀ k, b.out k → B.out k
  bn : ∀ k, b.no k → B.no k
  le : Le ρ0 ρ
  kp : Kp h00 h c00
  cl : c00 ≤ c
  df : a.defers = a0.defers
  sz : a.tmps.size = a0.tmps.size
  va : Vals ops L a ρ t
  rs : Rst ops L a a0
  kt : ∀ n, n < 256 → (∀ (i : Nat) (o : Oper), ops[i]? = some o → o.dst ≠ some n) → tg t n = tg t0 n
  en : ∀ i, i < ops.size → erl ops i = true → L.getD i false = false → B.no (c0 + slot ops i)
  ey : ∀ i, i < ops.size → erl ops i = true → L.getD i false = true → i ∉ ad → ∃ p ty n z u, ρ (c0 + slot ops i) = some p ∧ B.out p.1 ∧ ¬ b.out p.1 ∧ hget e (c0 + slot ops i) = .c ty n 0 z u ∧ BR X P ρ (c0 + slot ops i) w (hget e (c0 + slot ops i))
  ed : ∀ i j p q, erl ops i = true → erl ops j = true → L.getD i false = true → L.getD j false = true → i ∉ ad → j ∉ ad → i < ops.size → j < ops.size → i ≠ j → ρ (c0 + slot ops i) = some p → ρ (c0 + slot ops j) = some q → p.1 ≠ q.1
end
section
variable {X : Spx} {P : Program} {nt : Nat} {ops : Array Oper} {t0 : TM} {c0 : Nat} {an : List Nat} {b : Base} {ρ0 : Rho} {h00 : HP} {c00 : Nat} {a0 : Act} {F : TM → HP → Nat → Prop}
theorem is_step (hX : ∀ A s w, ¬ X.In A s w) (hC : Chk ops) (hT0 : TR ρ0 nt t0 a0.tmps) (hbn : ∀ k, b.no k → k < c0) (han : ∀ x, x ∈ an ↔ x < ops.size ∧ nonA ops x = false) (hnd : an.Nodup)
    {l ad done : List Nat} {t : TM} {h e : HP} {c : Nat} {ρ : Rho} {B : Base} {L : Array Bool} {a : Act} {w : World} (S : IS X P nt ops t0 c0 an b ρ0 h00 c00 a0 F l ad done t h e c ρ B L a w) (hs : L.size = ops.size) (hD : Down ops L) {i : Nat} (hi : i ∈ Region.ready .any ops L) {r : Option Nat} {n : Nat} {Q : Exit → Act → World → Prop} :
    wpOpIn (Fr r) n P ops Q i (fun a' w' => ∃ l ad done t h e c ρ B, IS X P nt ops t0 c0 an b ρ0 h00 c00 a0 F l ad done t h e c ρ B (L.setIfInBounds i true) a' w') a w := by
  obtain ⟨r1, r2, r3⟩ := ready_aft hi
  have hLi : L.getD i false = false := by
    rw [Array.getD_eq_getD_getElem?] at r2 ⊢
    rw [Array.getElem?_eq_getElem (by omega)] at r2 ⊢
    simpa using r2
  have hiL : i < L.size := by omega
  have ho : ops[i]? = some ops[i] := Array.getElem?_eq_getElem r1
  generalize hoi : ops[i] = o at ho
  have hpre : ∀ k ∈ Pr ops i, L.getD k false = true := fun k hk => pres_sub hC.down hD r1 r3 hk
  have hrd : rdB (pres ops ops.size) l i = true := rdB_iff.2 fun x hx hin => by have := S.nl x hx; rw [hpre x hin] at this; cases this
  have hia : i ∉ ad := fun hh => by rw [S.al i hh] at hLi; cases hLi
  have hAg := lay_agrees hC ho S.sz S.rs hD hLi
  have hTR : ∀ t', Own ops i o t0 t t' → TR ρ nt t' (lay a0 a (own ops i o)).tmps := fun t' H => lay_tr hT0 S.le S.sz S.va r3 H
  have hsz : nt ≤ a.tmps.size := by rw [S.sz]; exact hT0.1
  have hbw : Bel b w := S.bb.chain S.bo S.hr.bel
  have dn' : ∀ x ∈ done, (L.setIfInBounds i true).getD x false = true := fun x hx => set_true hiL (S.dn x hx)
  have al' : ∀ x ∈ ad, (L.setIfInBounds i true).getD x false = true := fun x hx => set_true hiL (S.al x hx)
  have no' : ∀ j, (L.setIfInBounds i true).getD j false = false → j ≠ i ∧ L.getD j false = false := fun j hj => by
    by_cases hji : j = i
    · subst hji; rw [set_self hiL] at hj; cases hj
    · rw [set_ne hji] at hj; exact ⟨hji, hj⟩
  have yes' : ∀ j, (L.setIfInBounds i true).getD j false = true → j ≠ i → L.getD j false = true := fun j hj hji => by rw [set_ne hji] at hj; exact hj
  cases hn : nonA ops i with
  | true =>
    have hSF := S.pk i o ho hn hrd hia
    have nl' : ∀ x ∈ l, (L.setIfInBounds i true).getD x false = false := fun x hx => by
      have hx2 := ((han x).1 (by rw [S.an]; exact List.mem_append_right _ hx)).2
      rw [set_ne fun e => by subst e; rw [hn] at hx2; cases hx2]; exact S.nl x hx
    rcases nonA_cases ho hn with ⟨hl, hL⟩ | ⟨hl, hE, hEr⟩
    · obtain ⟨t', v, g1, g2, g3⟩ := hSF.1 hL
      have hne : ∀ j, erl ops j = true → j ≠ i := fun j hj e => by
        subst e
        unfold erl at hj
        rw [ho] at hj
        have : isEarly o.op = true := hj
        rw [light_early hL] at this; cases this
      refine g3.go ho hL S.hr (hTR t' g1) hAg fun x hx => ⟨l, ad, done, t, h, e, c, ρ, B, ⟨S.rest, S.pk, S.ch, S.ha, S.an, dn', nl', al', S.hr, S.bb, S.bo, S.bn, S.le, S.kp, S.cl, by rw [put_defers]; exact S.df, by rw [put_size]; exact S.sz, ?_, rst_put ho hiL S.rs, S.kt, ?_, ?_, ?_⟩⟩
      · refine vals_put hC ho hiL S.va (Le.refl _) (fun _ _ _ _ _ _ _ _ => rfl) fun m hm => ?_
        obtain ⟨q1, q2, q3⟩ := g2 m hm
        exact ⟨Nat.lt_of_lt_of_le q1 hsz, by rw [q3]; exact hx⟩
      · exact fun j hj her hjL => S.en j hj her (no' j hjL).2
      · exact fun j hj her hjL hja => S.ey j hj her (yes' j hjL (hne j her)) hja
      · exact fun j j' p q her her' hjL hjL' hja hja' hj hj' hjj => S.ed j j' p q her her' (yes' j hjL (hne j her)) (yes' j' hjL' (hne j' her')) hja hja' hj hj' hjj
    · obtain ⟨t', v, m, g1, g2, g3, g4, g5, g6, g7, g8⟩ := hSF.2 hE
      obtain ⟨ty, n', z, u, q1, q2, q3⟩ := g8
      obtain ⟨cs, x, k1, k2, k3, k4⟩ := q3 ρ w _ (hTR t' g1)
      have hno := S.en i r1 hEr hLi
      obtain ⟨hic, hin⟩ := S.hr.noc _ hno
      obtain ⟨H2, hle⟩ := S.hr.early hic g7 hin (.cells cs ty) 0 (by have := S.hr.bel.size; simp; omega) (by simp)
      have hns : (∀ cs b, o.op ≠ .select cs b) ∧ ∀ c, o.op ≠ .defer c := ⟨fun _ _ hh => (by rw [hh] at hE; cases hE), fun _ hh => (by rw [hh] at hE; cases hE)⟩
      unfold wpOpIn
      simp only [ho]
      rw [if_pos (by simp [Region.wanted, g5])]
      refine ⟨fun _ _ => trivial, ?_⟩
      rw [Oper.semAt_eq _ _ _ hns.2, hAg.exec hns.1, k4]
      have hwk : ∀ k, k < w.heap.size → (w.alloc (.cells cs ty)).heap[k]? = w.heap[k]? := fun k hk => Below.heap_alloc w _ k hk
      refine ⟨l, ad, done, t, h, e, c, _, _, ⟨S.rest, S.pk, S.ch, S.ha, S.an, dn', nl', al', H2, hbw.alloc _, fun k hk => .inl (S.bo k hk), fun k hk => ⟨S.bn k hk, fun e => by have := hbn k hk; omega⟩, S.le.trans hle, S.kp, S.cl, by rw [put_defers]; exact S.df, by rw [put_size]; exact S.sz, ?_, rst_put ho hiL S.rs, S.kt, ?_, ?_, ?_⟩⟩
      · refine vals_put hC ho hiL S.va hle (fun _ _ _ _ _ _ _ _ => rfl) fun m' hm => ?_
        rw [g2] at hm; cases hm
        exact ⟨Nat.lt_of_lt_of_le g3.1 hsz, by rw [g4]; exact k3 _ (up_self _ _ _)⟩
      · intro j hj her hjL
        refine ⟨S.en j hj her (no' j hjL).2, fun e => (no' j hjL).1 (slot_inj her hEr (by omega))⟩
      · intro j hj her hjL hja
        by_cases hji : j = i
        · subst hji
          refine ⟨(w.heap.size, 0), ty, n', z, u, up_self _ _ _, .inr rfl, fun hh => ?_, q1, ?_⟩
          · have := b.lt _ hh
            have := hbw.size
            simp only at *; omega
          · rw [q1]
            exact ⟨(w.heap.size, 0), cs, up_self _ _ _, by rw [World.alloc]; simp, q2, by omega, fun _ => k1, fun hh => absurd rfl hh, k2.mono hle⟩
        · obtain ⟨p, ty', n'', z', u', s1, s2, s3, s4, s5⟩ := S.ey j hj her (yes' j hjL hji) hja
          refine ⟨p, ty', n'', z', u', hle _ _ s1, .inl s2, s3, s4, s5.mono hle (fun p' hp' => hwk _ (S.hr.dom _ _ hp').2.2) fun a' p' ha' => ?_⟩
          rw [s4] at ha'; cases ha'
      · intro j j' p q her her' hjL hjL' hja hja' hj hj' hjj hp hq
        have old : ∀ j p, erl ops j = true → j ≠ i → up ρ (c0 + slot ops i) (w.heap.size, 0) (c0 + slot ops j) = some p → ρ (c0 + slot ops j) = some p := fun j p her hji hp => by
          unfold up at hp
          rw [if_neg fun e => hji (slot_inj her hEr (by omega))] at hp
          exact hp
        by_cases hji : j = i
        · subst hji
          rw [up_self] at hp; cases hp
          have := (S.hr.dom _ _ (old j' q her' (fun e => hjj e.symm) hq)).2.2
          simp only; omega
        · by_cases hji' : j' = i
          · subst hji'
            rw [up_self] at hq; cases hq
            have := (S.hr.dom _ _ (old j p her hji hp)).2.2
            simp only; omega
          · exact S.ed j j' p q her her' (yes' j hjL hji) (yes' j' hjL' hji') hja hja' hj hj' hjj (old j p her hji hp) (old j' q her' hji' hq)
  | false =>
    have hil : i ∈ l := by
      have := (han i).2 ⟨r1, hn⟩
      rw [S.an] at this
      rcases List.mem_append.1 this with h1 | h1
      · rw [S.dn i h1] at hLi; cases hLi
      · exact h1
    cases l with
    | nil => cases hil
    | cons x l =>
      obtain ⟨hc1, hc2⟩ := chain_iff.1 S.ch
      have hxi : i = x := by
        rcases List.mem_cons.1 hil with h1 | h1
        · exact h1
        · have := S.nl x (by simp)
          rw [hpre x (hc1 i h1)] at this; cases this
      subst hxi
      obtain ⟨o', hA, t', u1, h1, c1, t2, e2, q1, q2, q3, ⟨hok, q4⟩, q5, q6, q7, q8, q9⟩ := S.rest
      rw [ho] at q1; cases q1
      have hner : erl ops i = false := by
        unfold nonA at hn; simp only [Bool.or_eq_false_iff] at hn; exact hn.2
      -- the listed ones are old
      have hnew : ∀ j, L.getD j false = true → j < ops.size → New ops l i j = false := fun j hj hjs => by
        have : rdB (pres ops ops.size) (i :: l) j = true := rdB_iff.2 fun y hy hin => by
          have := S.nl y hy
          rw [pres_sub hC.down hD hjs (fun k hk => hD j hj k hk) hin] at this; cases this
        simp [New, this]
      have hmemS : ∀ j, j ∈ (ixs ops fun j => erl ops j && elm j (Pr ops i) && !elm j ad) → j < ops.size ∧ erl ops j = true ∧ j ∈ Pr ops i ∧ j ∉ ad := fun j hj => by
        obtain ⟨s1, s2⟩ := mem_ixs.1 hj
        simp only [Bool.and_eq_true, Bool.not_eq_true', elm_iff, elm_no] at s2
        exact ⟨s1, s2.1.1, s2.1.2, s2.2⟩
      obtain ⟨B', k1, k2, k3, k4, k5⟩ := adopt_all hX _ _ _ _ q2 ((ixs_lt _).imp fun h => Nat.ne_of_lt h) (fun j hj => by
        obtain ⟨s1, s2, s3, s4⟩ := hmemS j hj
        obtain ⟨p, ty, n', z, u, z1, z2, z3, z4, z5⟩ := S.ey j s1 s2 (hpre j s3) s4
        exact ⟨p, ty, n', z, u, z1, z2, z4, z5⟩) (fun j hj j' hj' hjj p q hp hq => by
        obtain ⟨s1, s2, s3, s4⟩ := hmemS j hj
        obtain ⟨y1, y2, y3, y4⟩ := hmemS j' hj'
        exact S.ed j j' p q s2 y2 (hpre j s3) (hpre j' y3) s4 y4 s1 y1 hjj hp hq) S.hr
      have main : ∀ v w', (∃ ρ', Le ρ ρ' ∧ HR X P B' ρ' h1 c1 w' ∧ TR ρ' nt u1 ((lay a0 a (own ops i o)).put o.dst v).tmps ∧ Kp hA h1 c ∧ c ≤ c1) →
          ∃ l ad done t h e c ρ B, IS X P nt ops t0 c0 an b ρ0 h00 c00 a0 F l ad done t h e c ρ B (L.setIfInBounds i true) (a.put o.dst v) w' := by
        rintro v w' ⟨ρ', l1, l2, l3, l4, l5⟩
        have hnd2 : (i :: l).Nodup := by rw [S.an] at hnd; exact (List.nodup_append.1 hnd).2.1
        refine ⟨l, Pr ops i, done ++ [i], t2, h1, e2, c1, ρ', B', ⟨q9, q8, hc2, fun y hy y' hy' => pres_trans hC.down ((han y').1 (by rw [S.an]; simp [hy'])).1 (hc1 y' hy') hy, by rw [S.an]; simp, fun y hy => ?_, fun y hy => ?_, fun y hy => set_true hiL (hpre y hy), l2, by rw [k2]; exact hbw, fun k hk => ?_, fun k hk => k3 k (S.bn k hk), S.le.trans l1, (S.kp.trans k5 S.cl).trans l4 S.cl, Nat.le_trans S.cl l5, by rw [put_defers]; exact S.df, by rw [put_size]; exact S.sz, ?_, rst_put ho hiL S.rs, ?_, ?_, ?_, ?_⟩⟩
        · rcases List.mem_append.1 hy with hy | hy
          · exact dn' y hy
          · simp only [List.mem_singleton] at hy; subst hy; exact set_self hiL
        · rw [set_ne fun e => (List.nodup_cons.1 hnd2).1 (by rw [← e]; exact hy)]
          exact S.nl y (List.mem_cons_of_mem _ hy)
        · refine (k4 k).2 ⟨S.bo k hk, fun j hj p hp e => ?_⟩
          obtain ⟨s1, s2, s3, s4⟩ := hmemS j hj
          obtain ⟨p', ty, n', z, u, z1, z2, z3, z4, z5⟩ := S.ey j s1 s2 (hpre j s3) s4
          rw [hp] at z1; cases z1
          exact z3 (e ▸ hk)
        · refine vals_put hC ho hiL S.va l1 (fun j oj m hj hd hjL hm hji => q6 m hm (fun e => hji (hC.dd _ _ _ _ _ hj ho hd e)) fun i' o' hi' hd' => ?_) fun m hm => ?_
          · rw [hC.dd _ _ _ _ _ hi' hj hd' hd]; exact hnew j hjL (size_of hj)
          · obtain ⟨s1, s2, s3⟩ := q5 m hm
            refine ⟨Nat.lt_of_lt_of_le s1 hsz, ?_⟩
            obtain ⟨y, y1, y2⟩ := l3.2 m s1 s2
            rw [hm, put_eq (by rw [lay_size]; exact Nat.lt_of_lt_of_le s1 hT0.1)] at y1
            cases y1
            rw [s3]; exact y2
        · intro m hm hh
          rw [q6 m hm (hh i o ho) fun i' o' hi' hd' => absurd hd' (hh i' o' hi')]
          exact S.kt m hm hh
        · exact fun j hj her hjL => k3 _ (S.en j hj her (no' j hjL).2)
        · intro j hj her hjL hja
          have hji : j ≠ i := fun e => by subst e; rw [hner] at her; cases her
          have hjo := yes' j hjL hji
          have hjad : j ∉ ad := fun hh => hja (S.ha j hh i (by simp))
          obtain ⟨p, ty, n', z, u, z1, z2, z3, z4, z5⟩ := S.ey j hj her hjo hjad
          have hlt := (S.hr.dom _ _ z1).1
          have hle := S.hr.le
          have he2 := q7 j her (by omega) (hnew j hjo hj)
          have hout : B'.out p.1 := (k4 _).2 ⟨z2, fun j' hj' q hq => by
            obtain ⟨s1, s2, s3, s4⟩ := hmemS j' hj'
            exact S.ed j j' p q her s2 hjo (hpre j' s3) hjad s4 hj s1 (fun e => hja (e ▸ s3)) z1 hq⟩
          refine ⟨p, ty, n', z, u, l1 _ _ z1, hout, z3, by rw [he2]; exact z4, ?_⟩
          rw [he2]
          refine z5.mono l1 (fun p' hp' => ?_) fun a' p' ha' => ?_
          · rw [z1] at hp'; cases hp'
            rw [l2.bel.block _ hout, k2]
          · rw [z4] at ha'; cases ha'
        · intro j j' p q her her' hjL hjL' hja hja' hj hj' hjj hp hq
          have hji : j ≠ i := fun e => by subst e; rw [hner] at her; cases her
          have hji' : j' ≠ i := fun e => by subst e; rw [hner] at her'; cases her'
          have hjo := yes' j hjL hji
          have hjo' := yes' j' hjL' hji'
          have hjad : j ∉ ad := fun hh => hja (S.ha j hh i (by simp))
          have hjad' : j' ∉ ad := fun hh => hja' (S.ha j' hh i (by simp))
          obtain ⟨p1, _, _, _, _, z1, _⟩ := S.ey j hj her hjo hjad
          obtain ⟨p2, _, _, _, _, z2, _⟩ := S.ey j' hj' her' hjo' hjad'
          have e1 := l1 _ _ z1
          have e2 := l1 _ _ z2
          rw [hp] at e1; cases e1
          rw [hq] at e2; cases e2
          exact S.ed j j' p q her her' hjo hjo' hjad hjad' hj hj' hjj z1 z2
      have hAW := q4 B' ρ (lay a0 a (own ops i o)) w r n (fun _ _ _ => False) (fun a1 w1 => ∃ ρ', Le ρ ρ' ∧ HR X P B' ρ' h1 c1 w1 ∧ TR ρ' nt u1 a1.tmps ∧ Kp hA h1 c ∧ c ≤ c1 ∧ a1.defers = (lay a0 a (own ops i o)).defers) k1 (hTR t' q3) fun ρ' a1 w1 l1 l2 l3 l4 l5 l6 => ⟨ρ', l1, l2, l3, l4, l5, l6⟩
      unfold wpOpIn
      simp only [ho]
      rw [hAg.wanted]
      have hsel : (∀ cs b, o.op ≠ .select cs b) ∧ ∀ c, o.op ≠ .defer c := ⟨fun _ _ hh => (by rw [hh] at hok; cases hok), fun _ hh => (by rw [hh] at hok; cases hok)⟩
      split
      · rename_i hw
        rw [if_pos hw] at hAW
        refine wpIn_agrees hAg hsel.1 hsel.2 hAW (fun v w' ⟨ρ', l1, l2, l3, l4, l5, l6⟩ => main v w' ⟨ρ', l1, l2, l3, l4, l5⟩) fun a1 w1 ⟨ρ', l1, l2, l3, l4, l5, l6⟩ => l6
      · rename_i hw
        rw [if_neg hw] at hAW
        obtain ⟨ρ', l1, l2, l3, l4, l5, l6⟩ := hAW
        exact ⟨fun _ _ => trivial, main undef w ⟨ρ', l1, l2, l3, l4, l5⟩⟩
end
end Ev
