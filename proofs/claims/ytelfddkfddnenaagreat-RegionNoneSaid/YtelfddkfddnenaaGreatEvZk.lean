/- what a drawn region's steps leave: static words. -/
import Derived.Test.YtelfddkfddnenaaGreatEvZj
namespace Ev
open Go Go.RowKit
set_option linter.unusedVariables false
set_option linter.unusedSimpArgs false
theorem elm_iff {i : Nat} : ∀ {l : List Nat}, elm i l = true ↔ i ∈ l
  | [] => by simp [elm]
  | j :: l => by
    have ih := elm_iff (i := i) (l := l)
    unfold elm
    cases hb : Nat.beq i j with
    | true => simp [Nat.eq_of_beq_eq_true hb]
    | false => simp [ih, Nat.ne_of_beq_eq_false hb]
theorem elm_no {i : Nat} {l : List Nat} : elm i l = false ↔ i ∉ l := by
  rw [← elm_iff]; simp
theorem mem_ins {k i : Nat} {l : List Nat} : k ∈ ins i l ↔ k = i ∨ k ∈ l := by
  unfold ins
  cases hb : elm i l with
  | true =>
    simp only [cond_true]
    exact ⟨.inr, fun h => h.elim (fun e => e ▸ elm_iff.1 hb) id⟩
  | false => simp
theorem mem_uni {k : Nat} {b : List Nat} : ∀ {a : List Nat}, k ∈ uni a b ↔ k ∈ a ∨ k ∈ b
  | [] => by simp [uni]
  | j :: a => by
    have ih := mem_uni (k := k) (b := b) (a := a)
    show k ∈ ins j (uni a b) ↔ _
    rw [mem_ins, ih]; simp [or_assoc]
theorem mem_fold {k : Nat} {g : Nat → List Nat} : ∀ {l : List Nat}, k ∈ l.foldr (fun j s => ins j (uni (g j) s)) [] ↔ ∃ j ∈ l, k = j ∨ k ∈ g j
  | [] => by simp
  | i :: l => by
    have ih := mem_fold (k := k) (g := g) (l := l)
    rw [List.foldr_cons, mem_ins, mem_uni, ih]
    simp only [List.mem_cons, exists_eq_or_imp]
    rw [or_assoc]
section
variable {ops : Array Oper}
theorem mem_ixs {p : Nat → Bool} {i : Nat} : i ∈ ixs ops p ↔ i < ops.size ∧ p i = true := by simp [ixs]
theorem ixs_lt (p : Nat → Bool) : (ixs ops p).Pairwise (· < ·) := List.Pairwise.filter _ List.pairwise_lt_range
theorem pres_len : ∀ n, (pres ops n).length = n
  | 0 => rfl
  | n + 1 => by simp [pres, pres_len n]
theorem pres_get : ∀ {n i : Nat}, i < n → (pres ops n).getD i [] = (aft ops i).foldr (fun j s => ins j (uni ((pres ops i).getD j []) s)) []
  | n + 1, i, h => by
    show (pres ops n ++ [_]).getD i [] = _
    by_cases hi : i < n
    · rw [← pres_get hi]
      simp [List.getD, List.getElem?_append_left (show i < (pres ops n).length by rw [pres_len]; exact hi)]
    · have : i = n := by omega
      subst this
      simp [List.getD, pres_len]
theorem pres_mem {n i k : Nat} (hd : ∀ i, i < n → ∀ j ∈ aft ops i, j < i) (hi : i < n) : k ∈ (pres ops n).getD i [] ↔ ∃ j ∈ aft ops i, k = j ∨ k ∈ (pres ops n).getD j [] := by
  rw [pres_get hi, mem_fold]
  have key : ∀ j ∈ aft ops i, (pres ops i).getD j [] = (pres ops n).getD j [] := fun j hj => by
    have hji := hd i hi j hj
    rw [pres_get hji, pres_get (show j < n by omega)]
  constructor
  · rintro ⟨j, hj, h⟩; exact ⟨j, hj, h.imp id fun h => by rw [← key j hj]; exact h⟩
  · rintro ⟨j, hj, h⟩; exact ⟨j, hj, h.imp id fun h => by rw [key j hj]; exact h⟩
theorem pres_trans {n : Nat} (hd : ∀ i, i < n → ∀ j ∈ aft ops i, j < i) : ∀ {i j k : Nat}, i < n → j ∈ (pres ops n).getD i [] → k ∈ (pres ops n).getD j [] → k ∈ (pres ops n).getD i [] := by
  intro i
  induction i using Nat.strongRecOn with
  | _ i ih =>
    intro j k hi hj hk
    obtain ⟨m, hm, h⟩ := (pres_mem hd hi).1 hj
    have hmi := hd i hi m hm
    rcases h with rfl | h
    · exact (pres_mem hd hi).2 ⟨j, hm, .inr hk⟩
    · exact (pres_mem hd hi).2 ⟨m, hm, .inr (ih m hmi (by omega) h hk)⟩
/-- what must have come up has -/
theorem pres_sub {n : Nat} (hd : ∀ i, i < n → ∀ j ∈ aft ops i, j < i) {L : Array Bool} (hL : Down ops L) : ∀ {i k : Nat}, i < n → (∀ j ∈ aft ops i, L.getD j false = true) → k ∈ (pres ops n).getD i [] → L.getD k false = true := by
  intro i
  induction i using Nat.strongRecOn with
  | _ i ih =>
    intro k hi ha hk
    obtain ⟨m, hm, h⟩ := (pres_mem hd hi).1 hk
    have hmi := hd i hi m hm
    rcases h with rfl | h
    · exact ha _ hm
    · exact ih m hmi (by omega) (fun j hj => hL m (ha m hm) j hj) h
/-- what is known of a region's operations -/
structure Chk (ops : Array Oper) : Prop where
  down : ∀ i, i < ops.size → ∀ j ∈ aft ops i, j < i
  dd : ∀ (i j : Nat) (oi oj : Oper) (n : Nat), ops[i]? = some oi → ops[j]? = some oj → oi.dst = some n → oj.dst = some n → i = j
  lk : ∀ (i j : Nat) (oi oj : Oper) (n : Nat), ops[i]? = some oi → ops[j]? = some oj → oj.dst = some n → n ∈ oi.looksAt ops → i = j ∨ j ∈ aft ops i ∨ i ∈ (pres ops ops.size).getD j []
theorem fRw_eq {β : Type} {r : Row} {q : Row → β} : fRw r q = q r := by
  cases r with
  | mk i d l a p =>
    show (fN i fun i => fL d fun d => fL l fun l => fL a fun a => fL p fun p => q (.mk i d l a p)) = _
    rw [fN_eq, fL_eq, fL_eq, fL_eq, fL_eq]
theorem fRs_eq {β : Type} : ∀ {l : List Row} {q : List Row → β}, fRs l q = q l
  | [], _ => rfl
  | r :: l, q => by
    show fRw r (fun r => fRs l fun l => q (r :: l)) = _
    rw [fRw_eq, fRs_eq]
theorem fLL_eq {β : Type} : ∀ {l : List (List Nat)} {q : List (List Nat) → β}, fLL l q = q l
  | [], _ => rfl
  | r :: l, q => by
    show fL r (fun r => fLL l fun l => q (r :: l)) = _
    rw [fL_eq, fLL_eq]
theorem size_of {i : Nat} {o : Oper} (h : ops[i]? = some o) : i < ops.size := (Array.getElem?_eq_some_iff.1 h).1
theorem chk_ok (h : chk ((List.range ops.size).map (rowOf ops (pres ops ops.size))) = true) : Chk ops := by
  unfold chk at h
  rw [List.all_eq_true] at h
  have hrow : ∀ (i : Nat) (o : Oper), ops[i]? = some o → rowOf ops (pres ops ops.size) i = .mk i o.dst.toList (looks ops o) (aft ops i) ((pres ops ops.size).getD i []) := fun i o ho => by
    unfold rowOf; rw [ho]
  have hmem : ∀ i, i < ops.size → rowOf ops (pres ops ops.size) i ∈ (List.range ops.size).map (rowOf ops (pres ops ops.size)) := fun i hi => List.mem_map.2 ⟨i, by simpa using hi, rfl⟩
  have hD : ∀ i, i < ops.size → ∀ j ∈ aft ops i, j < i := fun i hi j hj => by
    have h1 := h _ (hmem i hi)
    simp only [Bool.and_eq_true] at h1
    rw [hrow i ops[i] (Array.getElem?_eq_getElem hi)] at h1
    have h2 := h1.1
    unfold okD at h2
    rw [List.all_eq_true] at h2
    exact Nat.blt_eq ▸ h2 j hj
  have hP : ∀ (i j : Nat) (oi oj : Oper) (n : Nat), ops[i]? = some oi → ops[j]? = some oj → oj.dst = some n → i = j ∨ (oi.dst ≠ some n ∧ (n ∉ looks ops oi ∨ j ∈ aft ops i ∨ i ∈ (pres ops ops.size).getD j [])) := fun i j oi oj n hi hj hn => by
    have h1 := h _ (hmem i (size_of hi))
    simp only [Bool.and_eq_true] at h1
    have h2 := h1.2
    rw [List.all_eq_true] at h2
    have h3 := h2 _ (hmem j (size_of hj))
    rw [hrow i oi hi, hrow j oj hj] at h3
    unfold okP at h3
    rw [List.all_eq_true] at h3
    have h4 := h3 n (by rw [hn]; simp)
    simp only [Bool.or_eq_true, Bool.and_eq_true, Bool.not_eq_true', elm_iff, elm_no] at h4
    rcases h4 with h4 | ⟨h4, h5⟩
    · exact .inl (Nat.eq_of_beq_eq_true h4)
    · refine .inr ⟨fun e => h4 (by rw [e]; simp), ?_⟩
      rcases h5 with (h5 | h5) | h5
      · exact .inl h5
      · exact .inr (.inl h5)
      · exact .inr (.inr h5)
  refine ⟨hD, fun i j oi oj n hi hj hni hnj => ?_, fun i j oi oj n hi hj hn hl => ?_⟩
  · rcases hP i j oi oj n hi hj hnj with h1 | ⟨h1, _⟩
    · exact h1
    · exact absurd hni h1
  · rcases hP i j oi oj n hi hj hn with h1 | ⟨_, h1⟩
    · exact .inl h1
    · rcases h1 with h1 | h1
      · exact absurd hl h1
      · exact .inr h1
theorem slot_succ (i : Nat) : slot ops (i + 1) = slot ops i + if erl ops i = true then 1 else 0 := by
  unfold slot
  rw [List.range_succ, List.filter_append, List.length_append]
  cases h : erl ops i <;> simp [h]
theorem slot_mono {i j : Nat} (h : i ≤ j) : slot ops i ≤ slot ops j := by
  induction j with
  | zero => have : i = 0 := by omega
            subst this; exact Nat.le_refl _
  | succ j ih =>
    by_cases hj : i = j + 1
    · subst hj; exact Nat.le_refl _
    · have := ih (by omega)
      rw [slot_succ]; omega
theorem slot_lt {i j : Nat} (h : i < j) (he : erl ops i = true) : slot ops i < slot ops j := by
  have h1 := slot_mono (ops := ops) (show i + 1 ≤ j by omega)
  rw [slot_succ, if_pos he] at h1; omega
theorem slot_inj {i j : Nat} (hi : erl ops i = true) (hj : erl ops j = true) (h : slot ops i = slot ops j) : i = j := by
  rcases Nat.lt_trichotomy i j with h1 | h1 | h1
  · have := slot_lt h1 hi; omega
  · exact h1
  · have := slot_lt h1 hj; omega
theorem own_mem {i n : Nat} {o : Oper} (h : n ∈ own ops i o) : ∃ m ∈ aft ops i, ∃ om, ops[m]? = some om ∧ om.dst = some n := by
  unfold own at h
  rw [List.mem_filter, List.mem_filterMap] at h
  obtain ⟨⟨m, hm, hd⟩, _⟩ := h
  cases ho : ops[m]? with
  | none => rw [ho] at hd; cases hd
  | some om => rw [ho] at hd; exact ⟨m, hm, om, ho, hd⟩
theorem own_iff {i n : Nat} {o : Oper} : n ∈ own ops i o ↔ (∃ m ∈ aft ops i, ∃ om, ops[m]? = some om ∧ om.dst = some n) ∧ n ∈ looks ops o := by
  constructor
  · intro h
    refine ⟨own_mem h, ?_⟩
    unfold own at h
    exact elm_iff.1 (List.mem_filter.1 h).2
  · rintro ⟨⟨m, hm, om, ho, hd⟩, hl⟩
    unfold own
    rw [List.mem_filter, List.mem_filterMap]
    exact ⟨⟨m, hm, by rw [ho]; exact hd⟩, elm_iff.2 hl⟩
theorem nonA_cases {i : Nat} {o : Oper} (ho : ops[i]? = some o) (h : nonA ops i = true) : (lgt ops i = true ∧ isLight o.op = true) ∨ (lgt ops i = false ∧ isEarly o.op = true ∧ erl ops i = true) := by
  unfold nonA lgt erl at *
  rw [ho] at *
  simp only [Bool.or_eq_true] at *
  cases hl : isLight o.op with
  | true => exact .inl ⟨rfl, rfl⟩
  | false => rw [hl] at h; exact .inr ⟨rfl, by simpa using h, by simpa using h⟩
theorem light_early {op : Op} (h : isLight op = true) : isEarly op = false := by cases op <;> first | rfl | cases h
section
variable (X : Spx) (P : Program) (nt : Nat) (ops : Array Oper) (t0 : TM) (c0 : Nat)
/-- what is known of an operation that has been reckoned -/
def SF (i : Nat) (o : Oper) (t : TM) (h e : HP) (c : Nat) : Prop :=
  (isLight o.op = true → ∃ t' v, Own ops i o t0 t t' ∧ (∀ n, o.dst = some n → n < nt ∧ n < 256 ∧ tg t n = v) ∧ FL X P nt ops o t' h c v) ∧
  (isEarly o.op = true → ∃ t' v n, Own ops i o t0 t t' ∧ o.dst = some n ∧ (n < nt ∧ n < 256) ∧ tg t n = v ∧ o.guard = none ∧ c0 + slot ops i ≤ 65535 ∧ hget h (c0 + slot ops i) = .x ∧ ES P nt o t' (c0 + slot ops i) v (hget e (c0 + slot ops i)))
end
section
variable {X : Spx} {P : Program} {nt : Nat} {t0 : TM} {c0 : Nat}
theorem Own.to {i : Nat} {o : Oper} {t t1 t' : TM} (H : Own ops i o t0 t t') (h : ∀ n, n < 256 → n ∈ own ops i o → tg t1 n = tg t n) : Own ops i o t0 t1 t' := fun n hn => by
  rw [H n hn]
  split
  · rename_i hin; rw [h n hn hin]
  · rfl
/-- operations reckoned in their order -/
theorem all_stp (hC : Chk ops) {cal : CAL} {h : HP} {c : Nat} {df : List Nat} {k : TM → HP → HP → Nat → R} {v' : V} {h' : HP} {c' : Nat} : ∀ (L : List Nat) (s : SC) (t : TM) (e : HP), L.Pairwise (· < ·) → (∀ i ∈ L, nonA ops i = true ∧ i < ops.size) →
    cAll (stp P (types P) nt ops) L = .mk s → s t0 c0 cal t h e c df k = .fin v' h' c' →
    ∃ t2 e2, k t2 h e2 c = .fin v' h' c' ∧ (∀ i ∈ L, ∀ o, ops[i]? = some o → SF X P nt ops t0 c0 i o t2 h e2 c) ∧ (∀ n, n < 256 → (∀ i ∈ L, ∀ o, ops[i]? = some o → o.dst ≠ some n) → tg t2 n = tg t n) ∧
      (∀ j, j ≤ 65535 → (∀ i ∈ L, erl ops i = true → j ≠ c0 + slot ops i) → hget e2 j = hget e j)
  | [], s, t, e, _, _, hs, E => by
    cases hs
    exact ⟨t, e, E, fun i hi => (by cases hi), fun _ _ _ => rfl, fun _ _ _ => rfl⟩
  | i :: L, s, t, e, hp, hn, hs, E => by
    unfold cAll at hs
    split at hs
    · rename_i a b h1 h2
      cases hs
      obtain ⟨hp1, hp2⟩ := List.pairwise_cons.1 hp
      obtain ⟨hni, hil⟩ := hn i (by simp)
      have hiL : ∀ j ∈ L, i < j := hp1
      have ho : ops[i]? = some ops[i] := Array.getElem?_eq_getElem hil
      have E1 : a t0 c0 cal t h e c df (fun t h e c => b t0 c0 cal t h e c df k) = .fin v' h' c' := E
      -- what stays from here on
      have own_old : ∀ n, n ∈ own ops i ops[i] → ∀ j ∈ i :: L, ∀ oj, ops[j]? = some oj → oj.dst ≠ some n := fun n hn' j hj oj hoj hd => by
        obtain ⟨m, hm, om, hom, hdm⟩ := own_mem hn'
        have e1 := hC.dd _ _ _ _ _ hoj hom hd hdm
        have := hC.down i hil m hm
        rcases List.mem_cons.1 hj with rfl | hj
        · omega
        · have := hiL j hj; omega
      have dst_old : ∀ n, ops[i].dst = some n → ∀ j ∈ L, ∀ oj, ops[j]? = some oj → oj.dst ≠ some n := fun n hn' j hj oj hoj hd => by
        have e1 := hC.dd _ _ _ _ _ hoj ho hd hn'
        have := hiL j hj; omega
      unfold stp at h1
      rcases nonA_cases ho hni with ⟨hl, hL⟩ | ⟨hl, hE, hEr⟩
      · rw [hl] at h1
        obtain ⟨v, t', t1, g1, g2, g3, g4, g5⟩ := cSt_light (X := X) h1 ho hL E1
        obtain ⟨t2, e2, k1, k2, k3, k4⟩ := all_stp hC L b t1 e hp2 (fun j hj => hn j (List.mem_cons_of_mem _ hj)) h2 g4
        have ht1 : ∀ n, n < 256 → ops[i].dst ≠ some n → tg t1 n = tg t n := fun n hn' hd => by
          cases hdst : ops[i].dst with
          | none => rw [hdst] at g2; have : t1 = t := g2; rw [this]
          | some m =>
            rw [hdst] at g2 hd
            have : t1 = ts t m v := g2
            rw [this, tg_ts _ _ (g3 m hdst).2 hn', if_neg (fun e => hd (by rw [e]))]
        refine ⟨t2, e2, k1, fun j hj o hoj => ?_, fun n hn' hd => ?_, fun j hj hd => k4 j hj fun i' hi' => hd i' (List.mem_cons_of_mem _ hi')⟩
        · rcases List.mem_cons.1 hj with rfl | hj
          · rw [ho] at hoj; cases hoj
            refine ⟨fun _ => ⟨t', v, g1.to fun n hn' hin => ?_, fun n hd => ⟨(g3 n hd).1, (g3 n hd).2, ?_⟩, g5⟩, fun he => by rw [light_early hL] at he; cases he⟩
            · rw [k3 n hn' fun j' hj' oj' hoj' => own_old n hin j' (List.mem_cons_of_mem _ hj') oj' hoj', ht1 n hn' (own_old n hin _ (by simp) _ ho)]
            · rw [k3 n (g3 n hd).2 (dst_old n hd)]
              rw [hd] at g2
              have : t1 = ts t n v := g2
              rw [this, tg_ts _ _ (g3 n hd).2 (g3 n hd).2, if_pos rfl]
          · exact k2 j hj o hoj
        · rw [k3 n hn' fun j hj => hd j (List.mem_cons_of_mem _ hj), ht1 n hn' (hd i (by simp) _ ho)]
      · rw [hl] at h1
        obtain ⟨v, b', t', n0, g1, g2, g3, g4, g5, gx, g6, g7⟩ := cNw_early h1 ho hE E1
        obtain ⟨t2, e2, k1, k2, k3, k4⟩ := all_stp hC L b _ _ hp2 (fun j hj => hn j (List.mem_cons_of_mem _ hj)) h2 g6
        have hslot : ∀ j ∈ L, erl ops j = true → c0 + slot ops i ≠ c0 + slot ops j := fun j hj hjr e => by
          have := slot_lt (hiL j hj) hEr; omega
        refine ⟨t2, e2, k1, fun j hj o hoj => ?_, fun n hn' hd => ?_, fun j hj hd => ?_⟩
        · rcases List.mem_cons.1 hj with rfl | hj
          · rw [ho] at hoj; cases hoj
            refine ⟨fun hh => (by rw [light_early hh] at hE; cases hE), fun _ => ⟨t', v, n0, g1.to fun n hn' hin => ?_, g2, g3, ?_, g4, g5, gx, ?_⟩⟩
            · rw [k3 n hn' fun j' hj' oj' hoj' => own_old n hin j' (List.mem_cons_of_mem _ hj') oj' hoj', tg_ts _ _ g3.2 hn', if_neg fun e => own_old n hin _ (by simp) _ ho (by rw [e]; exact g2)]
            · rw [k3 n0 g3.2 (dst_old n0 g2), tg_ts _ _ g3.2 g3.2, if_pos rfl]
            · rw [k4 _ g5 hslot, hget_hs _ _ (by omega) (by omega), if_pos rfl]; exact g7
          · exact k2 j hj o hoj
        · rw [k3 n hn' fun j hj => hd j (List.mem_cons_of_mem _ hj), tg_ts _ _ g3.2 hn', if_neg fun e => hd i (by simp) _ ho (by rw [e]; exact g2)]
        · rw [k4 j hj fun i' hi' => hd i' (List.mem_cons_of_mem _ hi'), hget_hs _ _ (by omega) (by omega), if_neg (hd i (by simp) hEr)]
    · cases hs
/-- what is known of an operation that is reckoned again -/
def RF (X : Spx) (P : Program) (nt : Nat) (ops : Array Oper) (t0 : TM) (c0 i : Nat) (o : Oper) (t : TM) (h : HP) (c : Nat) : Prop :=
  (isLight o.op = true → ∃ t' v, Own ops i o t0 t t' ∧ (∀ n, o.dst = some n → n < nt ∧ n < 256 ∧ tg t n = v) ∧ FL X P nt ops o t' h c v) ∧
  (isEarly o.op = true → hget h (c0 + slot ops i) = .x)
theorem all_rec {cal : CAL} {t : TM} {h e : HP} {c : Nat} {df : List Nat} {k : TM → HP → HP → Nat → R} {v' : V} {h' : HP} {c' : Nat} : ∀ (L : List Nat) (s : SC), (∀ i ∈ L, nonA ops i = true ∧ i < ops.size) →
    cAll (rec' P (types P) nt ops) L = .mk s → s t0 c0 cal t h e c df k = .fin v' h' c' → k t h e c = .fin v' h' c' ∧ ∀ i ∈ L, ∀ o, ops[i]? = some o → RF X P nt ops t0 c0 i o t h c
  | [], s, _, hs, E => by cases hs; exact ⟨E, fun i hi => (by cases hi)⟩
  | i :: L, s, hn, hs, E => by
    unfold cAll at hs
    split at hs
    · rename_i a b h1 h2
      cases hs
      obtain ⟨hni, hil⟩ := hn i (by simp)
      have ho : ops[i]? = some ops[i] := Array.getElem?_eq_getElem hil
      have E1 : a t0 c0 cal t h e c df (fun t h e c => b t0 c0 cal t h e c df k) = .fin v' h' c' := E
      unfold rec' at h1
      rcases nonA_cases ho hni with ⟨hl, hL⟩ | ⟨hl, hE, hEr⟩
      · rw [hl] at h1
        obtain ⟨v, t', g1, g2, g3, g4⟩ := cRe_light (X := X) h1 ho hL E1
        obtain ⟨k1, k2⟩ := all_rec L b (fun j hj => hn j (List.mem_cons_of_mem _ hj)) h2 g3
        refine ⟨k1, fun j hj o hoj => ?_⟩
        rcases List.mem_cons.1 hj with rfl | hj
        · rw [ho] at hoj; cases hoj
          exact ⟨fun _ => ⟨t', v, g1, g2, g4⟩, fun he => by rw [light_early hL] at he; cases he⟩
        · exact k2 j hj o hoj
      · rw [hl] at h1
        cases h1
        obtain ⟨g1, g2⟩ := ifX_fin (show ifX (hget h (c0 + slot ops i)) (b t0 c0 cal t h e c df k) = .fin v' h' c' from E1)
        obtain ⟨k1, k2⟩ := all_rec L b (fun j hj => hn j (List.mem_cons_of_mem _ hj)) h2 g2
        refine ⟨k1, fun j hj o hoj => ?_⟩
        rcases List.mem_cons.1 hj with rfl | hj
        · rw [ho] at hoj; cases hoj
          exact ⟨fun hh => (by rw [light_early hh] at hE; cases hE), fun _ => g1⟩
        · exact k2 j hj o hoj
    · cases hs
/-- blocks that are taken in -/
def Adp (ops : Array Oper) (c0 : Nat) (e : HP) : List Nat → HP → HP → Prop
  | [], h, hf => hf = h
  | i :: L, h, hf => hget h (c0 + slot ops i) = .x ∧ Adp ops c0 e L (Ev.hs h (c0 + slot ops i) (hget e (c0 + slot ops i))) hf
theorem all_stA {cal : CAL} {t : TM} {e : HP} {c : Nat} {df : List Nat} {k : TM → HP → HP → Nat → R} {v' : V} {h' : HP} {c' : Nat} : ∀ (L : List Nat) (s : SC) (h : HP),
    cAll (stA ops) L = .mk s → s t0 c0 cal t h e c df k = .fin v' h' c' → ∃ hf, Adp ops c0 e L h hf ∧ k t hf e c = .fin v' h' c'
  | [], s, h, hs, E => by cases hs; exact ⟨h, rfl, E⟩
  | i :: L, s, h, hs, E => by
    unfold cAll at hs
    split at hs
    · rename_i a b h1 h2
      cases hs
      cases h1
      have E1 : (fN (c0 + slot ops i) fun id => ifX (hget h id) (fBk (hget e id) fun bl => hset bl h id fun h => b t0 c0 cal t h e c df k)) = .fin v' h' c' := E
      rw [fN_eq] at E1
      obtain ⟨g1, g2⟩ := ifX_fin E1
      rw [fBk_eq, hset_eq] at g2
      obtain ⟨hf, k1, k2⟩ := all_stA L b _ h2 g2
      exact ⟨hf, ⟨g1, k1⟩, k2⟩
    · cases hs
end
end
end Ev
